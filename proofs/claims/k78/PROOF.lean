import PyProof.Rows.All
import Wide.All
import OpenK.AllK
import Wide.FinOn
import HandS.ForMost
import HandS.ForExc
import HandS.Deep
import HandS.Wide
import HandS.TryMany
import HandS.ExcIs
import HandS.Style
import HandS.Flow
import HandS.Strs
import HandS.SetBool
import HandS.IsInst
import HandS.Zip
import HandS.TupSets
import KE.SortData
import KE.DataMinMax
import PyProof.Rows.RowBridgeK
import HandS.TupAny
import HandS.Gcd
import KE.GoesZip
import KE.GoesMore
import HandS.Iter
import HandS.SortKw
import KE.KMathG
import HandS.Star
import HandS.Conv
import KE.GoesEnum
import KE.KDictZip
import KE.KItemsList
import KE.KStar
import HandS.WideMore
import HandS.DictComp
import HandS.Dict
import PySem.Challenge.RW_turnprimes_k78_root_pairs
set_option Elab.async false
set_option linter.all false
set_option maxRecDepth 100000
set_option maxHeartbeats 4000000
namespace TB
open PySem L2

abbrev D := PyData
/-- a tree of one's own: data, lists, dicts whose keys are ints and texts, dicts whose keys are tuples of them, what is frozen -/
inductive Own where
  | dat (d : D)
  | lst (os : List Own)
  | dk (kvs : List (Key × Own))
  | dt (kvs : List (List Key × Own))
  | fz (o : Own)
/-- what is known of a slot: nothing; data; a list of this def's own; just this value; a tree of this def's own -/
inductive S where
  | u
  | d (x : D)
  | own (ds : List D)
  | r (v : V)
  | q (o : Own)
/-- what comes of an expression: data; a new list that nobody else holds; an error of the class at c; a new tree; an error of the class at c with the field f -/
inductive Out where
  | v (x : D)
  | o (ds : List D)
  | x (c : Addr)
  | q (o : Own)
  | xf (c : Addr) (f : Str) (x : D)

def Ex (F H : Hp) : Prop := ∀ a o, F a = some o → H a = some o
theorem Ex.refl (H : Hp) : Ex H H := fun _ _ h => h
theorem Ex.trans {A B C : Hp} (a : Ex A B) (b : Ex B C) : Ex A C := fun p o h => b p o (a p o h)
theorem Ex.new {H : Hp} {p : Addr} {o : HO} (h : H p = none) : Ex H (upd H p o) := fun a u e => by
  rw [upd_ne (ne_of_none e h)]
  exact e
theorem Ex.none {F H : Hp} (e : Ex F H) {p : Addr} (h : H p = Option.none) : F p = Option.none := by
  cases q : F p with
  | none => rfl
  | some o =>
    rw [e p o q] at h
    cases h
/-- F: what is frozen, H: all that is tracked -/
structure Fz (F H F' H' : Hp) : Prop where
  f : Ex F F'
  h : Ex H H'
  s : Ex F' H'
  n : ∀ p o, F p = none → H p = some o → F' p = none
theorem Fz.refl {F H : Hp} (s : Ex F H) : Fz F H F H := ⟨Ex.refl _, Ex.refl _, s, fun _ _ h _ => h⟩
theorem Fz.trans {F H F1 H1 F2 H2 : Hp} (a : Fz F H F1 H1) (b : Fz F1 H1 F2 H2) : Fz F H F2 H2 :=
  ⟨a.f.trans b.f, a.h.trans b.h, b.s, fun p o h1 h2 => b.n p o (a.n p o h1 h2) (a.h p o h2)⟩
/-- a new frozen object -/
theorem Fz.new {F H : Hp} {p : Addr} {o : HO} (s : Ex F H) (hp : H p = none) : Fz F H (upd F p o) (upd H p o) := by
  refine ⟨Ex.new (s.none hp), Ex.new hp, fun a u e => ?_, fun q u h1 h2 => ?_⟩
  · by_cases h : a = p
    · subst h
      rw [upd_same] at e ⊢
      exact e
    · rw [upd_ne h] at e ⊢
      exact s a u e
  · have h : q ≠ p := ne_of_none h2 hp
    rw [upd_ne h]
    exact h1
/-- a new object of one's own -/
theorem Fz.fresh {F H : Hp} {p : Addr} {o : HO} (s : Ex F H) (hp : H p = none) : Fz F H F (upd H p o) :=
  ⟨Ex.refl _, Ex.new hp, s.trans (Ex.new hp), fun _ _ h _ => h⟩
/-- an object of one's own is frozen -/
theorem Fz.freeze {F H : Hp} {p : Addr} {o : HO} (s : Ex F H) (hp : H p = some o) (hf : F p = none) : Ex F (upd F p o) ∧ Ex (upd F p o) H := by
  refine ⟨Ex.new hf, fun a u e => ?_⟩
  by_cases h : a = p
  · subst h
    rw [upd_same] at e
    cases e
    exact hp
  · rw [upd_ne h] at e
    exact s a u e

theorem rd_ex {F H : Hp} {a : Addr} {u : HO} (e : Ex F H) (h : Rd F a u) : Rd H a u := by
  rcases h with h | ⟨o, h⟩
  · exact Or.inl (e a _ h)
  · exact Or.inr ⟨o, e a _ h⟩
theorem sl_ex {K : PySem.W.Frag} {F H : Hp} {a : Addr} {xs : List V} (e : Ex F H) (h : SqL K F a xs) : SqL K H a xs := by
  rcases h with h | h
  · exact Or.inl (rd_ex e h)
  · exact Or.inr h
theorem st_ex {K : PySem.W.Frag} {F H : Hp} {a : Addr} {xs : List V} (e : Ex F H) (h : SqT K F a xs) : SqT K H a xs := by
  rcases h with h | h
  · exact Or.inl (rd_ex e h)
  · exact Or.inr h
section
variable {K : PySem.W.Frag} {F H : Hp}
mutual
theorem dp_ex (e : Ex F H) : ∀ (d : D) (v : V), Dp K F v d → Dp K H v d
  | .none, _, h => by
    cases h
    exact .non
  | .bool b, _, h => by
    cases h
    exact .bl b
  | .int i, _, h => by
    cases h
    exact .int i
  | .str x, _, h => by
    cases h
    exact .str x
  | .list ds, _, h => by
    cases h with
    | lst hs ha => exact .lst (sl_ex e hs) (da_ex e ds _ ha)
  | .tuple ds, _, h => by
    cases h with
    | tup hs ha => exact .tup (st_ex e hs) (da_ex e ds _ ha)
  | .dict _, _, h => by cases h
theorem da_ex (e : Ex F H) : ∀ (ds : List D) (vs : List V), DpAll K F vs ds → DpAll K H vs ds
  | [], _, h => by
    cases h
    exact .nil
  | d :: ds, _, h => by
    cases h with
    | cons h1 h2 => exact .cons (dp_ex e d _ h1) (da_ex e ds _ h2)
end
end
section
variable {K : PySem.W.Frag} {F H : Hp}
theorem da_len : ∀ {vs : List V} {ds : List D}, DpAll K F vs ds → vs.length = ds.length
  | _, [], h => by cases h; rfl
  | _, d :: ds, h => by
    cases h with
    | cons _ h2 => rw [List.length_cons, List.length_cons, da_len h2]
theorem da_app : ∀ {vs us : List V} {ds es : List D}, DpAll K F vs ds → DpAll K F us es → DpAll K F (vs ++ us) (ds ++ es)
  | _, _, [], _, h, g => by cases h; exact g
  | _, _, d :: ds, _, h, g => by
    cases h with
    | cons h1 h2 => exact .cons h1 (da_app h2 g)
theorem da_get : ∀ {vs : List V} {ds : List D} {i : Nat} {d : D}, DpAll K F vs ds → ds[i]? = some d → ∃ v, vs[i]? = some v ∧ Dp K F v d
  | _, [], i, d, h, e => by simp at e
  | _, x :: ds, 0, d, h, e => by
    cases h with
    | cons h1 _ =>
      simp at e
      subst e
      exact ⟨_, rfl, h1⟩
  | _, x :: ds, i + 1, d, h, e => by
    cases h with
    | cons _ h2 =>
      obtain ⟨v, a, b⟩ := da_get (i := i) h2 (by simpa using e)
      exact ⟨v, by simpa using a, b⟩
theorem da_get' : ∀ {vs : List V} {ds : List D} {i : Nat} {v : V}, DpAll K F vs ds → vs[i]? = some v → ∃ d, ds[i]? = some d ∧ Dp K F v d
  | _, [], i, v, h, e => by cases h; simp at e
  | _, x :: ds, 0, v, h, e => by
    cases h with
    | cons h1 _ =>
      simp at e
      subst e
      exact ⟨_, rfl, h1⟩
  | _, x :: ds, i + 1, v, h, e => by
    cases h with
    | cons _ h2 =>
      obtain ⟨v, a, b⟩ := da_get' (i := i) h2 (by simpa using e)
      exact ⟨v, by simpa using a, b⟩
theorem da_set : ∀ {vs : List V} {ds : List D} (i : Nat) {v : V} {d : D}, DpAll K F vs ds → Dp K F v d → DpAll K F (vs.set i v) (ds.set i d)
  | _, [], i, v, d, h, e => by cases h; exact .nil
  | _, x :: ds, 0, v, d, h, e => by
    cases h with
    | cons _ h2 => exact .cons e h2
  | _, x :: ds, i + 1, v, d, h, e => by
    cases h with
    | cons h1 h2 => exact .cons h1 (da_set i h2 e)
theorem da_ints : ∀ {ns : List Int} {vs : List V}, DpAll K F vs (ns.map PyData.int) → vs = ns.map V.int
  | [], _, h => by cases h; rfl
  | n :: ns, _, h => by
    cases h with
    | cons h1 h2 =>
      cases h1
      rw [da_ints h2]
      rfl
theorem da_of_ints : ∀ (ns : List Int), DpAll K F (ns.map V.int) (ns.map PyData.int)
  | [] => .nil
  | n :: ns => .cons (.int n) (da_of_ints ns)
theorem da_take : ∀ {vs : List V} {ds : List D} (n : Nat), DpAll K F vs ds → DpAll K F (vs.take n) (ds.take n)
  | _, _, 0, _ => by simp; exact .nil
  | _, [], n + 1, h => by cases h; exact .nil
  | _, d :: ds, n + 1, h => by
    cases h with
    | cons h1 h2 => exact .cons h1 (da_take n h2)
theorem da_drop : ∀ {vs : List V} {ds : List D} (n : Nat), DpAll K F vs ds → DpAll K F (vs.drop n) (ds.drop n)
  | _, _, 0, h => by simpa using h
  | _, [], n + 1, h => by cases h; exact .nil
  | _, d :: ds, n + 1, h => by
    cases h with
    | cons h1 h2 => exact da_drop n h2
end

/-! ### trees of one's own -/
mutual
inductive OA (K : PySem.W.Frag) (F : Hp) : Hp → Own → V → List Addr → Prop
  | dat {H : Hp} {d : D} {v : V} : Dp K F v d → OA K F H (.dat d) v []
  | lst {H : Hp} {p : Addr} {xs : List V} {os : List Own} {fp : List Addr} : H p = some (.lst xs) → OL K F H os xs fp → OA K F H (.lst os) (.ref p) (p :: fp)
  | dk {H : Hp} {p : Addr} {kvs : List (Key × V)} {os : List (Key × Own)} {fp : List Addr} : H p = some (.dK kvs) → kvs.map (·.1) = os.map (·.1) → OL K F H (os.map (·.2)) (kvs.map (·.2)) fp → OA K F H (.dk os) (.ref p) (p :: fp)
  | dt {H : Hp} {p : Addr} {kvs : List (List Key × V)} {os : List (List Key × Own)} {fp : List Addr} : H p = some (.dT kvs) → kvs.map (·.1) = os.map (·.1) → OL K F H (os.map (·.2)) (kvs.map (·.2)) fp → OA K F H (.dt os) (.ref p) (p :: fp)
  | fz {H : Hp} {o : Own} {v : V} {fp : List Addr} : OA K F F o v fp → OA K F H (.fz o) v []
inductive OL (K : PySem.W.Frag) (F : Hp) : Hp → List Own → List V → List Addr → Prop
  | nil {H : Hp} : OL K F H [] [] []
  | cons {H : Hp} {o : Own} {v : V} {os : List Own} {vs : List V} {f1 f2 : List Addr} : OA K F H o v f1 → OL K F H os vs f2 → OL K F H (o :: os) (v :: vs) (f1 ++ f2)
end
section
variable {K : PySem.W.Frag} {F : Hp}
mutual
theorem oa_some : ∀ {H : Hp} {o : Own} {v : V} {fp : List Addr}, OA K F H o v fp → ∀ a ∈ fp, ∃ u, H a = some u
  | _, _, _, _, .dat _, a, h => by cases h
  | _, _, _, _, .lst e l, a, h => by
    rcases List.mem_cons.mp h with h | h
    · subst h; exact ⟨_, e⟩
    · exact ol_some l a h
  | _, _, _, _, .dk e _ l, a, h => by
    rcases List.mem_cons.mp h with h | h
    · subst h; exact ⟨_, e⟩
    · exact ol_some l a h
  | _, _, _, _, .dt e _ l, a, h => by
    rcases List.mem_cons.mp h with h | h
    · subst h; exact ⟨_, e⟩
    · exact ol_some l a h
  | _, _, _, _, .fz _, a, h => by cases h
theorem ol_some : ∀ {H : Hp} {os : List Own} {vs : List V} {fp : List Addr}, OL K F H os vs fp → ∀ a ∈ fp, ∃ u, H a = some u
  | _, _, _, _, .nil, a, h => by cases h
  | _, _, _, _, .cons x l, a, h => by
    rcases List.mem_append.mp h with h | h
    · exact oa_some x a h
    · exact ol_some l a h
end
mutual
theorem oa_mono {F' : Hp} (ex : Ex F F') : ∀ {H H' : Hp} {o : Own} {v : V} {fp : List Addr}, OA K F H o v fp → (∀ a ∈ fp, H' a = H a) → OA K F' H' o v fp
  | _, _, _, _, _, .dat d, _ => .dat (dp_ex ex _ _ d)
  | _, _, _, _, _, .lst e l, h => .lst ((h _ List.mem_cons_self).trans e) (ol_mono ex l fun a ha => h a (List.mem_cons_of_mem _ ha))
  | _, _, _, _, _, .dk e k l, h => .dk ((h _ List.mem_cons_self).trans e) k (ol_mono ex l fun a ha => h a (List.mem_cons_of_mem _ ha))
  | _, _, _, _, _, .dt e k l, h => .dt ((h _ List.mem_cons_self).trans e) k (ol_mono ex l fun a ha => h a (List.mem_cons_of_mem _ ha))
  | _, _, _, _, _, .fz x, _ => .fz (oa_mono ex x fun a ha => by
    obtain ⟨u, e⟩ := oa_some x a ha
    rw [e]
    exact ex _ _ e)
theorem ol_mono {F' : Hp} (ex : Ex F F') : ∀ {H H' : Hp} {os : List Own} {vs : List V} {fp : List Addr}, OL K F H os vs fp → (∀ a ∈ fp, H' a = H a) → OL K F' H' os vs fp
  | _, _, _, _, _, .nil, _ => .nil
  | _, _, _, _, _, .cons x l, h => .cons (oa_mono ex x fun a ha => h a (List.mem_append_left _ ha)) (ol_mono ex l fun a ha => h a (List.mem_append_right _ ha))
end
theorem ol_len : ∀ {H : Hp} {os : List Own} {vs : List V} {fp : List Addr}, OL K F H os vs fp → vs.length = os.length
  | _, _, _, _, .nil => rfl
  | _, _, _, _, .cons _ l => by rw [List.length_cons, List.length_cons, ol_len l]
theorem ol_dat {H : Hp} : ∀ {ds : List D} {vs : List V}, DpAll K F vs ds → OL K F H (ds.map .dat) vs []
  | [], _, h => by cases h; exact .nil
  | d :: ds, _, h => by
    cases h with
    | cons a b =>
      have := OL.cons (H := H) (.dat a) (ol_dat b)
      simpa using this
theorem dat_ol {H : Hp} : ∀ {ds : List D} {vs : List V} {fp : List Addr}, OL K F H (ds.map .dat) vs fp → DpAll K F vs ds ∧ fp = []
  | [], _, _, h => by
    cases h
    exact ⟨.nil, rfl⟩
  | d :: ds, _, _, h => by
    cases h with
    | cons a b =>
      cases a with
      | dat a =>
        obtain ⟨c, e⟩ := dat_ol b
        subst e
        exact ⟨.cons a c, rfl⟩
end

/-- a slot, what it owns -/
def SlOk (K : PySem.W.Frag) (H0 F H : Hp) : Option (Option V) → S → List Addr → Prop
  | _, .u, fp => fp = []
  | some (some v), .d x, fp => Dp K F v x ∧ fp = []
  | some (some v), .own ds, fp => ∃ p xs, v = .ref p ∧ H p = some (.lst xs) ∧ F p = none ∧ H0 p = none ∧ DpAll K F xs ds ∧ fp = [p]
  | o, .r v, fp => o = some (some v) ∧ fp = []
  | some (some v), .q o, fp => OA K F H o v fp ∧ fp.Nodup ∧ ∀ a ∈ fp, F a = none ∧ H0 a = none
  | _, _, _ => False
/-- the state of a def that began at F0, H0; what each slot owns -/
structure OkF (K : PySem.W.Frag) (F0 H0 F : Hp) (σ : L2.St) (H : Hp) (Γ : List S) (fps : List (List Addr)) : Prop where
  base : Fz F0 H0 F H
  len : σ.length = Γ.length
  fl : fps.length = Γ.length
  sl : ∀ (i : Nat) (s : S) (fp : List Addr), Γ[i]? = some s → fps[i]? = some fp → SlOk K H0 F H σ[i]? s fp
  dj : ∀ (i j : Nat) (f g : List Addr) (a : Addr), fps[i]? = some f → fps[j]? = some g → a ∈ f → a ∈ g → i = j
def Ok (K : PySem.W.Frag) (F0 H0 F : Hp) (σ : L2.St) (H : Hp) (Γ : List S) : Prop := ∃ fps, OkF K F0 H0 F σ H Γ fps

section
variable {K : PySem.W.Frag} {F0 H0 F F' H H' : Hp} {σ : L2.St} {Γ Γ' : List S} {fps : List (List Addr)}
theorem SlOk.mono {o : Option (Option V)} {s : S} {fp : List Addr} (h : SlOk K H0 F H o s fp) (z : Fz F H F' H') : SlOk K H0 F' H' o s fp := by
  cases s with
  | u => exact h
  | d x =>
    cases o with
    | none => exact h
    | some o =>
      cases o with
      | none => exact h
      | some v => exact ⟨dp_ex z.f x v h.1, h.2⟩
  | own ds =>
    cases o with
    | none => exact h
    | some o =>
      cases o with
      | none => exact h
      | some v =>
        obtain ⟨p, xs, e, h1, h2, h3, h4, h5⟩ := h
        exact ⟨p, xs, e, z.h p _ h1, z.n p _ h2 h1, h3, da_ex z.f _ _ h4, h5⟩
  | r v =>
    cases o with
    | none => exact h
    | some o => cases o <;> exact h
  | q t =>
    cases o with
    | none => exact h
    | some o =>
      cases o with
      | none => exact h
      | some v =>
        obtain ⟨h1, h2, h3⟩ := h
        refine ⟨oa_mono z.f h1 fun a ha => ?_, h2, fun a ha => ⟨?_, (h3 a ha).2⟩⟩
        · obtain ⟨u, e⟩ := oa_some h1 a ha
          rw [e]
          exact z.h _ _ e
        · obtain ⟨u, e⟩ := oa_some h1 a ha
          exact z.n a u (h3 a ha).1 e
/-- what a slot owns is tracked, not frozen, new -/
theorem SlOk.of {o : Option (Option V)} {s : S} {fp : List Addr} (h : SlOk K H0 F H o s fp) {a : Addr} (ha : a ∈ fp) : (∃ u, H a = some u) ∧ F a = none ∧ H0 a = none := by
  cases s with
  | u =>
    have h' : fp = [] := by cases o with | none => exact h | some o => cases o <;> exact h
    subst h'
    cases ha
  | d x =>
    cases o with
    | none => exact h.elim
    | some o =>
      cases o with
      | none => exact h.elim
      | some v =>
        have := h.2
        subst this
        cases ha
  | own ds =>
    cases o with
    | none => exact h.elim
    | some o =>
      cases o with
      | none => exact h.elim
      | some v =>
        obtain ⟨p, xs, e, h1, h2, h3, h4, h5⟩ := h
        subst h5
        rw [List.mem_singleton] at ha
        subst ha
        exact ⟨⟨_, h1⟩, h2, h3⟩
  | r v =>
    have : fp = [] := by
      cases o with
      | none => exact h.2
      | some o => cases o <;> exact h.2
    subst this
    cases ha
  | q t =>
    cases o with
    | none => exact h.elim
    | some o =>
      cases o with
      | none => exact h.elim
      | some v =>
        obtain ⟨h1, h2, h3⟩ := h
        exact ⟨oa_some h1 a ha, h3 a ha⟩
theorem Ok.base (h : Ok K F0 H0 F σ H Γ) : Fz F0 H0 F H := h.elim fun _ h => h.base
theorem Ok.len (h : Ok K F0 H0 F σ H Γ) : σ.length = Γ.length := h.elim fun _ h => h.len
theorem OkF.mono (h : OkF K F0 H0 F σ H Γ fps) (z : Fz F H F' H') : OkF K F0 H0 F' σ H' Γ fps :=
  ⟨h.base.trans z, h.len, h.fl, fun i s fp e1 e2 => (h.sl i s fp e1 e2).mono z, h.dj⟩
theorem Ok.mono (h : Ok K F0 H0 F σ H Γ) (z : Fz F H F' H') : Ok K F0 H0 F' σ H' Γ := h.elim fun fps h => ⟨fps, h.mono z⟩
theorem Ok.fh (h : Ok K F0 H0 F σ H Γ) : Ex F H := h.base.s
theorem OkF.fp (h : OkF K F0 H0 F σ H Γ fps) {i : Nat} {s : S} (e : Γ[i]? = some s) : ∃ fp, fps[i]? = some fp := by
  have hi := (List.getElem?_eq_some_iff.mp e).1
  exact ⟨_, List.getElem?_eq_getElem (by rw [h.fl]; exact hi)⟩
/-- slots forgotten -/
inductive Le : List S → List S → Prop
  | nil : Le [] []
  | keep {s : S} {a b : List S} : Le a b → Le (s :: a) (s :: b)
  | drop {s : S} {a b : List S} : Le a b → Le (s :: a) (.u :: b)
theorem Le.refl : ∀ (a : List S), Le a a
  | [] => .nil
  | _ :: a => .keep (Le.refl a)
theorem Le.len : ∀ {a b : List S}, Le a b → a.length = b.length
  | _, _, .nil => rfl
  | _, _, .keep h => by rw [List.length_cons, List.length_cons, h.len]
  | _, _, .drop h => by rw [List.length_cons, List.length_cons, h.len]
theorem Le.get : ∀ {a b : List S} {i : Nat} {s : S}, Le a b → b[i]? = some s → s = .u ∨ a[i]? = some s
  | _, _, i, s, .nil, e => by simp at e
  | _, _, 0, s, .keep h, e => by
    simp at e
    subst e
    exact .inr rfl
  | _, _, i + 1, s, .keep h, e => by
    have q := h.get (i := i) (by simpa using e)
    simpa using q
  | _, _, 0, s, .drop h, e => by
    simp at e
    subst e
    exact .inl rfl
  | _, _, i + 1, s, .drop h, e => by
    have q := h.get (i := i) (by simpa using e)
    simpa using q
/-- what is owned where slots are forgotten -/
def leFp : List S → List (List Addr) → List (List Addr)
  | .u :: b, _ :: f => [] :: leFp b f
  | _ :: b, x :: f => x :: leFp b f
  | _, _ => []
theorem leFp_len : ∀ {b : List S} {f : List (List Addr)}, f.length = b.length → (leFp b f).length = b.length
  | [], [], _ => rfl
  | [], _ :: _, h => by simp at h
  | _ :: _, [], h => by simp at h
  | .u :: b, _ :: f, h => by simp only [leFp, List.length_cons]; rw [leFp_len (by simpa using h)]
  | .d _ :: b, _ :: f, h => by simp only [leFp, List.length_cons]; rw [leFp_len (by simpa using h)]
  | .own _ :: b, _ :: f, h => by simp only [leFp, List.length_cons]; rw [leFp_len (by simpa using h)]
  | .r _ :: b, _ :: f, h => by simp only [leFp, List.length_cons]; rw [leFp_len (by simpa using h)]
  | .q _ :: b, _ :: f, h => by simp only [leFp, List.length_cons]; rw [leFp_len (by simpa using h)]
theorem leFp_get : ∀ {b : List S} {f : List (List Addr)} {i : Nat} {g : List Addr}, (leFp b f)[i]? = some g → (b[i]? = some .u ∧ g = []) ∨ (f[i]? = some g ∧ b[i]? ≠ some .u)
  | [], _, i, g, h => by simp [leFp] at h
  | s :: b, [], i, g, h => by cases s <;> simp [leFp] at h
  | s :: b, x :: f, 0, g, h => by
    cases s with
    | u => left; simpa [leFp, eq_comm] using h
    | d _ => right; simpa [leFp] using h
    | own _ => right; simpa [leFp] using h
    | r _ => right; simpa [leFp] using h
    | q _ => right; simpa [leFp] using h
  | s :: b, x :: f, i + 1, g, h => by
    have h' : (leFp b f)[i]? = some g := by cases s <;> simpa [leFp] using h
    simpa using leFp_get h'
theorem Ok.le (h : Ok K F0 H0 F σ H Γ) (l : Le Γ Γ') : Ok K F0 H0 F σ H Γ' := by
  obtain ⟨fps, h⟩ := h
  refine ⟨leFp Γ' fps, h.base, h.len.trans l.len, leFp_len (h.fl.trans l.len), fun i s fp e1 e2 => ?_, fun i j f g a e1 e2 m1 m2 => ?_⟩
  · rcases leFp_get e2 with ⟨q1, q2⟩ | ⟨q1, q2⟩
    · rw [q1] at e1
      cases e1
      subst q2
      cases σ[i]? with
      | none => rfl
      | some o => cases o <;> rfl
    · rcases l.get e1 with q | q
      · subst q
        exact absurd e1 q2
      · exact h.sl i s fp q q1
  · rcases leFp_get e1 with ⟨_, q⟩ | ⟨q1, _⟩
    · subst q; cases m1
    rcases leFp_get e2 with ⟨_, q⟩ | ⟨q2, _⟩
    · subst q; cases m2
    exact h.dj i j f g a q1 q2 m1 m2
/-- a slot's data -/
theorem Ok.at (h : Ok K F0 H0 F σ H Γ) {i : Nat} {x : D} (e : Γ[i]? = some (.d x)) : ∃ v, σ[i]? = some (some v) ∧ Dp K F v x := by
  obtain ⟨fps, h⟩ := h
  obtain ⟨fp, hf⟩ := h.fp e
  have q := h.sl i _ _ e hf
  cases o : σ[i]? with
  | none => rw [o] at q; exact q.elim
  | some o' =>
    cases o' with
    | none => rw [o] at q; exact q.elim
    | some v => rw [o] at q; exact ⟨v, rfl, q.1⟩
theorem Ok.own (h : Ok K F0 H0 F σ H Γ) {i : Nat} {ds : List D} (e : Γ[i]? = some (.own ds)) : ∃ p xs, σ[i]? = some (some (.ref p)) ∧ H p = some (.lst xs) ∧ F p = none ∧ H0 p = none ∧ DpAll K F xs ds := by
  obtain ⟨fps, h⟩ := h
  obtain ⟨fp, hf⟩ := h.fp e
  have q := h.sl i _ _ e hf
  cases o : σ[i]? with
  | none => rw [o] at q; exact q.elim
  | some o' =>
    cases o' with
    | none => rw [o] at q; exact q.elim
    | some v =>
      rw [o] at q
      obtain ⟨p, xs, e1, e2, e3, e4, e5, _⟩ := q
      subst e1
      exact ⟨p, xs, rfl, e2, e3, e4, e5⟩
theorem Ok.raw (h : Ok K F0 H0 F σ H Γ) {i : Nat} {v : V} (e : Γ[i]? = some (.r v)) : σ[i]? = some (some v) := by
  obtain ⟨fps, h⟩ := h
  obtain ⟨fp, hf⟩ := h.fp e
  have q := h.sl i _ _ e hf
  cases o : σ[i]? with
  | none => rw [o] at q; exact q.1
  | some o' => cases o' <;> (rw [o] at q; exact q.1)
/-- a slot's tree -/
theorem Ok.tree (h : Ok K F0 H0 F σ H Γ) {i : Nat} {t : Own} (e : Γ[i]? = some (.q t)) : ∃ v fp, σ[i]? = some (some v) ∧ OA K F H t v fp ∧ fp.Nodup ∧ ∀ a ∈ fp, F a = none ∧ H0 a = none := by
  obtain ⟨fps, h⟩ := h
  obtain ⟨fp, hf⟩ := h.fp e
  have q := h.sl i _ _ e hf
  cases o : σ[i]? with
  | none => rw [o] at q; exact q.elim
  | some o' =>
    cases o' with
    | none => rw [o] at q; exact q.elim
    | some v =>
      rw [o] at q
      exact ⟨v, fp, rfl, q⟩
theorem Ok.rawOf {o : Option (Option V)} {v : V} (e : o = some (some v)) : SlOk K H0 F H o (.r v) [] := by
  subst e
  exact ⟨rfl, rfl⟩
/-- a slot gets something else, which owns nothing that another slot owns -/
theorem OkF.put (h : OkF K F0 H0 F σ H Γ fps) (i : Nat) {o : Option V} {s : S} {fp : List Addr} (hs : SlOk K H0 F H (some o) s fp) (hd : ∀ (j : Nat) (g : List Addr) (a : Addr), fps[j]? = some g → a ∈ fp → a ∈ g → i = j) :
    OkF K F0 H0 F (σ.set i o) H (Γ.set i s) (fps.set i fp) := by
  refine ⟨h.base, by rw [List.length_set, List.length_set]; exact h.len, by rw [List.length_set, List.length_set]; exact h.fl, fun j s' fp' e1 e2 => ?_, fun j k f g a e1 e2 m1 m2 => ?_⟩
  · by_cases q : i = j
    · subst q
      have hl : i < Γ.length := by
        have := (List.getElem?_eq_some_iff.mp e1).1
        rw [List.length_set] at this
        exact this
      rw [List.getElem?_set_self hl] at e1
      rw [List.getElem?_set_self (by rw [h.fl]; exact hl)] at e2
      cases e1
      cases e2
      rw [List.getElem?_set_self (by rw [h.len]; exact hl)]
      exact hs
    · rw [List.getElem?_set_ne q] at e1 e2 ⊢
      exact h.sl j _ _ e1 e2
  · have key : ∀ {m : Nat} {f : List Addr}, (fps.set i fp)[m]? = some f → (i = m ∧ f = fp) ∨ (i ≠ m ∧ fps[m]? = some f) := fun {m f} e => by
      by_cases q : i = m
      · subst q
        have hl := (List.getElem?_eq_some_iff.mp e).1
        rw [List.length_set] at hl
        rw [List.getElem?_set_self hl] at e
        cases e
        exact .inl ⟨rfl, rfl⟩
      · rw [List.getElem?_set_ne q] at e
        exact .inr ⟨q, e⟩
    rcases key e1 with ⟨q1, q2⟩ | ⟨q1, q2⟩
    · rcases key e2 with ⟨r1, r2⟩ | ⟨r1, r2⟩
      · omega
      · subst q2
        have := hd k g a r2 m1 m2
        omega
    · rcases key e2 with ⟨r1, r2⟩ | ⟨r1, r2⟩
      · subst r2
        have := hd j f a q2 m2 m1
        omega
      · exact h.dj j k f g a q2 r2 m1 m2
/-- .. which owns nothing -/
theorem Ok.put0 (h : Ok K F0 H0 F σ H Γ) (i : Nat) {o : Option V} {s : S} (hs : SlOk K H0 F H (some o) s []) : Ok K F0 H0 F (σ.set i o) H (Γ.set i s) := by
  obtain ⟨fps, h⟩ := h
  exact ⟨_, h.put i hs fun j g a _ m _ => by cases m⟩
theorem Ok.set (h : Ok K F0 H0 F σ H Γ) (i : Nat) {v : V} {x : D} (d : Dp K F v x) : Ok K F0 H0 F (σ.set i (some v)) H (Γ.set i (.d x)) := h.put0 i ⟨d, rfl⟩
theorem Ok.forget (h : Ok K F0 H0 F σ H Γ) (i : Nat) (o : Option V) : Ok K F0 H0 F (σ.set i o) H (Γ.set i .u) := h.put0 i (by cases o <;> rfl)
theorem Ok.setR (h : Ok K F0 H0 F σ H Γ) (i : Nat) (v : V) : Ok K F0 H0 F (σ.set i (some v)) H (Γ.set i (.r v)) := h.put0 i (Ok.rawOf rfl)
/-- .. which owns only what is new -/
theorem Ok.putN (h : Ok K F0 H0 F σ H Γ) (z : Fz F H F' H') (i : Nat) {o : Option V} {s : S} {fp : List Addr} (hs : SlOk K H0 F' H' (some o) s fp) (hn : ∀ a ∈ fp, H a = none) : Ok K F0 H0 F' (σ.set i o) H' (Γ.set i s) := by
  obtain ⟨fps, h⟩ := h
  refine ⟨_, (h.mono z).put i hs fun j g a e m1 m2 => ?_⟩
  have hj : j < Γ.length := by
    have := (List.getElem?_eq_some_iff.mp e).1
    rw [h.fl] at this
    exact this
  obtain ⟨⟨u, hu⟩, _⟩ := (h.sl j _ _ (List.getElem?_eq_getElem hj) e).of m2
  rw [hn a m1] at hu
  cases hu
theorem Ok.setNew (h : Ok K F0 H0 F σ H Γ) (z : Fz F H F' H') (i : Nat) {p : Addr} {xs : List V} {ds : List D} (n1 : H p = none) (n2 : H' p = some (.lst xs)) (n3 : F' p = none) (d : DpAll K F' xs ds) : Ok K F0 H0 F' (σ.set i (some (.ref p))) H' (Γ.set i (.own ds)) :=
  h.putN z i ⟨p, xs, rfl, n2, n3, h.base.h.none n1, d, rfl⟩ fun a ha => by
    rw [List.mem_singleton] at ha
    subst ha
    exact n1
theorem Ok.setTree (h : Ok K F0 H0 F σ H Γ) (z : Fz F H F' H') (i : Nat) {v : V} {t : Own} {fp : List Addr} (o : OA K F' H' t v fp) (nd : fp.Nodup) (n : ∀ a ∈ fp, H a = none ∧ F' a = none) : Ok K F0 H0 F' (σ.set i (some v)) H' (Γ.set i (.q t)) :=
  h.putN z i ⟨o, nd, fun a ha => ⟨(n a ha).2, h.base.h.none (n a ha).1⟩⟩ fun a ha => (n a ha).1
/-- what slot i owns changes, by new objects perhaps -/
theorem Ok.rewrite (h : Ok K F0 H0 F σ H Γ) {i : Nat} {s s' : S} {o : Option V} {fps : List (List Addr)} {fp fp' : List Addr} (hF : OkF K F0 H0 F σ H Γ fps) (e : Γ[i]? = some s) (ef : fps[i]? = some fp) (ex : Ex F F') (hk : ∀ a u, a ∉ fp → H a = some u → H' a = some u) (hn : ∀ a u, a ∉ fp → F a = none → H a = some u → a ∉ fp' → F' a = none) (hs' : Ex F' H')
    (hs : SlOk K H0 F' H' (some o) s' fp') (hfp : ∀ a ∈ fp', a ∈ fp ∨ H a = none) : Ok K F0 H0 F' (σ.set i o) H' (Γ.set i s') := by
  have hi : i < Γ.length := (List.getElem?_eq_some_iff.mp e).1
  have own := (hF.sl i s fp e ef)
  have out : ∀ (j : Nat) (g : List Addr) (a : Addr), fps[j]? = some g → a ∈ g → i ≠ j → a ∉ fp ∧ a ∉ fp' ∧ (∃ u, H a = some u) ∧ F a = none := fun j g a e2 m hj => by
    have hjl : j < Γ.length := by
      have := (List.getElem?_eq_some_iff.mp e2).1
      rw [hF.fl] at this
      exact this
    obtain ⟨⟨u, hu⟩, hf, _⟩ := (hF.sl j _ _ (List.getElem?_eq_getElem hjl) e2).of m
    have h1 : a ∉ fp := fun q => hj (hF.dj i j _ _ a ef e2 q m)
    refine ⟨h1, fun q => ?_, ⟨u, hu⟩, hf⟩
    rcases hfp a q with q | q
    · exact h1 q
    · rw [hu] at q; cases q
  refine ⟨fps.set i fp', ⟨hF.base.f.trans ex, fun a u q => ?_, hs', fun a u q1 q2 => ?_⟩, by rw [List.length_set, List.length_set]; exact hF.len, by rw [List.length_set, List.length_set]; exact hF.fl, fun j s2 f2 e1 e2 => ?_, fun j k f g a e1 e2 m1 m2 => ?_⟩
  · refine hk a u (fun m => ?_) (hF.base.h a u q)
    have := (own.of m).2.2
    rw [q] at this
    cases this
  · have q3 := hF.base.n a u q1 q2
    refine hn a u (fun m => ?_) q3 (hF.base.h a u q2) fun m => ?_
    · have := (own.of m).2.2
      rw [q2] at this
      cases this
    · have := (hs.of m).2.2
      rw [q2] at this
      cases this
  · by_cases q : i = j
    · subst q
      rw [List.getElem?_set_self hi] at e1
      rw [List.getElem?_set_self (by rw [hF.fl]; exact hi)] at e2
      cases e1
      cases e2
      rw [List.getElem?_set_self (by rw [hF.len]; exact hi)]
      exact hs
    · rw [List.getElem?_set_ne q] at e1 e2 ⊢
      have old := hF.sl j s2 f2 e1 e2
      have o2 := fun a m => out j f2 a e2 m q
      cases s2 with
      | u => exact old
      | d x =>
        cases ho : σ[j]? with
        | none => rw [ho] at old; exact old
        | some v =>
          cases v with
          | none => rw [ho] at old; exact old
          | some v => rw [ho] at old; exact ⟨dp_ex ex _ _ old.1, old.2⟩
      | r v => exact old
      | own ds =>
        cases ho : σ[j]? with
        | none => rw [ho] at old; exact old
        | some v =>
          cases v with
          | none => rw [ho] at old; exact old
          | some v =>
            rw [ho] at old
            obtain ⟨p, xs, g1, g2, g3, g4, g5, g6⟩ := old
            subst g6
            obtain ⟨k1, k2, _, k4⟩ := o2 p (List.mem_singleton.mpr rfl)
            exact ⟨p, xs, g1, hk _ _ k1 g2, hn p _ k1 k4 g2 k2, g4, da_ex ex _ _ g5, rfl⟩
      | q t =>
        cases ho : σ[j]? with
        | none => rw [ho] at old; exact old
        | some v =>
          cases v with
          | none => rw [ho] at old; exact old
          | some v =>
            rw [ho] at old
            obtain ⟨g1, g2, g3⟩ := old
            refine ⟨oa_mono ex g1 fun a m => ?_, g2, fun a m => ?_⟩
            · obtain ⟨k1, k2, ⟨u, k3⟩, k4⟩ := o2 a m
              rw [k3]
              exact hk _ _ k1 k3
            · obtain ⟨k1, k2, ⟨u, k3⟩, k4⟩ := o2 a m
              exact ⟨hn a _ k1 k4 k3 k2, (g3 a m).2⟩
  · have key : ∀ {m : Nat} {f : List Addr}, (fps.set i fp')[m]? = some f → (i = m ∧ f = fp') ∨ (i ≠ m ∧ fps[m]? = some f) := fun {m f} e => by
      by_cases q : i = m
      · subst q
        rw [List.getElem?_set_self (by rw [hF.fl]; exact hi)] at e
        cases e
        exact .inl ⟨rfl, rfl⟩
      · rw [List.getElem?_set_ne q] at e
        exact .inr ⟨q, e⟩
    rcases key e1 with ⟨q1, q2⟩ | ⟨q1, q2⟩
    · rcases key e2 with ⟨r1, r2⟩ | ⟨r1, r2⟩
      · omega
      · subst q2
        exact absurd m1 (out k g a r2 m2 r1).2.1
    · rcases key e2 with ⟨r1, r2⟩ | ⟨r1, r2⟩
      · subst r2
        exact absurd m2 (out j f a q2 m1 q1).2.1
      · exact hF.dj j k f g a q2 r2 m1 m2
/-- the list of one's own at slot i changes -/
theorem Ok.write (h : Ok K F0 H0 F σ H Γ) {i : Nat} {ds es : List D} {p : Addr} {ys : List V} (e : Γ[i]? = some (.own ds)) (hs : σ[i]? = some (some (.ref p))) (hf : F p = none) (h0 : H0 p = none) (hd : DpAll K F ys es) :
    Ok K F0 H0 F σ (upd H p (.lst ys)) (Γ.set i (.own es)) := by
  obtain ⟨fps, hF⟩ := h
  obtain ⟨fp, ef⟩ := hF.fp e
  have q := hF.sl i _ _ e ef
  rw [hs] at q
  obtain ⟨p', xs, e1, e2, e3, e4, e5, e6⟩ := q
  cases e1
  subst e6
  have hi : i < Γ.length := (List.getElem?_eq_some_iff.mp e).1
  have := Ok.rewrite (F' := F) (H' := upd H p (.lst ys)) (s' := .own es) (o := some (.ref p)) (fp' := [p]) ⟨fps, hF⟩ hF e ef (Ex.refl _) (fun a u m k => by rw [upd_ne (fun z => m (List.mem_singleton.mpr z))]; exact k) (fun a u _ k _ _ => k)
    (fun a u k => by
      rw [upd_ne (ne_of_none k hf)]
      exact hF.base.s a u k) ⟨p, ys, rfl, upd_same, hf, h0, hd, rfl⟩ (fun a m => .inl m)
  have sg : σ.set i (some (.ref p)) = σ := by
    apply List.ext_getElem?
    intro k
    by_cases hk : i = k
    · subst hk
      rw [List.getElem?_set_self (by rw [hF.len]; exact hi), hs]
    · rw [List.getElem?_set_ne hk]
  rw [sg] at this
  exact this
/-- the list of one's own at slot i becomes data -/
theorem Ok.frz (h : Ok K F0 H0 F σ H Γ) {i : Nat} {ds : List D} (e : Γ[i]? = some (.own ds)) : ∃ F', Ex F F' ∧ Ok K F0 H0 F' σ H (Γ.set i (.d (.list ds))) := by
  obtain ⟨p, xs, g1, g2, g3, g4, g5⟩ := h.own e
  obtain ⟨fps, hF⟩ := h
  obtain ⟨fp, ef⟩ := hF.fp e
  have q := hF.sl i _ _ e ef
  rw [g1] at q
  obtain ⟨p', xs', e1, e2, _, _, _, e6⟩ := q
  cases e1
  subst e6
  have hi : i < Γ.length := (List.getElem?_eq_some_iff.mp e).1
  obtain ⟨z1, z2⟩ := Fz.freeze hF.base.s g2 g3
  refine ⟨upd F p (.lst xs), z1, ?_⟩
  have sg : σ.set i (some (.ref p)) = σ := by
    apply List.ext_getElem?
    intro k
    by_cases hk : i = k
    · subst hk
      rw [List.getElem?_set_self (by rw [hF.len]; exact hi), g1]
    · rw [List.getElem?_set_ne hk]
  -- the frozen object is new since H0
  refine ⟨fps.set i [], ⟨hF.base.f.trans z1, hF.base.h, z2, fun a o q1 q2 => ?_⟩, by rw [List.length_set]; exact hF.len, by rw [List.length_set, List.length_set]; exact hF.fl, fun j s f e1 e3 => ?_, fun j k f g a e1 e3 m1 m2 => ?_⟩
  · rw [upd_ne (ne_of_none q2 g4)]
    exact hF.base.n a o q1 q2
  · by_cases z : i = j
    · subst z
      rw [List.getElem?_set_self hi] at e1
      rw [List.getElem?_set_self (by rw [hF.fl]; exact hi)] at e3
      cases e1
      cases e3
      rw [g1]
      exact ⟨Dp.lst (SqL.of upd_same) (da_ex z1 _ _ g5), rfl⟩
    · rw [List.getElem?_set_ne z] at e1 e3
      have old := hF.sl j s f e1 e3
      have ne : ∀ a ∈ f, a ≠ p := fun a m w => by
        subst w
        exact z (hF.dj i j _ _ a ef e3 (List.mem_singleton.mpr rfl) m)
      cases s with
      | u => exact old
      | r v => exact old
      | d x =>
        cases ho : σ[j]? with
        | none => rw [ho] at old; exact old
        | some v =>
          cases v with
          | none => rw [ho] at old; exact old
          | some v => rw [ho] at old; exact ⟨dp_ex z1 _ _ old.1, old.2⟩
      | own es =>
        cases ho : σ[j]? with
        | none => rw [ho] at old; exact old
        | some v =>
          cases v with
          | none => rw [ho] at old; exact old
          | some v =>
            rw [ho] at old
            obtain ⟨p2, xs2, k1, k2, k3, k4, k5, k6⟩ := old
            exact ⟨p2, xs2, k1, k2, by rw [upd_ne (ne p2 (by rw [k6]; exact List.mem_singleton.mpr rfl))]; exact k3, k4, da_ex z1 _ _ k5, k6⟩
      | q t =>
        cases ho : σ[j]? with
        | none => rw [ho] at old; exact old
        | some v =>
          cases v with
          | none => rw [ho] at old; exact old
          | some v =>
            rw [ho] at old
            obtain ⟨k1, k2, k3⟩ := old
            exact ⟨oa_mono z1 k1 fun a m => rfl, k2, fun a m => ⟨by rw [upd_ne (ne a m)]; exact (k3 a m).1, (k3 a m).2⟩⟩
  · have key : ∀ {m : Nat} {f : List Addr}, (fps.set i [])[m]? = some f → a ∈ f → fps[m]? = some f := fun {m f} e ha => by
      by_cases q : i = m
      · subst q
        rw [List.getElem?_set_self (by rw [hF.fl]; exact hi)] at e
        cases e
        cases ha
      · rw [List.getElem?_set_ne q] at e
        exact e
    exact hF.dj j k f g a (key e1 m1) (key e3 m2) m1 m2
end
end TB

namespace TB
open PySem L2

abbrev WF : WX := fun _ _ _ _ => False
/-- what is asked behind a value -/
def Po (K : PySem.W.Frag) (F H : Hp) (Q : VK) (E : XK) : Out → Prop
  | .v x => ∀ v F' H', Fz F H F' H' → Dp K F' v x → Q v H'
  | .o ds => ∀ p xs F' H', Fz F H F' H' → H p = none → H' p = some (.lst xs) → F' p = none → DpAll K F' xs ds → Q (.ref p) H'
  | .x c => ∀ F' H', Fz F H F' H' → E (.ref c) none H'
  | .q t => ∀ v fp F' H', Fz F H F' H' → OA K F' H' t v fp → fp.Nodup → (∀ a ∈ fp, H a = none ∧ F' a = none) → Q v H'
  | .xf c f x => ∀ d v F' H', Fz F H F' H' → H d = none → H' d = some (.xd [(f, v)]) → Dp K F' v x → E (.ref c) (some d) H'
theorem po_mono {K : PySem.W.Frag} {F H F' H' : Hp} {Q : VK} {E : XK} {o : Out} (z : Fz F H F' H') (h : Po K F H Q E o) : Po K F' H' Q E o := by
  cases o with
  | v x => exact fun v F2 H2 z2 d => h v F2 H2 (z.trans z2) d
  | o ds => exact fun p xs F2 H2 z2 n1 n2 n3 d => h p xs F2 H2 (z.trans z2) (z.h.none n1) n2 n3 d
  | x c => exact fun F2 H2 z2 => h F2 H2 (z.trans z2)
  | q t => exact fun v fp F2 H2 z2 o nd n => h v fp F2 H2 (z.trans z2) o nd fun a m => ⟨z.h.none (n a m).1, (n a m).2⟩
  | xf c f x => exact fun d v F2 H2 z2 n1 n2 dp => h d v F2 H2 (z.trans z2) (z.h.none n1) n2 dp
def tE (K : PySem.W.Frag) (W : WX) (F0 H0 : Hp) (Γ : List S) (o : Out) : TE := fun σ H Q => ∃ F, Ok K F0 H0 F σ H Γ ∧ Po K F H Q (fun c d H' => W c d σ H') o
def tT (K : PySem.W.Frag) (F0 H0 : Hp) (Γ : List S) (b : Bool) : TT := fun σ H Q => ∃ F, Ok K F0 H0 F σ H Γ ∧ ∀ F' H', Fz F H F' H' → Q b H'
def tA (K : PySem.W.Frag) (F0 H0 : Hp) (Γ : List S) (ds : List D) : TA := fun σ H Q => ∃ F, Ok K F0 H0 F σ H Γ ∧ ∀ vs F' H', Fz F H F' H' → DpAll K F' vs ds → Q vs H'
abbrev JE (X : Cx) (W : WX) (F0 H0 : Hp) (Γ : List S) (e : Expr) (o : Out) : Prop := PE X e (tE X.K W F0 H0 Γ o)
abbrev JT (X : Cx) (F0 H0 : Hp) (Γ : List S) (e : Expr) (b : Bool) : Prop := PT X e (tT X.K F0 H0 Γ b)
abbrev JW (X : Cx) (F0 H0 : Hp) (Γ : List S) (e : Expr) (b : Bool) : Prop := PW X e (tT X.K F0 H0 Γ b)
abbrev JA (X : Cx) (F0 H0 : Hp) (Γ : List S) (es : List Expr) (ds : List D) : Prop := PA X es (tA X.K F0 H0 Γ ds)

theorem pe_imp {X : Cx} {e : Expr} {t t' : TE} (h : PE X e t) (k : ∀ σ H Q, t' σ H Q → t σ H Q) : PE X e t' := ⟨fun pins s σ H Q I q => h.run pins s σ H Q I (k σ H Q q)⟩
theorem pt_imp {X : Cx} {e : Expr} {t t' : TT} (h : PT X e t) (k : ∀ σ H Q, t' σ H Q → t σ H Q) : PT X e t' := ⟨fun pins s σ H Q I q => h.run pins s σ H Q I (k σ H Q q)⟩
theorem pw_imp {X : Cx} {e : Expr} {t t' : TT} (h : PW X e t) (k : ∀ σ H Q, t' σ H Q → t σ H Q) : PW X e t' := ⟨fun wh pins s σ H Q I q => h.run wh pins s σ H Q I (k σ H Q q)⟩
theorem pa_imp {X : Cx} {e : List Expr} {t t' : TA} (h : PA X e t) (k : ∀ σ H Q, t' σ H Q → t σ H Q) : PA X e t' := ⟨fun pos pins s σ H Q I q => h.run pos pins s σ H Q I (k σ H Q q)⟩

/-! ### operations by values, over data -/
def RD (K : PySem.W.Frag) (r : R2) (x y z : D) : Prop := ∀ (v u : V) (F H : Hp) (Q : VK), Ex F H → Dp K F v x → Dp K F u y → (∀ w F' H', Fz F H F' H' → Dp K F' w z → Q w H') → r v u H Q
def RUn (K : PySem.W.Frag) (r : V → Hp → VK → Prop) (x z : D) : Prop := ∀ (v : V) (F H : Hp) (Q : VK), Ex F H → Dp K F v x → (∀ w F' H', Fz F H F' H' → Dp K F' w z → Q w H') → r v H Q
/-- a built-in's call over data -/
def RC (K : PySem.W.Frag) (r : List V → Hp → VK → Prop) (ds : List D) (o : Out) : Prop := ∀ (vs : List V) (F H : Hp) (Q : VK), Ex F H → DpAll K F vs ds → Po K F H Q E0 o → r vs H Q

section
variable {X : Cx} {W : WX} {F0 H0 : Hp} {Γ : List S} {a b e : Expr} {x y z : D} {pos : Pos} {r : R2} {i j : Int} {p q : Bool}

/-- new tuples and lists -/
theorem po_tup {K : PySem.W.Frag} {F H : Hp} {Q : VK} {xs : List V} {ds : List D} (s : Ex F H) (d : DpAll K F xs ds) (h : ∀ v F' H', Fz F H F' H' → Dp K F' v (.tuple ds) → Q v H') : ∀ l, H l = none → Q (.ref l) (upd H l (.tup xs)) := fun l hl =>
  h _ _ _ (Fz.new s hl) (.tup (SqT.of upd_same) (da_ex (Fz.new s hl).f _ _ d))
theorem po_lst {K : PySem.W.Frag} {F H : Hp} {Q : VK} {xs : List V} {ds : List D} (s : Ex F H) (d : DpAll K F xs ds) (h : Po K F H Q E0 (.o ds)) : ∀ l, H l = none → Q (.ref l) (upd H l (.lst xs)) := fun l hl =>
  h l xs F _ (Fz.fresh s hl) hl upd_same (s.none hl) d
/-- a new list taken as data -/
theorem je_o2v {ds : List D} (h : JE X W F0 H0 Γ e (.o ds)) : JE X W F0 H0 Γ e (.v (.list ds)) := pe_imp h fun σ H Q ⟨F, ok, q⟩ => ⟨F, ok, fun p xs F' H' z n1 n2 n3 d => by
  obtain ⟨k1, k2⟩ := Fz.freeze z.s n2 n3
  refine q (.ref p) (upd F' p (.lst xs)) H' ⟨z.f.trans k1, z.h, k2, fun c o c1 c2 => ?_⟩ (.lst (SqL.of upd_same) (da_ex k1 _ _ d))
  have ne : c ≠ p := ne_of_none c2 n1
  rw [upd_ne ne]
  exact z.n c o c1 c2⟩

/-! ### names, constants -/
theorem je_var (k : Nat) {n : Str} (g : Γ[k]? = some (.d x)) (hN : X.N[k]? = some n := by rfl) (hv : Vis X.env.scope n := by first | exact Or.inl rfl | exact Or.inr (Or.inl rfl) | exact Or.inr (Or.inr rfl)) (hd : (n == ("__debug__" : Str)) = false := by decide) (hcd : (n == ("__classdict__" : Str)) = false := by decide) : JE X W F0 H0 Γ (.Name n pos) (.v x) :=
  pe_imp (pe_var hN hv hd hcd) fun σ H Q ⟨F, ok, q⟩ => by
    obtain ⟨v, e, d⟩ := ok.at g
    exact ⟨v, e, q v F H (Fz.refl ok.fh) d⟩
theorem je_int {k : Nat} : JE X W F0 H0 Γ (.Constant (.int i) k pos) (.v (.int i)) := pe_imp pe_int fun σ H Q ⟨F, ok, q⟩ => q _ F H (Fz.refl ok.fh) (.int i)
theorem je_bl {k : Nat} : JE X W F0 H0 Γ (.Constant (.bool p) k pos) (.v (.bool p)) := pe_imp pe_bl fun σ H Q ⟨F, ok, q⟩ => q _ F H (Fz.refl ok.fh) (.bl p)
theorem je_non {k : Nat} : JE X W F0 H0 Γ (.Constant .none k pos) (.v .none) := pe_imp pe_non fun σ H Q ⟨F, ok, q⟩ => q _ F H (Fz.refl ok.fh) .non
theorem je_str {k : Nat} {t : Str} : JE X W F0 H0 Γ (.Constant (.str t) k pos) (.v (.str t)) := pe_imp pe_str fun σ H Q ⟨F, ok, q⟩ => q _ F H (Fz.refl ok.fh) (.str t)
/-- a constant of the module -/
theorem je_glob {n : Str} {v : V} {u : Value} (d : ∀ F, Dp X.K F v x) (hm : X.mg n = some u) (rl : RelV v u) (hg : Gl X n := by rfl) (hd : (n == ("__debug__" : Str)) = false := by decide) : JE X W F0 H0 Γ (.Name n pos) (.v x) :=
  pe_imp (pe_glob hg hm rl hd) fun σ H Q ⟨F, ok, q⟩ => q _ F H (Fz.refl ok.fh) (d F)

/-! ### operators -/
theorem je_bin {op : Operator} (ho : OpR X (binaryOp op) r) (hr : RD X.K r x y z) (ha : JE X W F0 H0 Γ a (.v x)) (hb : JE X W F0 H0 Γ b (.v y)) : JE X W F0 H0 Γ (.BinOp a op b pos) (.v z) :=
  pe_imp (pe_op ho ha hb) fun σ H Q ⟨F, ok, q⟩ => ⟨F, ok, fun v F1 H1 z1 d1 => ⟨F1, ok.mono z1, fun u F2 H2 z2 d2 => hr v u F2 H2 Q z2.s (dp_ex z2.f _ _ d1) d2 fun w F3 H3 z3 d3 => q w F3 H3 ((z1.trans z2).trans z3) d3⟩⟩
/-- a binary operator whose answer is a new list -/
def RDO (K : PySem.W.Frag) (r : R2) (x y : D) (o : Out) : Prop := ∀ (v u : V) (F H : Hp) (Q : VK), Ex F H → Dp K F v x → Dp K F u y → Po K F H Q E0 o → r v u H Q
/-- does it come as a value -/
def Out.val : Out → Prop
  | .x _ => False
  | .xf _ _ _ => False
  | _ => True
theorem po_val {K : PySem.W.Frag} {F H : Hp} {Q : VK} {E E' : XK} : ∀ {o : Out}, o.val → Po K F H Q E o → Po K F H Q E' o
  | .v _, _, h => h
  | .o _, _, h => h
  | .q _, _, h => h
  | .x _, n, _ => n.elim
  | .xf _ _ _, n, _ => n.elim
theorem po_of {K : PySem.W.Frag} {F H : Hp} {σ : L2.St} {Q : VK} {o : Out} (n : o.val) (h : tE K W F0 H0 Γ o σ H Q) : ∃ F, Ok K F0 H0 F σ H Γ ∧ Po K F H Q E0 o := by
  obtain ⟨F, ok, q⟩ := h
  exact ⟨F, ok, po_val n q⟩
theorem je_binO {op : Operator} {ds : List D} (ho : OpR X (binaryOp op) r) (hr : RDO X.K r x y (.o ds)) (ha : JE X W F0 H0 Γ a (.v x)) (hb : JE X W F0 H0 Γ b (.v y)) : JE X W F0 H0 Γ (.BinOp a op b pos) (.o ds) :=
  pe_imp (pe_op ho ha hb) fun σ H Q ⟨F, ok, q⟩ => ⟨F, ok, fun v F1 H1 z1 d1 => ⟨F1, ok.mono z1, fun u F2 H2 z2 d2 => hr v u F2 H2 Q z2.s (dp_ex z2.f _ _ d1) d2 (po_mono (z1.trans z2) (show Po X.K F H Q E0 (.o ds) from q))⟩⟩
theorem rd_I0 {K : PySem.W.Frag} {g : Int → Int → Int} : RD K (rI0 fun i j => .int (g i j)) (.int i) (.int j) (.int (g i j)) := fun v u F H Q s d1 d2 q => by
  cases d1; cases d2
  exact ⟨i, j, rfl, rfl, q _ F H (Fz.refl s) (.int _)⟩
theorem rd_I {K : PySem.W.Frag} {C : Int → Int → Prop} {g : Int → Int → Int} (hc : C i j) : RD K (rI C fun i j => .int (g i j)) (.int i) (.int j) (.int (g i j)) := fun v u F H Q s d1 d2 q => by
  cases d1; cases d2
  exact ⟨i, j, rfl, rfl, hc, q _ F H (Fz.refl s) (.int _)⟩
theorem rd_B0 {K : PySem.W.Frag} {g : Int → Int → Bool} : RD K (rI0 fun i j => .bl (g i j)) (.int i) (.int j) (.bool (g i j)) := fun v u F H Q s d1 d2 q => by
  cases d1; cases d2
  exact ⟨i, j, rfl, rfl, q _ F H (Fz.refl s) (.bl _)⟩
theorem je_add (ha : JE X W F0 H0 Γ a (.v (.int i))) (hb : JE X W F0 H0 Γ b (.v (.int j))) : JE X W F0 H0 Γ (.BinOp a .Add b pos) (.v (.int (i + j))) := je_bin op_add rd_I0 ha hb
theorem je_sub (ha : JE X W F0 H0 Γ a (.v (.int i))) (hb : JE X W F0 H0 Γ b (.v (.int j))) : JE X W F0 H0 Γ (.BinOp a .Sub b pos) (.v (.int (i - j))) := je_bin op_sub rd_I0 ha hb
/-- x has at most n bits -/
def Bt (n : Nat) (x : Int) : Prop := x.natAbs < 2 ^ n
theorem je_mul (hc : CMul i j) (ha : JE X W F0 H0 Γ a (.v (.int i))) (hb : JE X W F0 H0 Γ b (.v (.int j))) : JE X W F0 H0 Γ (.BinOp a .Mult b pos) (.v (.int (i * j))) := je_bin op_mul (rd_I hc) ha hb
theorem je_mulW (hc : CMulW i j) (ha : JE X W F0 H0 Γ a (.v (.int i))) (hb : JE X W F0 H0 Γ b (.v (.int j))) : JE X W F0 H0 Γ (.BinOp a .Mult b pos) (.v (.int (i * j))) := je_bin op_mulW (rd_I hc) ha hb
theorem je_fdiv (hc : CDiv i j) (ha : JE X W F0 H0 Γ a (.v (.int i))) (hb : JE X W F0 H0 Γ b (.v (.int j))) : JE X W F0 H0 Γ (.BinOp a .FloorDiv b pos) (.v (.int (i / j))) := je_bin op_fdiv (rd_I hc) ha hb
theorem je_mod (hc : 0 < j) (ha : JE X W F0 H0 Γ a (.v (.int i))) (hb : JE X W F0 H0 Γ b (.v (.int j))) : JE X W F0 H0 Γ (.BinOp a .Mod b pos) (.v (.int (i % j))) := je_bin op_mod (rd_I (C := fun _ j => 0 < j) hc) ha hb
theorem je_pow (hc : CPow i j) (ha : JE X W F0 H0 Γ a (.v (.int i))) (hb : JE X W F0 H0 Γ b (.v (.int j))) : JE X W F0 H0 Γ (.BinOp a .Pow b pos) (.v (.int (i ^ j.toNat))) := je_bin op_pow (rd_I hc) ha hb
theorem je_neg (ha : JE X W F0 H0 Γ a (.v (.int i))) : JE X W F0 H0 Γ (.UnaryOp .USub a pos) (.v (.int (-i))) :=
  pe_imp (pe_un un_neg ha) fun σ H Q ⟨F, ok, q⟩ => ⟨F, ok, fun v F1 H1 z1 d1 => by
    cases d1
    exact ⟨i, rfl, q _ F1 H1 z1 (.int _)⟩⟩

/-! ### comparisons -/
theorem je_cmp {op : CmpOp} (ho : OpR X (compareOp op) r) (hr : RD X.K r x y z) (ha : JE X W F0 H0 Γ a (.v x)) (hb : JE X W F0 H0 Γ b (.v y)) (hm : behindInMarks op b = false) : JE X W F0 H0 Γ (.Compare a [op] [b] pos) (.v z) :=
  pe_imp (pe_cmpR ho ha hb hm) fun σ H Q ⟨F, ok, q⟩ => ⟨F, ok, fun v F1 H1 z1 d1 => ⟨F1, ok.mono z1, fun u F2 H2 z2 d2 => hr v u F2 H2 Q z2.s (dp_ex z2.f _ _ d1) d2 fun w F3 H3 z3 d3 => q w F3 H3 ((z1.trans z2).trans z3) d3⟩⟩
theorem jt_cmp {op : CmpOp} (ho : OpR X (compareOp op) r) (hr : RD X.K r x y (.bool p)) (ha : JE X WF F0 H0 Γ a (.v x)) (hb : JE X WF F0 H0 Γ b (.v y)) (hm : behindInMarks op b = false) : JT X F0 H0 Γ (.Compare a [op] [b] pos) p :=
  pt_imp (pt_cmpR ho ha hb hm) fun σ H Q ⟨F, ok, q⟩ => ⟨F, ok, fun v F1 H1 z1 d1 => ⟨F1, ok.mono z1, fun u F2 H2 z2 d2 => hr v u F2 H2 _ z2.s (dp_ex z2.f _ _ d1) d2 fun w F3 H3 z3 d3 => by
    cases d3
    exact ⟨p, rfl, q F3 H3 ((z1.trans z2).trans z3)⟩⟩⟩
/-- == of data -/
theorem rd_eq {K : PySem.W.Frag} (h1 : SeqAt.shaped x = true) (h2 : SeqAt.shaped y = true) : RD K (rEqD K) x y (.bool (PyData.eqv x y)) := fun v u F H Q s d1 d2 q => ⟨x, y, dp_ex s _ _ d1, dp_ex s _ _ d2, h1, h2, q _ F H (Fz.refl s) (.bl _)⟩
theorem rd_ne {K : PySem.W.Frag} (h1 : SeqAt.shaped x = true) (h2 : SeqAt.shaped y = true) : RD K (rNeD K) x y (.bool (!PyData.eqv x y)) := fun v u F H Q s d1 d2 q => ⟨x, y, dp_ex s _ _ d1, dp_ex s _ _ d2, h1, h2, q _ F H (Fz.refl s) (.bl _)⟩
theorem rd_isN {K : PySem.W.Frag} : RD K (fun x y H Q => y = .non ∧ Q (.bl (decide (x = .non))) H) x .none (.bool (match x with | .none => true | _ => false)) := fun v u F H Q s d1 d2 q => by
  cases d2
  refine ⟨rfl, q _ F H (Fz.refl s) ?_⟩
  cases d1 <;> exact .bl _
theorem rd_notN {K : PySem.W.Frag} : RD K (fun x y H Q => y = .non ∧ Q (.bl (!decide (x = .non))) H) x .none (.bool (match x with | .none => false | _ => true)) := fun v u F H Q s d1 d2 q => by
  cases d2
  refine ⟨rfl, q _ F H (Fz.refl s) ?_⟩
  cases d1 <;> exact .bl _
theorem rd_inD {K : PySem.W.Frag} {ds : List D} (h1 : SeqAt.shaped x = true) (h2 : SeqAt.shaped (.list ds) = true) : RD K (rInD K) x (.list ds) (.bool (ds.any fun z => PyData.eqv z x)) := fun v u F H Q s d1 d2 q => ⟨x, ds, dp_ex s _ _ d1, dp_ex s _ _ d2, h1, h2, q _ F H (Fz.refl s) (.bl _)⟩
theorem rd_notInD {K : PySem.W.Frag} {ds : List D} (h1 : SeqAt.shaped x = true) (h2 : SeqAt.shaped (.list ds) = true) : RD K (rNotInD K) x (.list ds) (.bool (!ds.any fun z => PyData.eqv z x)) := fun v u F H Q s d1 d2 q => ⟨x, ds, dp_ex s _ _ d1, dp_ex s _ _ d2, h1, h2, q _ F H (Fz.refl s) (.bl _)⟩

/-! ### tests -/
theorem jt_val (h : JE X WF F0 H0 Γ e (.v (.bool p))) (he : ∀ whole, isTrue e X.env whole = (do let v ← whole; standAt e.pos; holding [v] (truthy v)) := by intro _; rfl) : JT X F0 H0 Γ e p :=
  pt_imp (pt_val h he) fun σ H Q ⟨F, ok, q⟩ => ⟨F, ok, fun v F1 H1 z1 d1 => by
    cases d1
    exact ⟨p, rfl, q F1 H1 z1⟩⟩
theorem jt_not (h : JT X F0 H0 Γ e p) : JT X F0 H0 Γ (.UnaryOp .Not e pos) (!p) := pt_imp (pt_not h) fun σ H Q ⟨F, ok, q⟩ => ⟨F, ok, fun F1 H1 z1 => q F1 H1 z1⟩
theorem jt_w (h : JW X F0 H0 Γ e p) : JT X F0 H0 Γ e p := h.pt
theorem jw_and1 (h : JT X F0 H0 Γ e p) : JW X F0 H0 Γ (.BoolOp .And [e] pos) p := pw_and1 h
theorem jw_or1 (h : JT X F0 H0 Γ e p) : JW X F0 H0 Γ (.BoolOp .Or [e] pos) p := pw_or1 h
theorem jw_and {rest : List Expr} (h1 : JT X F0 H0 Γ a p) (h2 : p = true → JW X F0 H0 Γ (.BoolOp .And (b :: rest) pos) q) : JW X F0 H0 Γ (.BoolOp .And (a :: b :: rest) pos) (p && q) := by
  cases p with
  | true => exact pw_imp (pw_and h1 (h2 rfl)) fun σ H Q ⟨F, ok, k⟩ => ⟨F, ok, fun F1 H1 z1 => iteT ⟨F1, ok.mono z1, fun F2 H2 z2 => k F2 H2 (z1.trans z2)⟩⟩
  | false => exact pw_imp (pw_and h1 (tB' := fun _ _ _ => False) ⟨fun _ _ _ _ _ _ _ h => h.elim⟩) fun σ H Q ⟨F, ok, k⟩ => ⟨F, ok, fun F1 H1 z1 => iteF (k F1 H1 z1)⟩
theorem jw_or {rest : List Expr} (h1 : JT X F0 H0 Γ a p) (h2 : p = false → JW X F0 H0 Γ (.BoolOp .Or (b :: rest) pos) q) : JW X F0 H0 Γ (.BoolOp .Or (a :: b :: rest) pos) (p || q) := by
  cases p with
  | false => exact pw_imp (pw_or h1 (h2 rfl)) fun σ H Q ⟨F, ok, k⟩ => ⟨F, ok, fun F1 H1 z1 => iteF ⟨F1, ok.mono z1, fun F2 H2 z2 => k F2 H2 (z1.trans z2)⟩⟩
  | true => exact pw_imp (pw_or h1 (tB' := fun _ _ _ => False) ⟨fun _ _ _ _ _ _ _ h => h.elim⟩) fun σ H Q ⟨F, ok, k⟩ => ⟨F, ok, fun F1 H1 z1 => iteT (k F1 H1 z1)⟩
theorem je_and1 {op : BoolOp} {o : Out} (h : JE X W F0 H0 Γ e o) : JE X W F0 H0 Γ (.BoolOp op [e] pos) o := pe_one h
theorem je_and {rest : List Expr} (h1 : JE X W F0 H0 Γ a (.v (.bool p))) (h2 : p = true → JE X W F0 H0 Γ (.BoolOp .And (b :: rest) pos) (.v (.bool q))) : JE X W F0 H0 Γ (.BoolOp .And (a :: b :: rest) pos) (.v (.bool (p && q))) := by
  cases p with
  | true => exact pe_imp (pe_and h1 (h2 rfl)) fun σ H Q ⟨F, ok, k⟩ => ⟨F, ok, fun v F1 H1 z1 d1 => by
      cases d1
      exact ⟨true, rfl, iteT ⟨F1, ok.mono z1, fun v F2 H2 z2 d2 => k v F2 H2 (z1.trans z2) d2⟩⟩⟩
  | false => exact pe_imp (pe_and h1 (tb := fun _ _ _ => False) ⟨fun _ _ _ _ _ _ h => h.elim⟩) fun σ H Q ⟨F, ok, k⟩ => ⟨F, ok, fun v F1 H1 z1 d1 => by
      cases d1
      exact ⟨false, rfl, iteF (k _ F1 H1 z1 (.bl _))⟩⟩
theorem je_or {rest : List Expr} (h1 : JE X W F0 H0 Γ a (.v (.bool p))) (h2 : p = false → JE X W F0 H0 Γ (.BoolOp .Or (b :: rest) pos) (.v (.bool q))) : JE X W F0 H0 Γ (.BoolOp .Or (a :: b :: rest) pos) (.v (.bool (p || q))) := by
  cases p with
  | false => exact pe_imp (pe_or h1 (h2 rfl)) fun σ H Q ⟨F, ok, k⟩ => ⟨F, ok, fun v F1 H1 z1 d1 => by
      cases d1
      exact ⟨false, rfl, iteF ⟨F1, ok.mono z1, fun v F2 H2 z2 d2 => k v F2 H2 (z1.trans z2) d2⟩⟩⟩
  | true => exact pe_imp (pe_or h1 (tb := fun _ _ _ => False) ⟨fun _ _ _ _ _ _ h => h.elim⟩) fun σ H Q ⟨F, ok, k⟩ => ⟨F, ok, fun v F1 H1 z1 d1 => by
      cases d1
      exact ⟨true, rfl, iteT (k _ F1 H1 z1 (.bl _))⟩⟩
theorem je_not (h : JE X W F0 H0 Γ e (.v (.bool p))) : JE X W F0 H0 Γ (.UnaryOp .Not e pos) (.v (.bool (!p))) := pe_imp (pe_not h) fun σ H Q ⟨F, ok, q⟩ => ⟨F, ok, fun v F1 H1 z1 d1 => by
  cases d1
  exact ⟨p, rfl, q _ F1 H1 z1 (.bl _)⟩⟩
theorem je_is {o o' : Out} (h : JE X W F0 H0 Γ e o) (k : o = o') : JE X W F0 H0 Γ e o' := k ▸ h
theorem jt_is (h : JT X F0 H0 Γ e p) (k : p = q) : JT X F0 H0 Γ e q := k ▸ h
theorem je_ifT {c : Expr} {o : Out} (hc : JT X F0 H0 Γ c true) (ha : JE X W F0 H0 Γ a o) : JE X W F0 H0 Γ (.IfExp c a b pos) o :=
  pe_imp (pe_ifExp hc ha (tb := fun _ _ _ => False) ⟨fun _ _ _ _ _ _ h => h.elim⟩) fun σ H Q ⟨F, ok, q⟩ => ⟨F, ok, fun F1 H1 z1 => iteT ⟨F1, ok.mono z1, po_mono z1 q⟩⟩
theorem je_ifF {c : Expr} {o : Out} (hc : JT X F0 H0 Γ c false) (hb : JE X W F0 H0 Γ b o) : JE X W F0 H0 Γ (.IfExp c a b pos) o :=
  pe_imp (pe_ifExp hc (ta := fun _ _ _ => False) ⟨fun _ _ _ _ _ _ h => h.elim⟩ hb) fun σ H Q ⟨F, ok, q⟩ => ⟨F, ok, fun F1 H1 z1 => iteF ⟨F1, ok.mono z1, po_mono z1 q⟩⟩

/-! ### arguments, displays -/
variable {es : List Expr} {ds : List D}
theorem ja_nil : JA X F0 H0 Γ [] [] := pa_imp pa_nil fun σ H Q ⟨F, ok, q⟩ => q [] F H (Fz.refl ok.fh) .nil
theorem ja_cons (ha : JE X WF F0 H0 Γ e (.v x)) (hr : JA X F0 H0 Γ es ds) (hs : starEach (e :: es) X.env = (false, eval e X.env) :: starEach es X.env := by rfl) : JA X F0 H0 Γ (e :: es) (x :: ds) :=
  pa_imp (pa_cons ha hr hs) fun σ H Q ⟨F, ok, q⟩ => ⟨F, ok, fun v F1 H1 z1 d1 => ⟨F1, ok.mono z1, fun vs F2 H2 z2 d2 => q (v :: vs) F2 H2 (z1.trans z2) (.cons (dp_ex z2.f _ _ d1) d2)⟩⟩
theorem je_tup {k : Nat} (h : JA X F0 H0 Γ es ds) (hl : ds.length ≤ 100000 := by exact Nat.le_of_ble_eq_true rfl) : JE X W F0 H0 Γ (.Tuple es k pos) (.v (.tuple ds)) :=
  pe_imp (pe_tup h) fun σ H Q ⟨F, ok, q⟩ => ⟨F, ok, fun vs F1 H1 z1 d1 => ⟨by rw [da_len d1]; exact Nat.le_trans hl (by decide), po_tup z1.s d1 fun v F' H' z d => q v F' H' (z1.trans z) d⟩⟩
theorem je_lst (h : JA X F0 H0 Γ es ds) (hl : ds.length ≤ 100000 := by exact Nat.le_of_ble_eq_true rfl) : JE X W F0 H0 Γ (.List es pos) (.o ds) :=
  pe_imp (pe_lst h) fun σ H Q ⟨F, ok, q⟩ => ⟨F, ok, fun vs F1 H1 z1 d1 => ⟨by rw [da_len d1]; exact Nat.le_trans hl (by decide), po_lst z1.s d1 (po_mono z1 (show Po X.K F H Q E0 (.o ds) from q))⟩⟩

/-! ### built-ins -/
theorem je_cb {id : String} {n : Str} {o : Out} {r : List V → Hp → VK → Prop} {np : Pos} (hc : CallR X (.builtin id) r) (hr : RC X.K r ds o) (ho : o.val) (hm : X.mg n = none) (hv : bootBuiltins n = some (.builtin id)) (ha : JA X F0 H0 Γ (e :: es) ds) (hg : Gl X n := by rfl)
    (hn : n ≠ "__name__" := by decide) (hdb : (n == ("__debug__" : Str)) = false := by decide) (he : starEach (e :: es) X.env = (false, eval e X.env) :: starEach es X.env := by rfl) (hpl : (backTo pos (starEach es X.env)).any (·.1) = false := by rfl) : JE X W F0 H0 Γ (.Call (.Name n np) (e :: es) [] pos) o :=
  pe_imp (pe_callB hc hg hm hv ha hn hdb he hpl) fun σ H Q h => by
    obtain ⟨F, ok, q⟩ := po_of (F := H) ho h
    exact ⟨F, ok, fun vs F1 H1 z1 d1 => hr vs F1 H1 Q z1.s d1 (po_mono z1 q)⟩
theorem je_ct {T : String} {n : Str} {o : Out} {r : List V → Hp → VK → Prop} {np : Pos} (hc : CallR X (.type T) r) (hr : RC X.K r ds o) (ho : o.val) (hm : X.mg n = none) (hv : bootBuiltins n = some (.type T)) (ha : JA X F0 H0 Γ (e :: es) ds) (hg : Gl X n := by rfl)
    (hn : n ≠ "__name__" := by decide) (hdb : (n == ("__debug__" : Str)) = false := by decide) (he : starEach (e :: es) X.env = (false, eval e X.env) :: starEach es X.env := by rfl) (hpl : (backTo pos (starEach es X.env)).any (·.1) = false := by rfl) : JE X W F0 H0 Γ (.Call (.Name n np) (e :: es) [] pos) o :=
  pe_imp (pe_callTy hc hg hm hv ha hn hdb he hpl) fun σ H Q h => by
    obtain ⟨F, ok, q⟩ := po_of (F := H) ho h
    exact ⟨F, ok, fun vs F1 H1 z1 d1 => hr vs F1 H1 Q z1.s d1 (po_mono z1 q)⟩
end
end TB

namespace TB
open PySem L2

section
variable {X : Cx} {W : WX} {F0 H0 : Hp} {Γ : List S} {a b e : Expr} {x y z : D} {pos : Pos} {r : R2} {i j : Int} {p q : Bool} {es : List Expr} {ds : List D}

/-! ### built-ins over data -/
section
variable {K : PySem.W.Frag}
theorem rc1 {r : List V → Hp → VK → Prop} {o : Out} (h : ∀ (v : V) (F H : Hp) (Q : VK), Ex F H → Dp K F v x → Po K F H Q E0 o → r [v] H Q) : RC K r [x] o := fun vs F H Q s d q => by
  cases d with
  | cons d1 d2 =>
    cases d2
    exact h _ F H Q s d1 q
theorem rc2 {r : List V → Hp → VK → Prop} {o : Out} (h : ∀ (v u : V) (F H : Hp) (Q : VK), Ex F H → Dp K F v x → Dp K F u y → Po K F H Q E0 o → r [v, u] H Q) : RC K r [x, y] o := fun vs F H Q s d q => by
  cases d with
  | cons d1 d2 =>
    cases d2 with
    | cons d2 d3 =>
      cases d3
      exact h _ _ F H Q s d1 d2 q
theorem rc_lenL : RC K (fun xs H Q => ∃ x n, xs = [x] ∧ LenV K x H n ∧ Q (.int n) H) [.list ds] (.v (.int ds.length)) := rc1 fun v F H Q s d q => by
  cases d with
  | lst h1 h2 => exact ⟨_, _, rfl, .inl ⟨_, sl_ex s h1, rfl⟩, by rw [da_len h2]; exact q _ F H (Fz.refl s) (.int _)⟩
theorem rc_lenT : RC K (fun xs H Q => ∃ x n, xs = [x] ∧ LenV K x H n ∧ Q (.int n) H) [.tuple ds] (.v (.int ds.length)) := rc1 fun v F H Q s d q => by
  cases d with
  | tup h1 h2 => exact ⟨_, _, rfl, .inr ⟨_, st_ex s h1, rfl⟩, by rw [da_len h2]; exact q _ F H (Fz.refl s) (.int _)⟩
theorem rc_lenS {t : Str} (hl : t.length ≤ sizeLine) : RC K (fun xs H Q => ∃ x n, xs = [x] ∧ LenV K x H n ∧ Q (.int n) H) [.str t] (.v (.int t.length)) := rc1 fun v F H Q s d q => by
  cases d
  exact ⟨_, _, rfl, ⟨hl, rfl⟩, q _ F H (Fz.refl s) (.int _)⟩
theorem rc_intI : RC K (fun xs H Q => (∃ i, xs = [.int i] ∧ Q (.int i) H) ∨ ∃ k, xs = [.bl k] ∧ Q (.int (if k then 1 else 0)) H) [.int i] (.v (.int i)) := rc1 fun v F H Q s d q => by
  cases d
  exact .inl ⟨_, rfl, q _ F H (Fz.refl s) (.int _)⟩
theorem rc_intB : RC K (fun xs H Q => (∃ i, xs = [.int i] ∧ Q (.int i) H) ∨ ∃ k, xs = [.bl k] ∧ Q (.int (if k then 1 else 0)) H) [.bool p] (.v (.int (if p then 1 else 0))) := rc1 fun v F H Q s d q => by
  cases d
  exact .inr ⟨_, rfl, q _ F H (Fz.refl s) (.int _)⟩
theorem rc_abs : RC K (fun xs H Q => ∃ i, xs = [.int i] ∧ Q (.int (if i < 0 then -i else i)) H) [.int i] (.v (.int (if i < 0 then -i else i))) := rc1 fun v F H Q s d q => by
  cases d
  exact ⟨_, rfl, q _ F H (Fz.refl s) (.int _)⟩
theorem rc_max2 : RC K (fun xs H Q => ∃ i j, xs = [.int i, .int j] ∧ Q (.int (if j > i then j else i)) H) [.int i, .int j] (.v (.int (if j > i then j else i))) := rc2 fun v u F H Q s d1 d2 q => by
  cases d1; cases d2
  exact ⟨_, _, rfl, q _ F H (Fz.refl s) (.int _)⟩
theorem rc_sum {ns : List Int} : RC K (rSum K) [.list (ns.map .int)] (.v (.int ns.sum)) := rc1 fun v F H Q s d q => by
  cases d with
  | lst h1 h2 =>
    rw [da_ints h2] at h1
    exact ⟨_, ns, rfl, sl_ex s h1, q _ F H (Fz.refl s) (.int _)⟩
theorem rc_tupL : RC K (fun xs H Q => ∃ p ys, xs = [.ref p] ∧ ((SqL K H p ys ∧ ∀ l, H l = none → Q (.ref l) (upd H l (.tup ys))) ∨ (SqT K H p ys ∧ Q (.ref p) H))) [.list ds] (.v (.tuple ds)) := rc1 fun v F H Q s d q => by
  cases d with
  | lst h1 h2 => exact ⟨_, _, rfl, .inl ⟨sl_ex s h1, po_tup s h2 q⟩⟩
theorem rc_tupT : RC K (fun xs H Q => ∃ p ys, xs = [.ref p] ∧ ((SqL K H p ys ∧ ∀ l, H l = none → Q (.ref l) (upd H l (.tup ys))) ∨ (SqT K H p ys ∧ Q (.ref p) H))) [.tuple ds] (.v (.tuple ds)) := rc1 fun v F H Q s d q => by
  cases d with
  | tup h1 h2 => exact ⟨_, _, rfl, .inr ⟨st_ex s h1, q _ F H (Fz.refl s) (.tup h1 h2)⟩⟩
theorem rc_listL : RC K (fun xs H Q => ∃ p ys, xs = [.ref p] ∧ (SqL K H p ys ∨ SqT K H p ys) ∧ ∀ l, H l = none → Q (.ref l) (upd H l (.lst ys))) [.list ds] (.o ds) := rc1 fun v F H Q s d q => by
  cases d with
  | lst h1 h2 => exact ⟨_, _, rfl, .inl (sl_ex s h1), po_lst s h2 q⟩
theorem rc_listT : RC K (fun xs H Q => ∃ p ys, xs = [.ref p] ∧ (SqL K H p ys ∨ SqT K H p ys) ∧ ∀ l, H l = none → Q (.ref l) (upd H l (.lst ys))) [.tuple ds] (.o ds) := rc1 fun v F H Q s d q => by
  cases d with
  | tup h1 h2 => exact ⟨_, _, rfl, .inr (st_ex s h1), po_lst s h2 q⟩
end
theorem noX {x : D} : (Out.v x).val := trivial
theorem noX' {ds : List D} : (Out.o ds).val := trivial

theorem je_lenL {np : Pos} (hm : X.mg "len" = none) (h : JE X W F0 H0 Γ e (.v (.list ds))) (hg : Gl X "len" := by rfl) (s1 : starEach [e] X.env = (false, eval e X.env) :: starEach [] X.env := by rfl) : JE X W F0 H0 Γ (.Call (.Name "len" np) [e] [] pos) (.v (.int ds.length)) := je_cb call_len rc_lenL noX hm PySem.boot_len (ja_cons h ja_nil s1) hg (by decide) (by decide) s1
theorem je_lenT {np : Pos} (hm : X.mg "len" = none) (h : JE X W F0 H0 Γ e (.v (.tuple ds))) (hg : Gl X "len" := by rfl) (s1 : starEach [e] X.env = (false, eval e X.env) :: starEach [] X.env := by rfl) : JE X W F0 H0 Γ (.Call (.Name "len" np) [e] [] pos) (.v (.int ds.length)) := je_cb call_len rc_lenT noX hm PySem.boot_len (ja_cons h ja_nil s1) hg (by decide) (by decide) s1
theorem je_intI {np : Pos} (hm : X.mg "int" = none) (h : JE X W F0 H0 Γ e (.v (.int i))) (hg : Gl X "int" := by rfl) (s1 : starEach [e] X.env = (false, eval e X.env) :: starEach [] X.env := by rfl) : JE X W F0 H0 Γ (.Call (.Name "int" np) [e] [] pos) (.v (.int i)) := je_ct call_int1 rc_intI noX hm (by decide +kernel) (ja_cons h ja_nil s1) hg (by decide) (by decide) s1
theorem je_intB {np : Pos} (hm : X.mg "int" = none) (h : JE X W F0 H0 Γ e (.v (.bool p))) (hg : Gl X "int" := by rfl) (s1 : starEach [e] X.env = (false, eval e X.env) :: starEach [] X.env := by rfl) : JE X W F0 H0 Γ (.Call (.Name "int" np) [e] [] pos) (.v (.int (if p then 1 else 0))) := je_ct call_int1 rc_intB noX hm (by decide +kernel) (ja_cons h ja_nil s1) hg (by decide) (by decide) s1
theorem je_abs {np : Pos} (hm : X.mg "abs" = none) (h : JE X W F0 H0 Γ e (.v (.int i))) (hg : Gl X "abs" := by rfl) (s1 : starEach [e] X.env = (false, eval e X.env) :: starEach [] X.env := by rfl) : JE X W F0 H0 Γ (.Call (.Name "abs" np) [e] [] pos) (.v (.int (if i < 0 then -i else i))) := je_cb call_abs rc_abs noX hm (by decide +kernel) (ja_cons h ja_nil s1) hg (by decide) (by decide) s1
theorem je_max2 {np : Pos} (hc : X.calm = true) (hm : X.mg "max" = none) (ha : JE X W F0 H0 Γ a (.v (.int i))) (hb : JE X W F0 H0 Γ b (.v (.int j))) (hg : Gl X "max" := by rfl) (s1 : starEach [a, b] X.env = (false, eval a X.env) :: starEach [b] X.env := by rfl) (s2 : starEach [b] X.env = (false, eval b X.env) :: starEach [] X.env := by rfl) (s3 : (backTo pos (starEach [b] X.env)).any (·.1) = false := by rfl) : JE X W F0 H0 Γ (.Call (.Name "max" np) [a, b] [] pos) (.v (.int (if j > i then j else i))) := je_cb (call_max2 hc) rc_max2 noX hm (by decide +kernel) (ja_cons ha (ja_cons hb ja_nil s2) s1) hg (by decide) (by decide) s1 s3
theorem je_sum {np : Pos} {ns : List Int} (hc : X.calm = true) (hm : X.mg "sum" = none) (h : JE X W F0 H0 Γ e (.v (.list (ns.map .int)))) (hg : Gl X "sum" := by rfl) (s1 : starEach [e] X.env = (false, eval e X.env) :: starEach [] X.env := by rfl) : JE X W F0 H0 Γ (.Call (.Name "sum" np) [e] [] pos) (.v (.int ns.sum)) := je_cb (cr_sum hc) rc_sum noX hm (by decide +kernel) (ja_cons h ja_nil s1) hg (by decide) (by decide) s1
theorem je_tupL {np : Pos} (hm : X.mg "tuple" = none) (h : JE X W F0 H0 Γ e (.v (.list ds))) (hg : Gl X "tuple" := by rfl) (s1 : starEach [e] X.env = (false, eval e X.env) :: starEach [] X.env := by rfl) : JE X W F0 H0 Γ (.Call (.Name "tuple" np) [e] [] pos) (.v (.tuple ds)) := je_ct call_tuple_of rc_tupL noX hm (by decide +kernel) (ja_cons h ja_nil s1) hg (by decide) (by decide) s1
theorem je_listL {np : Pos} (hm : X.mg "list" = none) (h : JE X W F0 H0 Γ e (.v (.list ds))) (hg : Gl X "list" := by rfl) (s1 : starEach [e] X.env = (false, eval e X.env) :: starEach [] X.env := by rfl) : JE X W F0 H0 Γ (.Call (.Name "list" np) [e] [] pos) (.o ds) := je_ct call_list_of rc_listL noX' hm (by decide +kernel) (ja_cons h ja_nil s1) hg (by decide) (by decide) s1
theorem je_listT {np : Pos} (hm : X.mg "list" = none) (h : JE X W F0 H0 Γ e (.v (.tuple ds))) (hg : Gl X "list" := by rfl) (s1 : starEach [e] X.env = (false, eval e X.env) :: starEach [] X.env := by rfl) : JE X W F0 H0 Γ (.Call (.Name "list" np) [e] [] pos) (.o ds) := je_ct call_list_of rc_listT noX' hm (by decide +kernel) (ja_cons h ja_nil s1) hg (by decide) (by decide) s1

/-! ### subscripts -/
theorem atI_da {K : PySem.W.Frag} {F : Hp} {xs : List V} {ds : List D} {i : Int} {d : D} (h : DpAll K F xs ds) (e : atI ds i = some d) : ∃ v, atI xs i = some v ∧ Dp K F v d := by
  unfold atI at e ⊢
  rw [da_len h]
  cases q : ixN ds.length i with
  | none => rw [q] at e; cases e
  | some j =>
    rw [q] at e
    exact da_get h e
theorem je_ixL {d : D} (h : atI ds i = some d) (ha : JE X W F0 H0 Γ a (.v (.list ds))) (hb : JE X W F0 H0 Γ b (.v (.int i))) (hs : PlainIx b := by exact fun _ _ => rfl) : JE X W F0 H0 Γ (.Subscript a b pos) (.v d) :=
  pe_imp (pe_ix ix_list ha hb hs) fun σ H Q ⟨F, ok, q⟩ => ⟨F, ok, fun v F1 H1 z1 d1 => ⟨F1, ok.mono z1, fun u F2 H2 z2 d2 => by
    cases d1 with
    | lst g1 g2 =>
      cases d2
      obtain ⟨w, e1, e2⟩ := atI_da g2 h
      exact ⟨_, _, _, w, rfl, rfl, sl_ex (z2.f.trans z2.s) g1, e1, q w F2 H2 (z1.trans z2) (dp_ex z2.f _ _ e2)⟩⟩⟩
theorem je_ixT {d : D} (h : atI ds i = some d) (ha : JE X W F0 H0 Γ a (.v (.tuple ds))) (hb : JE X W F0 H0 Γ b (.v (.int i))) (hs : PlainIx b := by exact fun _ _ => rfl) : JE X W F0 H0 Γ (.Subscript a b pos) (.v d) :=
  pe_imp (pe_ix ix_tup ha hb hs) fun σ H Q ⟨F, ok, q⟩ => ⟨F, ok, fun v F1 H1 z1 d1 => ⟨F1, ok.mono z1, fun u F2 H2 z2 d2 => by
    cases d1 with
    | tup g1 g2 =>
      cases d2
      obtain ⟨w, e1, e2⟩ := atI_da g2 h
      exact ⟨_, _, _, w, rfl, rfl, st_ex (z2.f.trans z2.s) g1, e1, q w F2 H2 (z1.trans z2) (dp_ex z2.f _ _ e2)⟩⟩⟩
def cutD (xs : List D) (lo hi : Option Int) : List D := (xs.drop (HT.sIx xs.length 0 lo)).take (HT.sIx xs.length xs.length hi - HT.sIx xs.length 0 lo)
theorem cut_da {K : PySem.W.Frag} {F : Hp} {xs : List V} {ds : List D} {lo hi : Option Int} (h : DpAll K F xs ds) : DpAll K F (cutV xs lo hi) (cutD ds lo hi) := by
  unfold cutV cutD
  rw [da_len h]
  exact da_take _ (da_drop _ h)
def tPartD (K : PySem.W.Frag) (F0 H0 : Hp) (Γ : List S) (o : Option Int) : TO := fun σ H Q => ∃ F, Ok K F0 H0 F σ H Γ ∧ ∀ F' H', Fz F H F' H' → Q o H'
abbrev JO (X : Cx) (F0 H0 : Hp) (Γ : List S) (e : Option Expr) (o : Option Int) : Prop := PO X e (tPartD X.K F0 H0 Γ o)
theorem jo_none : JO X F0 H0 Γ none none := ⟨fun pins s σ H Q I ⟨F, ok, q⟩ => po_none.run pins s σ H Q I (q F H (Fz.refl ok.fh))⟩
theorem jo_some (h : JE X WF F0 H0 Γ e (.v (.int i))) : JO X F0 H0 Γ (some e) (some i) := ⟨fun pins s σ H Q I ⟨F, ok, q⟩ => (po_some h).run pins s σ H Q I ⟨F, ok, fun v F1 H1 z1 d1 => by
  cases d1
  exact ⟨i, rfl, q F1 H1 z1⟩⟩⟩
theorem je_slL {lo hi : Option Expr} {l u : Option Int} {p2 : Pos} (he : JE X W F0 H0 Γ e (.v (.list ds))) (hl : JO X F0 H0 Γ lo l) (hu : JO X F0 H0 Γ hi u) : JE X W F0 H0 Γ (.Subscript e (.Slice lo hi none p2) pos) (.o (cutD ds l u)) :=
  pe_imp (pe_slice sl_list he hl hu) fun σ H Q ⟨F, ok, q⟩ => ⟨F, ok, fun v F1 H1 z1 d1 => ⟨F1, ok.mono z1, fun F2 H2 z2 => ⟨F2, (ok.mono z1).mono z2, fun F3 H3 z3 => by
    cases d1 with
    | lst g1 g2 =>
      have zz := (z1.trans z2).trans z3
      exact ⟨_, _, rfl, sl_ex ((z2.f.trans z3.f).trans z3.s) g1, po_lst z3.s (cut_da (da_ex (z2.f.trans z3.f) _ _ g2)) (po_mono zz (show Po X.K F H Q E0 (.o _) from q))⟩⟩⟩⟩
theorem je_slT {lo hi : Option Expr} {l u : Option Int} {p2 : Pos} (hn : ¬ (HT.sIx ds.length 0 l = 0 ∧ HT.sIx ds.length ds.length u = ds.length)) (he : JE X W F0 H0 Γ e (.v (.tuple ds))) (hl : JO X F0 H0 Γ lo l) (hu : JO X F0 H0 Γ hi u) : JE X W F0 H0 Γ (.Subscript e (.Slice lo hi none p2) pos) (.v (.tuple (cutD ds l u))) :=
  pe_imp (pe_slice sl_tup he hl hu) fun σ H Q ⟨F, ok, q⟩ => ⟨F, ok, fun v F1 H1 z1 d1 => ⟨F1, ok.mono z1, fun F2 H2 z2 => ⟨F2, (ok.mono z1).mono z2, fun F3 H3 z3 => by
    cases d1 with
    | tup g1 g2 =>
      have zz := (z1.trans z2).trans z3
      exact ⟨_, _, rfl, st_ex ((z2.f.trans z3.f).trans z3.s) g1, by rw [da_len g2]; exact hn, po_tup z3.s (cut_da (da_ex (z2.f.trans z3.f) _ _ g2)) fun v F' H' z d => q v F' H' (zz.trans z) d⟩⟩⟩⟩
/-- t + u of tuples, neither empty -/
theorem rd_catT {K : PySem.W.Frag} {es : List D} (h1 : ds ≠ []) (h2 : es ≠ []) (hl : ds.length + es.length ≤ 100000) : RD K (rCatT K) (.tuple ds) (.tuple es) (.tuple (ds ++ es)) := fun v u F H Q s d1 d2 q => by
  cases d1 with
  | tup a1 a2 =>
    cases d2 with
    | tup b1 b2 =>
      have l1 := da_len a2
      have l2 := da_len b2
      refine ⟨_, _, _, _, rfl, rfl, st_ex s a1, st_ex s b1, ?_, ?_, ?_, ?_⟩
      · intro z; rw [z] at l1; exact h1 (List.length_eq_zero_iff.mp l1.symm)
      · rw [l1, l2]; exact Nat.le_trans hl (by decide)
      · intro z; rw [z] at l2; exact absurd (List.length_eq_zero_iff.mp l2.symm) h2
      · intro _
        exact po_tup s (da_app a2 b2) q
theorem je_catT {es : List D} (h1 : ds ≠ []) (h2 : es ≠ []) (hl : ds.length + es.length ≤ 100000) (ha : JE X W F0 H0 Γ a (.v (.tuple ds))) (hb : JE X W F0 H0 Γ b (.v (.tuple es))) : JE X W F0 H0 Γ (.BinOp a .Add b pos) (.v (.tuple (ds ++ es))) := je_bin op_catT (rd_catT h1 h2 hl) ha hb

/-! ### a list of one's own, read -/
theorem je_own_len (k : Nat) {n : Str} {np q2 : Pos} (g : Γ[k]? = some (.own ds)) (hm : X.mg "len" = none) (hN : X.N[k]? = some n := by rfl) (hv : Vis X.env.scope n := by first | exact Or.inl rfl | exact Or.inr (Or.inl rfl) | exact Or.inr (Or.inr rfl)) (hg : Gl X "len" := by rfl) (hd : (n == ("__debug__" : Str)) = false := by decide) (hcd : (n == ("__classdict__" : Str)) = false := by decide) :
    JE X W F0 H0 Γ (.Call (.Name "len" np) [.Name n q2] [] pos) (.v (.int ds.length)) :=
  pe_imp (pe_callB call_len hg hm PySem.boot_len (pa_cons (pe_var hN hv hd hcd) pa_nil)) fun σ H Q ⟨F, ok, q⟩ => by
    obtain ⟨p, xs, e1, e2, e3, e4, e5⟩ := ok.own g
    exact ⟨_, e1, _, _, rfl, .inl ⟨_, SqL.of e2, rfl⟩, by rw [da_len e5]; exact q _ F H (Fz.refl ok.fh) (.int _)⟩
theorem je_own_ix (k : Nat) {n : Str} {q2 : Pos} {d : D} (g : Γ[k]? = some (.own ds)) (h : atI ds i = some d) (hb : JE X W F0 H0 Γ b (.v (.int i))) (hs : PlainIx b := by exact fun _ _ => rfl) (hN : X.N[k]? = some n := by rfl) (hv : Vis X.env.scope n := by first | exact Or.inl rfl | exact Or.inr (Or.inl rfl) | exact Or.inr (Or.inr rfl)) (hd : (n == ("__debug__" : Str)) = false := by decide) (hcd : (n == ("__classdict__" : Str)) = false := by decide) :
    JE X W F0 H0 Γ (.Subscript (.Name n q2) b pos) (.v d) :=
  pe_imp (pe_ix ix_list (pe_var hN hv hd hcd) hb hs) fun σ H Q ⟨F, ok, q⟩ => by
    obtain ⟨p, xs, e1, e2, e3, e4, e5⟩ := ok.own g
    refine ⟨_, e1, F, ok, fun u F2 H2 z2 d2 => ?_⟩
    cases d2
    obtain ⟨w, k1, k2⟩ := atI_da e5 h
    exact ⟨_, _, _, w, rfl, rfl, SqL.of (z2.h _ _ e2), k1, q w F2 H2 z2 (dp_ex z2.f _ _ k2)⟩
theorem je_own_sl (k : Nat) {n : Str} {q2 p2 : Pos} {lo hi : Option Expr} {l u : Option Int} (g : Γ[k]? = some (.own ds)) (hl : JO X F0 H0 Γ lo l) (hu : JO X F0 H0 Γ hi u) (hN : X.N[k]? = some n := by rfl) (hv : Vis X.env.scope n := by first | exact Or.inl rfl | exact Or.inr (Or.inl rfl) | exact Or.inr (Or.inr rfl)) (hd : (n == ("__debug__" : Str)) = false := by decide) (hcd : (n == ("__classdict__" : Str)) = false := by decide) :
    JE X W F0 H0 Γ (.Subscript (.Name n q2) (.Slice lo hi none p2) pos) (.o (cutD ds l u)) :=
  pe_imp (pe_slice sl_list (pe_var hN hv hd hcd) hl hu) fun σ H Q ⟨F, ok, q⟩ => by
    obtain ⟨p, xs, e1, e2, e3, e4, e5⟩ := ok.own g
    exact ⟨_, e1, F, ok, fun F2 H2 z2 => ⟨F2, ok.mono z2, fun F3 H3 z3 => ⟨_, _, rfl, SqL.of ((z2.trans z3).h _ _ e2), po_lst z3.s (cut_da (da_ex (z2.f.trans z3.f) _ _ e5)) (po_mono (z2.trans z3) (show Po X.K F H Q E0 (.o _) from q))⟩⟩⟩
/-- found + [..] -/
theorem je_own_cat (k : Nat) {n : Str} {q2 : Pos} {es : List D} (g : Γ[k]? = some (.own ds)) (hl : ds.length + es.length ≤ 100000) (hb : JE X W F0 H0 Γ b (.o es)) (hN : X.N[k]? = some n := by rfl) (hv : Vis X.env.scope n := by first | exact Or.inl rfl | exact Or.inr (Or.inl rfl) | exact Or.inr (Or.inr rfl)) (hd : (n == ("__debug__" : Str)) = false := by decide) (hcd : (n == ("__classdict__" : Str)) = false := by decide) :
    JE X W F0 H0 Γ (.BinOp (.Name n q2) .Add b pos) (.o (ds ++ es)) :=
  pe_imp (pe_op op_cat (pe_var hN hv hd hcd) hb) fun σ H Q ⟨F, ok, q⟩ => by
    obtain ⟨p, xs, e1, e2, e3, e4, e5⟩ := ok.own g
    refine ⟨_, e1, F, ok, fun p2 ys F2 H2 z2 n1 n2 n3 d2 => ⟨_, _, _, _, rfl, rfl, z2.h _ _ e2, n2, ?_, ?_⟩⟩
    · rw [da_len e5, da_len d2]; exact Nat.le_trans hl (by decide)
    · exact po_lst z2.s (da_app (da_ex z2.f _ _ e5) d2) (po_mono z2 (show Po X.K F H Q E0 (.o _) from q))
/-- [..] + [..], the operands new lists -/
theorem je_catOO {es : List D} (hl : ds.length + es.length ≤ 100000) (ha : JE X W F0 H0 Γ a (.o ds)) (hb : JE X W F0 H0 Γ b (.o es)) : JE X W F0 H0 Γ (.BinOp a .Add b pos) (.o (ds ++ es)) :=
  pe_imp (pe_op op_cat ha hb) fun σ H Q ⟨F, ok, q⟩ => ⟨F, ok, fun p1 xs F1 H1 z1 m1 m2 m3 d1 => ⟨F1, ok.mono z1, fun p2 ys F2 H2 z2 n1 n2 n3 d2 => ⟨_, _, _, _, rfl, rfl, z2.h _ _ m2, n2, by rw [da_len d1, da_len d2]; exact Nat.le_trans hl (by decide), po_lst z2.s (da_app (da_ex z2.f _ _ d1) d2) (po_mono (z1.trans z2) (show Po X.K F H Q E0 (.o _) from q))⟩⟩⟩
/-- [..] * k -/
theorem je_repO {k : Int} (h0 : 0 ≤ k) (hk : k < 2 ^ 40) (hl : ds.length * k.toNat ≤ 100000) (ha : JE X W F0 H0 Γ a (.o ds)) (hb : JE X W F0 H0 Γ b (.v (.int k))) : JE X W F0 H0 Γ (.BinOp a .Mult b pos) (.o (List.replicate k.toNat ds).flatten) :=
  pe_imp (pe_op op_rep ha hb) fun σ H Q ⟨F, ok, q⟩ => ⟨F, ok, fun p1 xs F1 H1 z1 m1 m2 m3 d1 => ⟨F1, ok.mono z1, fun u F2 H2 z2 d2 => by
    cases d2
    refine ⟨_, _, _, rfl, rfl, z2.h _ _ m2, by omega, by omega, by rw [da_len d1]; exact Nat.le_trans hl (by decide), ?_⟩
    have rep : ∀ m : Nat, DpAll X.K F2 (List.replicate m xs).flatten (List.replicate m ds).flatten := fun m => by
      induction m with
      | zero => exact .nil
      | succ m ih => rw [List.replicate_succ, List.replicate_succ, List.flatten_cons, List.flatten_cons]; exact da_app (da_ex z2.f _ _ d1) ih
    exact po_lst z2.s (rep _) (po_mono (z1.trans z2) (show Po X.K F H Q E0 (.o _) from q))⟩⟩

/-! ### calls of the text's own defs -/
def spD (K : PySem.W.Frag) (R : List D → Out → Prop) : Sp := fun vs H Q E => ∃ F ds o, Ex F H ∧ DpAll K F vs ds ∧ R ds o ∧ Po K F H Q E o
variable {k : Nat} {f : Addr} {fd : FuncData} {ps : List Str} {R : List D → Out → Prop} {n : Str} {np : Pos} {o : Out}
theorem po_E {K : PySem.W.Frag} {F H : Hp} {Q : VK} {E E' : XK} (h : Po K F H Q E o) (hE : ∀ c d H', E c d H' → E' c d H') : Po K F H Q E' o := by
  cases o with
  | v x => exact h
  | o ds => exact h
  | q t => exact h
  | x c => exact fun F' H' z => hE _ _ H' (h F' H' z)
  | xf c f x => exact fun d v F' H' z n1 n2 dp => hE _ _ H' (h d v F' H' z n1 n2 dp)
theorem je_call (tk : L2.Takes X W) (G : FnOk X.prog X.w X.K X.mg X.base (L2.CX X.prog X.w) k f fd ps (spD X.K R)) (hr : Room k X.A) (hm : X.mg n = some (.ref f)) (hk : PySem.W.keepIn X.K (.ref f) = true) (hb : Binds X.K fd ps []) (ha : JA X F0 H0 Γ (e :: es) ds) (hR : R ds o)
    (hg : Gl X n := by rfl) (hdb : (n == ("__debug__" : Str)) = false := by decide) (he : starEach (e :: es) X.env = (false, eval e X.env) :: starEach es X.env := by rfl) (hpl : (backTo pos (starEach es X.env)).any (·.1) = false := by rfl) : JE X W F0 H0 Γ (.Call (.Name n np) (e :: es) [] pos) o :=
  pe_imp (pe_callS G hr hg hm hk hb (fun σ => passAt tk σ) ha hdb he hpl) fun σ H Q ⟨F, ok, q⟩ => ⟨F, ok, fun vs F1 H1 z1 d1 => ⟨F1, ds, _, z1.s, d1, hR, po_mono z1 q⟩⟩
/-- f() -/
theorem je_call0 (tk : L2.Takes X W) (G : FnOk X.prog X.w X.K X.mg X.base (L2.CX X.prog X.w) k f fd ps (spD X.K R)) (hr : Room k X.A) (hm : X.mg n = some (.ref f)) (hk : PySem.W.keepIn X.K (.ref f) = true) (hb : Binds X.K fd ps []) (hR : R [] o) (hno : o.val)
    (hg : Gl X n := by rfl) (hdb : (n == ("__debug__" : Str)) = false := by decide) : JE X W F0 H0 Γ (.Call (.Name n np) [] [] pos) o :=
  pe_imp (pe_call0 (E := E0) G hr hg hm hk hb .nil passL hdb) fun σ H Q h => by
    obtain ⟨F, ok, q⟩ := po_of (F := H) hno h
    exact ⟨F, [], _, ok.fh, .nil, hR, q⟩
end
end TB

namespace TB
open PySem L2

/-- what comes of a statement -/
inductive SO where
  | nx (Γ : List S)
  | rt (x : D)
  | rto (ds : List D)
  | x (c : Addr) (Γ : List S)
  | bk (Γ : List S)
  | ct (Γ : List S)
  | rtq (t : Own)
  | xf (c : Addr) (f : Str) (x : D) (Γ : List S)
/-- what is asked behind it -/
def PSo (K : PySem.W.Frag) (W : WX) (F0 H0 F : Hp) (D' : Ends) : SO → Prop
  | .nx Γ => ∀ σ' F' H', Ex F F' → Ok K F0 H0 F' σ' H' Γ → D'.nx σ' H'
  | .rt x => ∀ v F' H', Ex F F' → Fz F0 H0 F' H' → Dp K F' v x → D'.rt v H'
  | .rto ds => ∀ p xs F' H', Ex F F' → Fz F0 H0 F' H' → H0 p = none → H' p = some (.lst xs) → F' p = none → DpAll K F' xs ds → D'.rt (.ref p) H'
  | .x c Γ => ∀ σ' F' H', Ex F F' → Ok K F0 H0 F' σ' H' Γ → W (.ref c) none σ' H'
  | .bk Γ => ∀ σ' F' H', Ex F F' → Ok K F0 H0 F' σ' H' Γ → D'.bk σ' H'
  | .ct Γ => ∀ σ' F' H', Ex F F' → Ok K F0 H0 F' σ' H' Γ → D'.ct σ' H'
  | .rtq t => ∀ v fp F' H', Ex F F' → Fz F0 H0 F' H' → OA K F' H' t v fp → fp.Nodup → (∀ a ∈ fp, H0 a = none ∧ F' a = none) → D'.rt v H'
  | .xf c f x Γ => ∀ d v σ' F' H', Ex F F' → Ok K F0 H0 F' σ' H' Γ → H0 d = none → H' d = some (.xd [(f, v)]) → Dp K F' v x → W (.ref c) (some d) σ' H'
def tS (K : PySem.W.Frag) (W : WX) (F0 H0 : Hp) (Γ : List S) (so : SO) : TS := fun D' σ H => ∃ F, Ok K F0 H0 F σ H Γ ∧ PSo K W F0 H0 F D' so
abbrev JS (X : Cx) (W : WX) (F0 H0 : Hp) (Γ : List S) (st : Stmt) (so : SO) : Prop := PS X st (tS X.K W F0 H0 Γ so)
abbrev JSs (X : Cx) (W : WX) (F0 H0 : Hp) (Γ : List S) (st : List Stmt) (so : SO) : Prop := PSs X st (tS X.K W F0 H0 Γ so)
theorem ps_imp {X : Cx} {e : Stmt} {t t' : TS} (h : PS X e t) (k : ∀ D' σ H, t' D' σ H → t D' σ H) : PS X e t' := ⟨fun pins s σ H D' I q => h.run pins s σ H D' I (k D' σ H q)⟩
theorem pss_imp {X : Cx} {e : List Stmt} {t t' : TS} (h : PSs X e t) (k : ∀ D' σ H, t' D' σ H → t D' σ H) : PSs X e t' := ⟨fun pins s σ H D' I q => h.run pins s σ H D' I (k D' σ H q)⟩
theorem pso_mono {K : PySem.W.Frag} {W : WX} {F0 H0 F F' : Hp} {D' : Ends} {so : SO} (e : Ex F F') (h : PSo K W F0 H0 F D' so) : PSo K W F0 H0 F' D' so := by
  cases so with
  | nx Γ => exact fun σ' F2 H' e2 ok => h σ' F2 H' (e.trans e2) ok
  | rt x => exact fun v F2 H' e2 z d => h v F2 H' (e.trans e2) z d
  | rto ds => exact fun p xs F2 H' e2 z n1 n2 n3 d => h p xs F2 H' (e.trans e2) z n1 n2 n3 d
  | x c Γ => exact fun σ' F2 H' e2 ok => h σ' F2 H' (e.trans e2) ok
  | bk Γ => exact fun σ' F2 H' e2 ok => h σ' F2 H' (e.trans e2) ok
  | ct Γ => exact fun σ' F2 H' e2 ok => h σ' F2 H' (e.trans e2) ok
  | rtq t => exact fun v fp F2 H' e2 z o nd n => h v fp F2 H' (e.trans e2) z o nd n
  | xf c f x Γ => exact fun d v σ' F2 H' e2 ok n1 n2 dp => h d v σ' F2 H' (e.trans e2) ok n1 n2 dp
/-- does it go on behind -/
def SO.stop : SO → Prop
  | .nx _ => False
  | _ => True
theorem pso_stop {K : PySem.W.Frag} {W : WX} {F0 H0 F : Hp} {D' : Ends} {so : SO} (hs : so.stop) (u : L2.St → Hp → Prop) (h : PSo K W F0 H0 F D' so) : PSo K W F0 H0 F { D' with nx := u } so := by
  cases so with
  | nx Γ => exact hs.elim
  | _ => exact h

section
variable {X : Cx} {W : WX} {F0 H0 : Hp} {Γ Γ' Γ1 : List S} {a b e : Expr} {x y z : D} {pos : Pos} {p q : Bool} {ds : List D} {st : Stmt} {sts rest body orelse : List Stmt} {so : SO}

/-! ### blocks -/
theorem jss_nil : JSs X W F0 H0 Γ [] (.nx Γ) := pss_imp pss_nil fun D' σ H ⟨F, ok, q⟩ => q σ F H (Ex.refl _) ok
theorem jss_cons (h1 : JS X W F0 H0 Γ st (.nx Γ1)) (h2 : JSs X W F0 H0 Γ1 rest so) : JSs X W F0 H0 Γ (st :: rest) so :=
  pss_imp (pss_cons h1 h2) fun D' σ H ⟨F, ok, q⟩ => ⟨F, ok, fun σ' F' H' e ok' => ⟨F', ok', pso_mono e q⟩⟩
theorem jss_one (h1 : JS X W F0 H0 Γ st so) : JSs X W F0 H0 Γ [st] so := pss_one h1
/-- the rest is not reached -/
theorem jss_stop (h1 : JS X W F0 H0 Γ st so) (hs : so.stop) : JSs X W F0 H0 Γ (st :: rest) so :=
  pss_imp (pss_cons h1 pss_never) fun D' σ H ⟨F, ok, q⟩ => ⟨F, ok, pso_stop hs _ q⟩
/-- forgetting ahead, behind -/
theorem js_le (l : Le Γ Γ1) (h : JS X W F0 H0 Γ1 st so) : JS X W F0 H0 Γ st so := ps_imp h fun D' σ H ⟨F, ok, q⟩ => ⟨F, ok.le l, q⟩
theorem jss_le (l : Le Γ Γ1) (h : JSs X W F0 H0 Γ1 sts so) : JSs X W F0 H0 Γ sts so := pss_imp h fun D' σ H ⟨F, ok, q⟩ => ⟨F, ok.le l, q⟩
theorem js_nx (h : JS X W F0 H0 Γ st (.nx Γ1)) (l : Le Γ1 Γ') : JS X W F0 H0 Γ st (.nx Γ') := ps_imp h fun D' σ H ⟨F, ok, q⟩ => ⟨F, ok, fun σ' F' H' e ok' => q σ' F' H' e (ok'.le l)⟩
theorem jss_nx (h : JSs X W F0 H0 Γ sts (.nx Γ1)) (l : Le Γ1 Γ') : JSs X W F0 H0 Γ sts (.nx Γ') := pss_imp h fun D' σ H ⟨F, ok, q⟩ => ⟨F, ok, fun σ' F' H' e ok' => q σ' F' H' e (ok'.le l)⟩
theorem jss_is {so' : SO} (h : JSs X W F0 H0 Γ sts so) (k : so = so') : JSs X W F0 H0 Γ sts so' := k ▸ h
theorem js_is {so' : SO} (h : JS X W F0 H0 Γ st so) (k : so = so') : JS X W F0 H0 Γ st so' := k ▸ h
/-- a list of one's own becomes data -/
theorem jss_frz (i : Nat) (g : Γ[i]? = some (.own ds)) (h : JSs X W F0 H0 (Γ.set i (.d (.list ds))) sts so) : JSs X W F0 H0 Γ sts so := pss_imp h fun D' σ H ⟨F, ok, q⟩ => by
  obtain ⟨F', e, ok'⟩ := ok.frz g
  exact ⟨F', ok', pso_mono e q⟩

/-! ### small statements -/
theorem js_pass : JS X W F0 H0 Γ (.Pass pos) (.nx Γ) := ps_imp ps_pass fun D' σ H ⟨F, ok, q⟩ => q σ F H (Ex.refl _) ok
theorem js_break : JS X W F0 H0 Γ (.Break pos) (.bk Γ) := ps_imp ps_break fun D' σ H ⟨F, ok, q⟩ => q σ F H (Ex.refl _) ok
theorem js_continue : JS X W F0 H0 Γ (.Continue pos) (.ct Γ) := ps_imp ps_continue fun D' σ H ⟨F, ok, q⟩ => q σ F H (Ex.refl _) ok
theorem js_doc {t : Str} {j : Nat} {pos' : Pos} : JS X W F0 H0 Γ (.Expr (.Constant (.str t) j pos) pos') (.nx Γ) := ps_imp ps_doc fun D' σ H ⟨F, ok, q⟩ => q σ F H (Ex.refl _) ok
theorem js_expr (h : JE X W F0 H0 Γ e (.v x)) (hs : swapsWith e none pos.line X.env = pure false := by rfl) : JS X W F0 H0 Γ (.Expr e pos) (.nx Γ) :=
  ps_imp (ps_expr h hs) fun D' σ H ⟨F, ok, q⟩ => ⟨F, ok, fun v F' H' z d => q σ F' H' z.f (ok.mono z)⟩
theorem js_exprX {c : Addr} (h : JE X W F0 H0 Γ e (.x c)) (hs : swapsWith e none pos.line X.env = pure false := by rfl) : JS X W F0 H0 Γ (.Expr e pos) (.x c Γ) :=
  ps_imp (ps_expr h hs) fun D' σ H ⟨F, ok, q⟩ => ⟨F, ok, fun F' H' z => q σ F' H' z.f (ok.mono z)⟩
theorem js_ret (h : JE X W F0 H0 Γ e (.v x)) : JS X W F0 H0 Γ (.Return (some e) pos) (.rt x) :=
  ps_imp (ps_ret h) fun D' σ H ⟨F, ok, q⟩ => ⟨F, ok, fun v F' H' z d => q v F' H' z.f (ok.mono z).base d⟩
theorem js_retO (h : JE X W F0 H0 Γ e (.o ds)) : JS X W F0 H0 Γ (.Return (some e) pos) (.rto ds) :=
  ps_imp (ps_ret h) fun D' σ H ⟨F, ok, q⟩ => ⟨F, ok, fun p xs F' H' z n1 n2 n3 d => q p xs F' H' z.f (ok.mono z).base (ok.base.h.none n1) n2 n3 d⟩
theorem js_retX {c : Addr} (h : JE X W F0 H0 Γ e (.x c)) : JS X W F0 H0 Γ (.Return (some e) pos) (.x c Γ) :=
  ps_imp (ps_ret h) fun D' σ H ⟨F, ok, q⟩ => ⟨F, ok, fun F' H' z => q σ F' H' z.f (ok.mono z)⟩
theorem js_retQ {t : Own} (h : JE X W F0 H0 Γ e (.q t)) : JS X W F0 H0 Γ (.Return (some e) pos) (.rtq t) :=
  ps_imp (ps_ret h) fun D' σ H ⟨F, ok, q⟩ => ⟨F, ok, fun v fp F' H' z o nd n => q v fp F' H' z.f (ok.mono z).base o nd fun a m => ⟨ok.base.h.none (n a m).1, (n a m).2⟩⟩
theorem js_retXf {c : Addr} {f : Str} (h : JE X W F0 H0 Γ e (.xf c f x)) : JS X W F0 H0 Γ (.Return (some e) pos) (.xf c f x Γ) :=
  ps_imp (ps_ret h) fun D' σ H ⟨F, ok, q⟩ => ⟨F, ok, fun d v F' H' z n1 n2 dp => q d v σ F' H' z.f (ok.mono z) (ok.base.h.none n1) n2 dp⟩
theorem js_exprXf {c : Addr} {f : Str} (h : JE X W F0 H0 Γ e (.xf c f x)) (hs : swapsWith e none pos.line X.env = pure false := by rfl) : JS X W F0 H0 Γ (.Expr e pos) (.xf c f x Γ) :=
  ps_imp (ps_expr h hs) fun D' σ H ⟨F, ok, q⟩ => ⟨F, ok, fun d v F' H' z n1 n2 dp => q d v σ F' H' z.f (ok.mono z) (ok.base.h.none n1) n2 dp⟩
/-- return found, found a tree of one's own -/
theorem js_retTree (k : Nat) {n : Str} {q2 : Pos} {t : Own} (g : Γ[k]? = some (.q t)) (hN : X.N[k]? = some n := by rfl) (hv : Vis X.env.scope n := by first | exact Or.inl rfl | exact Or.inr (Or.inl rfl) | exact Or.inr (Or.inr rfl)) (hd : (n == ("__debug__" : Str)) = false := by decide) (hcd : (n == ("__classdict__" : Str)) = false := by decide) :
    JS X W F0 H0 Γ (.Return (some (.Name n q2)) pos) (.rtq t) :=
  ps_imp (ps_ret (pe_var hN hv hd hcd)) fun D' σ H ⟨F, ok, q⟩ => by
    obtain ⟨v, fp, e1, e2, e3, e4⟩ := ok.tree g
    exact ⟨_, e1, q v fp F H (Ex.refl _) ok.base e2 e3 fun a m => ⟨(e4 a m).2, (e4 a m).1⟩⟩
/-- return found, found a list of one's own -/
theorem js_retOwn (k : Nat) {n : Str} {q2 : Pos} (g : Γ[k]? = some (.own ds)) (hN : X.N[k]? = some n := by rfl) (hv : Vis X.env.scope n := by first | exact Or.inl rfl | exact Or.inr (Or.inl rfl) | exact Or.inr (Or.inr rfl)) (hd : (n == ("__debug__" : Str)) = false := by decide) (hcd : (n == ("__classdict__" : Str)) = false := by decide) :
    JS X W F0 H0 Γ (.Return (some (.Name n q2)) pos) (.rto ds) :=
  ps_imp (ps_ret (pe_var hN hv hd hcd)) fun D' σ H ⟨F, ok, q⟩ => by
    obtain ⟨p, xs, e1, e2, e3, e4, e5⟩ := ok.own g
    exact ⟨_, e1, q p xs F H (Ex.refl _) ok.base e4 e2 e3 e5⟩
theorem js_retN : JS X W F0 H0 Γ (.Return none pos) (.rt .none) := ps_imp ps_retN fun D' σ H ⟨F, ok, q⟩ => q .non F H (Ex.refl _) ok.base .non
theorem js_set (i : Nat) {n : Str} {pos' : Pos} (hN : X.N.Nodup) (he : JE X W F0 H0 Γ e (.v x)) (hi : X.N[i]? = some n := by rfl) (hx : Loc X.env.scope n := by first | exact Or.inl rfl | exact Or.inr rfl) (hs : swapsWith e (some (.Name n pos')) pos.line X.env = pure false := by rfl) (hf : X.fn n = true ∨ X.env.scope.names.lookup n = some .local := by first | exact .inl rfl | exact .inr rfl) :
    JS X W F0 H0 Γ (.Assign [.Name n pos'] e pos) (.nx (Γ.set i (.d x))) :=
  ps_imp (ps_set hN hi hx he hs hf) fun D' σ H ⟨F, ok, q⟩ => ⟨F, ok, fun v F' H' z d => q _ F' H' z.f ((ok.mono z).set i d)⟩
theorem js_setO (i : Nat) {n : Str} {pos' : Pos} (hN : X.N.Nodup) (he : JE X W F0 H0 Γ e (.o ds)) (hi : X.N[i]? = some n := by rfl) (hx : Loc X.env.scope n := by first | exact Or.inl rfl | exact Or.inr rfl) (hs : swapsWith e (some (.Name n pos')) pos.line X.env = pure false := by rfl) (hf : X.fn n = true ∨ X.env.scope.names.lookup n = some .local := by first | exact .inl rfl | exact .inr rfl) :
    JS X W F0 H0 Γ (.Assign [.Name n pos'] e pos) (.nx (Γ.set i (.own ds))) :=
  ps_imp (ps_set hN hi hx he hs hf) fun D' σ H ⟨F, ok, q⟩ => ⟨F, ok, fun p xs F' H' z n1 n2 n3 d => q _ F' H' z.f (ok.setNew z i n1 n2 n3 d)⟩
/-- n = e, e a new tree -/
theorem js_setQ (i : Nat) {n : Str} {pos' : Pos} {t : Own} (hN : X.N.Nodup) (he : JE X W F0 H0 Γ e (.q t)) (hi : X.N[i]? = some n := by rfl) (hx : Loc X.env.scope n := by first | exact Or.inl rfl | exact Or.inr rfl) (hs : swapsWith e (some (.Name n pos')) pos.line X.env = pure false := by rfl) (hf : X.fn n = true ∨ X.env.scope.names.lookup n = some .local := by first | exact .inl rfl | exact .inr rfl) :
    JS X W F0 H0 Γ (.Assign [.Name n pos'] e pos) (.nx (Γ.set i (.q t))) :=
  ps_imp (ps_set hN hi hx he hs hf) fun D' σ H ⟨F, ok, q⟩ => ⟨F, ok, fun v fp F' H' z o nd n => q _ F' H' z.f (ok.setTree z i o nd n)⟩
theorem js_setX (i : Nat) {n : Str} {pos' : Pos} {c : Addr} (hN : X.N.Nodup) (he : JE X W F0 H0 Γ e (.x c)) (hi : X.N[i]? = some n := by rfl) (hx : Loc X.env.scope n := by first | exact Or.inl rfl | exact Or.inr rfl) (hs : swapsWith e (some (.Name n pos')) pos.line X.env = pure false := by rfl) (hf : X.fn n = true ∨ X.env.scope.names.lookup n = some .local := by first | exact .inl rfl | exact .inr rfl) :
    JS X W F0 H0 Γ (.Assign [.Name n pos'] e pos) (.x c Γ) :=
  ps_imp (ps_set hN hi hx he hs hf) fun D' σ H ⟨F, ok, q⟩ => ⟨F, ok, fun F' H' z => q σ F' H' z.f (ok.mono z)⟩
/-- n += e, ints -/
theorem js_augAdd (i : Nat) {n : Str} {pos' : Pos} {k l : Int} (g : Γ[i]? = some (.d (.int k))) (hN : X.N.Nodup) (he : JE X W F0 H0 Γ e (.v (.int l))) (hi : X.N[i]? = some n := by rfl) (hx : Loc X.env.scope n := by first | exact Or.inl rfl | exact Or.inr rfl) (hf : X.fn n = true ∨ X.env.scope.names.lookup n = some .local := by first | exact .inl rfl | exact .inr rfl) :
    JS X W F0 H0 Γ (.AugAssign (.Name n pos') .Add e pos) (.nx (Γ.set i (.d (.int (k + l))))) :=
  ps_imp (ps_aug hN hi hx he ip_add hf) fun D' σ H ⟨F, ok, q⟩ => by
    obtain ⟨v, e1, d1⟩ := ok.at g
    cases d1
    exact ⟨_, e1, F, ok, fun v F' H' z d => by
      cases d
      exact ⟨k, l, rfl, rfl, q _ F' H' z.f ((ok.mono z).set i (.int _))⟩⟩

/-! ### tests -/
theorem js_ifT (hc : JT X F0 H0 Γ e true) (ha : JSs X W F0 H0 Γ body so) : JS X W F0 H0 Γ (.If e body orelse pos) so :=
  ps_imp (ps_if hc ha pss_never) fun D' σ H ⟨F, ok, q⟩ => ⟨F, ok, fun F1 H1 z1 => iteT ⟨F1, ok.mono z1, pso_mono z1.f q⟩⟩
theorem js_ifF (hc : JT X F0 H0 Γ e false) (hb : JSs X W F0 H0 Γ orelse so) : JS X W F0 H0 Γ (.If e body orelse pos) so :=
  ps_imp (ps_if hc pss_never hb) fun D' σ H ⟨F, ok, q⟩ => ⟨F, ok, fun F1 H1 z1 => iteF ⟨F1, ok.mono z1, pso_mono z1.f q⟩⟩
theorem js_if (hc : JT X F0 H0 Γ e p) (ha : p = true → JSs X W F0 H0 Γ body so) (hb : p = false → JSs X W F0 H0 Γ orelse so) : JS X W F0 H0 Γ (.If e body orelse pos) so := by
  cases p with
  | true => exact js_ifT hc (ha rfl)
  | false => exact js_ifF hc (hb rfl)

/-! ### methods of a list of one's own -/
theorem js_append (i : Nat) {n : Str} {np apos : Pos} (g : Γ[i]? = some (.own ds)) (hl : ds.length < 100000) (he : JE X W F0 H0 Γ e (.v x)) (hN : X.N[i]? = some n := by rfl) (hv : Vis X.env.scope n := by first | exact Or.inl rfl | exact Or.inr (Or.inl rfl) | exact Or.inr (Or.inr rfl)) (hd : (n == ("__debug__" : Str)) = false := by decide) (hcd : (n == ("__classdict__" : Str)) = false := by decide)
    {cpos : Pos} (h1 : attributeBase (.Name n np) "append" X.env (eval (.Name n np) X.env) = eval (.Name n np) X.env := by rfl)
    (h2 : ((backTo cpos (starEach [e] X.env)).all (fun x => !x.1) && (backToKw cpos (keywordEach [] X.env)).all (fun x => x.1.isSome) && decide ([e].length + ([] : List Keyword).length + (if ([] : List Keyword).isEmpty then 0 else 1) < 30)) = true := by rfl)
    (h3 : (apos.endLine == cpos.line) = true := by rfl) (h4 : starEach [e] X.env = (false, eval e X.env) :: starEach [] X.env := by rfl) (h5 : (backTo cpos (starEach [] X.env)).any (·.1) = false := by rfl)
    (hs : swapsWith (.Call (.Attribute (.Name n np) "append" apos) [e] [] cpos) none pos.line X.env = pure false := by rfl) : JS X W F0 H0 Γ (.Expr (.Call (.Attribute (.Name n np) "append" apos) [e] [] cpos) pos) (.nx (Γ.set i (.own (ds ++ [x])))) :=
  ps_imp (ps_expr (pe_bm PySem.F.plainAttrs_list PySem.F.slot_list_append PySem.F.type_list_append mt_append (pe_var hN hv hd hcd) (pa_cons he pa_nil h4) h1 h2 h3 h4 h5) hs) fun D' σ H ⟨F, ok, q⟩ => by
    obtain ⟨p, xs, e1, e2, e3, e4, e5⟩ := ok.own g
    refine ⟨_, e1, .inl ⟨rfl, _, SqL.of e2⟩, F, ok, fun v F1 H1 z1 d1 => ⟨p, xs, v, rfl, rfl, z1.h _ _ e2, ?_, ?_⟩⟩
    · rw [da_len e5]; exact Nat.lt_of_lt_of_le hl (by decide)
    · exact q σ F1 _ z1.f ((ok.mono z1).write g e1 (z1.n _ _ e3 e2) e4 (da_app (da_ex z1.f _ _ e5) (.cons d1 .nil)))
/-- xs[k] = e -/
theorem js_setIx (i : Nat) {n : Str} {np sp : Pos} {k : Int} {j : Nat} (g : Γ[i]? = some (.own ds)) (hk : ixN ds.length k = some j) (he : JE X W F0 H0 Γ e (.v x)) (hb : JE X W F0 H0 Γ b (.v (.int k))) (hN : X.N[i]? = some n := by rfl) (hv : Vis X.env.scope n := by first | exact Or.inl rfl | exact Or.inr (Or.inl rfl) | exact Or.inr (Or.inr rfl)) (hd : (n == ("__debug__" : Str)) = false := by decide) (hcd : (n == ("__classdict__" : Str)) = false := by decide)
    (ha : ∀ v, assign (.Subscript (.Name n np) b sp) X.env v = (do
      let ov ← holding [v] (eval (.Name n np) X.env)
      let iv ← holding [v, ov] (eval b X.env)
      standAt sp
      holding [v, ov, iv] (setItem ov iv v)
      release [v, ov, iv] []) := by intro _; rfl)
    (hs : swapsWithSole [.Subscript (.Name n np) b sp] e pos.line X.env = pure false := by rfl) (hw : swappedStores [.Subscript (.Name n np) b sp] e X.env = pure none := by rfl)
    (h1 : (assignEach [.Subscript (.Name n np) b sp] X.env).map (·.2) = [assign (.Subscript (.Name n np) b sp) X.env] := by rfl) :
    JS X W F0 H0 Γ (.Assign [.Subscript (.Name n np) b sp] e pos) (.nx (Γ.set i (.own (ds.set j x)))) :=
  ps_imp (ps_asg he (pg_sub (pe_var hN hv hd hcd) hb set_list ha) hs hw h1) fun D' σ H ⟨F, ok, q⟩ => ⟨F, ok, fun v F1 H1 z1 d1 => by
    obtain ⟨p, xs, e1, e2, e3, e4, e5⟩ := (ok.mono z1).own g
    refine ⟨_, e1, F1, ok.mono z1, fun u F2 H2 z2 d2 => ?_⟩
    cases d2
    refine ⟨p, xs, k, j, rfl, rfl, z2.h _ _ e2, by rw [da_len e5]; exact hk, ?_⟩
    exact q σ F2 _ (z1.f.trans z2.f) (((ok.mono z1).mono z2).write g e1 (z2.n _ _ e3 e2) e4 (da_set j (da_ex z2.f _ _ e5) (dp_ex z2.f _ _ d1)))⟩

/-! ### what is walked -/
/-- J walks the data ds, once F stands -/
def ItD (K : PySem.W.Frag) (F : Hp) (J : It) (ds : List D) : Prop :=
  ∀ F1 H i, Ex F F1 → Ex F1 H → (∀ d, ds[i]? = some d → J.go i H ∧ ∀ x H', J.yld i H x H' → ∃ F2, Fz F1 H F2 H' ∧ Dp K F2 x d) ∧ (i = ds.length → J.stop i H)
def tI (K : PySem.W.Frag) (F0 H0 : Hp) (Γ : List S) (ds : List D) : TI := fun σ H R => ∃ F, Ok K F0 H0 F σ H Γ ∧ ∀ J F' H', Fz F H F' H' → ItD K F' J ds → R J H'
abbrev JI (X : Cx) (F0 H0 : Hp) (Γ : List S) (tg it : Expr) (ds : List D) : Prop := PI X tg it (tI X.K F0 H0 Γ ds)
theorem pi_imp {X : Cx} {tg e : Expr} {t t' : TI} (h : PI X tg e t) (k : ∀ σ H R, t' σ H R → t σ H R) : PI X tg e t' := ⟨fun pins s σ H R I q => h.run pins s σ H R I (k σ H R q)⟩
variable {tg it : Expr}
theorem itl_d {K : PySem.W.Frag} {F : Hp} {p : Addr} {xs : List V} (h : SqL K F p xs) (hd : DpAll K F xs ds) (inj : ∀ H ys, SqL K H p ys → SqL K H p xs → ys = xs) : ItD K F (Itl K p) ds := fun F1 H i e1 e2 => by
  have h1 := sl_ex (e1.trans e2) h
  refine ⟨fun d e => ?_, fun e => ⟨xs, h1, by rw [e, da_len hd]; exact Nat.le_refl _⟩⟩
  obtain ⟨v, k1, k2⟩ := da_get hd e
  refine ⟨⟨xs, v, h1, k1⟩, fun x H' y => ?_⟩
  obtain ⟨e', y⟩ := y
  subst e'
  have k3 := y xs h1
  rw [k1] at k3
  cases k3
  exact ⟨F1, Fz.refl e2, dp_ex e1 _ _ k2⟩
/-- the readings of a list agree because its yield says so: Itl's own form -/
theorem ji_list (h : JE X WF F0 H0 Γ it (.v (.list ds))) : JI X F0 H0 Γ tg it ds := pi_imp (pi_list h) fun σ H R ⟨F, ok, q⟩ => ⟨F, ok, fun v F1 H1 z1 d1 => by
  cases d1 with
  | lst g1 g2 =>
    refine ⟨_, rfl, ⟨_, sl_ex z1.s g1⟩, q _ F1 H1 z1 fun F2 H2 i e1 e2 => ?_⟩
    have h1 := sl_ex (e1.trans e2) g1
    refine ⟨fun d e => ?_, fun e => ⟨_, h1, by rw [e, da_len g2]; exact Nat.le_refl _⟩⟩
    obtain ⟨v, k1, k2⟩ := da_get g2 e
    refine ⟨⟨_, v, h1, k1⟩, fun x H' y => ?_⟩
    obtain ⟨e', y⟩ := y
    subst e'
    have k3 := y _ h1
    rw [k1] at k3
    cases k3
    exact ⟨F2, Fz.refl e2, dp_ex e1 _ _ k2⟩⟩
theorem ji_tup (h : JE X WF F0 H0 Γ it (.v (.tuple ds))) : JI X F0 H0 Γ tg it ds := pi_imp (pi_tup h) fun σ H R ⟨F, ok, q⟩ => ⟨F, ok, fun v F1 H1 z1 d1 => by
  cases d1 with
  | tup g1 g2 =>
    refine ⟨_, rfl, ⟨_, st_ex z1.s g1⟩, q _ F1 H1 z1 fun F2 H2 i e1 e2 => ?_⟩
    have h1 := st_ex (e1.trans e2) g1
    refine ⟨fun d e => ?_, fun e => ⟨_, h1, by rw [e, da_len g2]; exact Nat.le_refl _⟩⟩
    obtain ⟨v, k1, k2⟩ := da_get g2 e
    refine ⟨⟨_, v, h1, k1⟩, fun x H' y => ?_⟩
    obtain ⟨e', y⟩ := y
    subst e'
    have k3 := y _ h1
    rw [k1] at k3
    cases k3
    exact ⟨F2, Fz.refl e2, dp_ex e1 _ _ k2⟩⟩
/-- the ints lo, lo + 1, .. -/
def rngD (lo : Int) (n : Nat) : List D := (List.range n).map fun i => .int (lo + (i : Nat))
theorem rngD_len (lo : Int) (n : Nat) : (rngD lo n).length = n := by simp [rngD]
theorem rngD_get {lo : Int} {n i : Nat} {d : D} (h : (rngD lo n)[i]? = some d) : i < n ∧ d = .int (lo + (i : Nat)) := by
  have hl := (List.getElem?_eq_some_iff.mp h).1
  rw [rngD_len] at hl
  refine ⟨hl, ?_⟩
  unfold rngD at h
  rw [List.getElem?_map, List.getElem?_range hl] at h
  exact (Option.some.inj h).symm
theorem rngD_at {lo : Int} {n i : Nat} (h : i < n) : (rngD lo n)[i]? = some (.int (lo + (i : Nat))) := by
  unfold rngD
  rw [List.getElem?_map, List.getElem?_range h]
  rfl
theorem itr_d {K : PySem.W.Frag} {F : Hp} {lo : Int} {n : Nat} : ItD K F (Itr lo n) (rngD lo n) := fun F1 H i e1 e2 => by
  refine ⟨fun d e => ?_, fun e => by rw [rngD_len] at e; exact Nat.le_of_eq e.symm⟩
  obtain ⟨h1, h2⟩ := rngD_get e
  subst h2
  refine ⟨h1, fun x H' y => ?_⟩
  obtain ⟨e1', e2'⟩ := y
  subst e1' e2'
  exact ⟨F1, Fz.refl e2, .int _⟩
theorem ji_range1 {j : Int} {np : Pos} (hm : X.mg "range" = none) (h1 : -(2 ^ 62) ≤ j) (h2 : j < 2 ^ 62) (ha : JE X WF F0 H0 Γ a (.v (.int j))) (hg : Gl X "range" := by rfl) (hs : starEach [a] X.env = [(false, eval a X.env)] := by rfl) : JI X F0 H0 Γ tg (.Call (.Name "range" np) [a] [] pos) (rngD 0 j.toNat) :=
  pi_imp (pi_range1 hg hm (ja_cons ha ja_nil hs) hs) fun σ H R ⟨F, ok, q⟩ => ⟨F, ok, fun vs F1 H1 z1 d1 => by
    cases d1 with
    | cons k1 k2 =>
      cases k1; cases k2
      exact ⟨j, rfl, h1, h2, q _ F1 H1 z1 itr_d⟩⟩
theorem ji_range2 {i j : Int} {np : Pos} (hm : X.mg "range" = none) (h0 : -(2 ^ 62) ≤ i ∧ i < 2 ^ 62 ∧ -(2 ^ 62) ≤ j ∧ j < 2 ^ 62) (ha : JE X WF F0 H0 Γ a (.v (.int i))) (hb : JE X WF F0 H0 Γ b (.v (.int j))) (hg : Gl X "range" := by rfl) (hs : starEach [a, b] X.env = [(false, eval a X.env), (false, eval b X.env)] := by rfl) (hs2 : starEach [b] X.env = [(false, eval b X.env)] := by rfl) : JI X F0 H0 Γ tg (.Call (.Name "range" np) [a, b] [] pos) (rngD i (j - i).toNat) :=
  pi_imp (pi_range2 hg hm (ja_cons ha (ja_cons hb ja_nil hs2) (by rw [hs, hs2])) hs hs2) fun σ H R ⟨F, ok, q⟩ => ⟨F, ok, fun vs F1 H1 z1 d1 => by
    cases d1 with
    | cons k1 k2 =>
      cases k2 with
      | cons k2 k3 =>
        cases k1; cases k2; cases k3
        exact ⟨i, j, rfl, h0, q _ F1 H1 z1 itr_d⟩⟩

/-! ### targets -/
/-- T: how a stored datum changes the slots -/
def tG (K : PySem.W.Frag) (F0 H0 : Hp) (T : List S → D → List S → Prop) : TG := fun v σ H Q => ∃ Γ d Γ' F, T Γ d Γ' ∧ Ok K F0 H0 F σ H Γ ∧ Dp K F v d ∧ ∀ σ' F' H', Ex F F' → Fz F H F' H' → Ok K F0 H0 F' σ' H' Γ' → Q σ' H'
abbrev JG (X : Cx) (F0 H0 : Hp) (tg : Expr) (T : List S → D → List S → Prop) : Prop := PG X tg (tG X.K F0 H0 T)
theorem pg_imp {X : Cx} {tg : Expr} {t t' : TG} (h : PG X tg t) (k : ∀ v σ H Q, t' v σ H Q → t v σ H Q) : PG X tg t' := ⟨fun pins s σ H v u Q I r q => h.run pins s σ H v u Q I r (k v σ H Q q)⟩
def TN (i : Nat) : List S → D → List S → Prop := fun Γ d Γ' => Γ' = Γ.set i (.d d)
theorem jg_name (i : Nat) {n : Str} (hN : X.N.Nodup) (hi : X.N[i]? = some n := by rfl) (hx : Loc X.env.scope n := by first | exact Or.inl rfl | exact Or.inr rfl) (hf : X.fn n = true ∨ X.env.scope.names.lookup n = some .local := by first | exact .inl rfl | exact .inr rfl) : JG X F0 H0 (.Name n pos) (TN i) :=
  pg_imp (pg_name hN hi hx hf) fun v σ H Q ⟨Γ, d, Γ', F, t, ok, hd, q⟩ => by
    have t' : Γ' = Γ.set i (.d d) := t
    subst t'
    exact q _ F H (Ex.refl _) (Fz.refl ok.fh) (ok.set i hd)
/-- several targets -/
def tGs (K : PySem.W.Frag) (F0 H0 : Hp) (T : List S → List D → List S → Prop) : TGs := fun vs σ H Q => ∃ Γ ds Γ' F, T Γ ds Γ' ∧ Ok K F0 H0 F σ H Γ ∧ DpAll K F vs ds ∧ ∀ σ' F' H', Ex F F' → Fz F H F' H' → Ok K F0 H0 F' σ' H' Γ' → Q σ' H'
abbrev JGs (X : Cx) (F0 H0 : Hp) (ts : List Expr) (T : List S → List D → List S → Prop) : Prop := PGs X ts (tGs X.K F0 H0 T)
def Ts0 : List S → List D → List S → Prop := fun Γ ds Γ' => ds = [] ∧ Γ' = Γ
def Ts1 (T : List S → D → List S → Prop) (T' : List S → List D → List S → Prop) : List S → List D → List S → Prop := fun Γ ds Γ' => ∃ d r Γ1, ds = d :: r ∧ T Γ d Γ1 ∧ T' Γ1 r Γ'
theorem pgs_imp {X : Cx} {tg : List Expr} {t t' : TGs} (h : PGs X tg t) (k : ∀ v σ H Q, t' v σ H Q → t v σ H Q) : PGs X tg t' := ⟨fun pins s σ H v u Q I r q => h.run pins s σ H v u Q I r (k v σ H Q q)⟩
theorem jgs_nil : JGs X F0 H0 [] Ts0 := pgs_imp pgs_nil fun v σ H Q ⟨Γ, ds, Γ', F, ⟨t1, t2⟩, ok, hd, q⟩ => by
  subst t1 t2
  cases hd
  exact ⟨rfl, q σ F H (Ex.refl _) (Fz.refl ok.fh) ok⟩
theorem jgs_cons {es : List Expr} {T : List S → D → List S → Prop} {T' : List S → List D → List S → Prop} (h1 : JG X F0 H0 e T) (h2 : JGs X F0 H0 es T') (hs : (assignEach (e :: es) X.env).map (·.2) = assign e X.env :: (assignEach es X.env).map (·.2) := by rfl) : JGs X F0 H0 (e :: es) (Ts1 T T') :=
  pgs_imp (pgs_cons h1 h2 hs) fun vs σ H Q ⟨Γ, ds, Γ', F, ⟨d, r, Γ1, t1, t2, t3⟩, ok, hd, q⟩ => by
    subst t1
    cases hd with
    | cons k1 k2 => exact ⟨_, _, rfl, Γ, d, Γ1, F, t2, ok, k1, fun σ' F' H' e1 z1 ok' => ⟨Γ1, r, Γ', F', t3, ok', da_ex e1 _ _ k2, fun σ2 F2 H2 e2 z2 ok2 => q σ2 F2 H2 (e1.trans e2) (z1.trans z2) ok2⟩⟩
/-- a, b, .. = a tuple, a list -/
theorem jg_tup {es : List Expr} {k n : Nat} {T : List S → List D → List S → Prop} (hc : X.calm = true) (h : JGs X F0 H0 es T) (hn : (assignEach es X.env).length = n := by rfl) (hst : (assignEach es X.env).findIdx? (·.1) = none := by rfl) :
    JG X F0 H0 (.Tuple es k pos) (fun Γ d Γ' => ∃ ds, d = .tuple ds ∧ ds.length = n ∧ T Γ ds Γ') :=
  pg_imp (pg_tup hc h hn hst) fun v σ H Q ⟨Γ, d, Γ', F, ⟨ds, t1, t2, t3⟩, ok, hd, q⟩ => by
    subst t1
    cases hd with
    | tup g1 g2 => exact ⟨_, _, rfl, st_ex ok.fh g1, by rw [da_len g2]; exact t2, Γ, ds, Γ', F, t3, ok, g2, q⟩
theorem jg_lst {es : List Expr} {k n : Nat} {T : List S → List D → List S → Prop} (hc : X.calm = true) (h : JGs X F0 H0 es T) (hn : (assignEach es X.env).length = n := by rfl) (hst : (assignEach es X.env).findIdx? (·.1) = none := by rfl) :
    JG X F0 H0 (.Tuple es k pos) (fun Γ d Γ' => ∃ ds, d = .list ds ∧ ds.length = n ∧ T Γ ds Γ') :=
  pg_imp (pg_lst hc h hn hst) fun v σ H Q ⟨Γ, d, Γ', F, ⟨ds, t1, t2, t3⟩, ok, hd, q⟩ => by
    subst t1
    cases hd with
    | lst g1 g2 => exact ⟨_, _, rfl, sl_ex ok.fh g1, by rw [da_len g2]; exact t2, Γ, ds, Γ', F, t3, ok, g2, q⟩
theorem js_asg {T : List S → D → List S → Prop} (he : JE X W F0 H0 Γ e (.v x)) (hg : JG X F0 H0 tg T) (ht : T Γ x Γ1) (hs : swapsWithSole [tg] e pos.line X.env = pure false := by rfl) (hw : swappedStores [tg] e X.env = pure none := by rfl) (h1 : (assignEach [tg] X.env).map (·.2) = [assign tg X.env] := by rfl) :
    JS X W F0 H0 Γ (.Assign [tg] e pos) (.nx Γ1) :=
  ps_imp (ps_asg he hg hs hw h1) fun D' σ H ⟨F, ok, q⟩ => ⟨F, ok, fun v F' H' z d => ⟨Γ, x, Γ1, F', ht, ok.mono z, d, fun σ2 F2 H2 e2 z2 ok2 => q σ2 F2 H2 (z.f.trans e2) ok2⟩⟩

/-! ### for -/
/-- how a turn may end -/
def Turns (Γn : List S) : SO → Prop
  | .nx Γ => Γ = Γn
  | .ct Γ => Γ = Γn
  | _ => False
/-- over all of ds; m turns go on, then: the end (m = all), or a turn that leaves -/
theorem js_for {T : List S → D → List S → Prop} {ds : List D} (Γs : Nat → List S) (Γt : Nat → List S) (m : Nat) (hp : PassesOwn (model X.prog X.w) X.A X.env X.xe) (hc : X.calm = true) (hi : JI X F0 H0 Γ tg it ds) (hg : JG X F0 H0 tg T) (h0 : Le Γ (Γs 0)) (hm : m ≤ ds.length)
    (ht : ∀ k d, ds[k]? = some d → k ≤ m → T (Γs k) d (Γt k)) (hb : ∀ k d, ds[k]? = some d → k < m → ∃ so, JSs X W F0 H0 (Γt k) body so ∧ Turns (Γs (k + 1)) so)
    (hl : m < ds.length → ∃ so', JSs X W F0 H0 (Γt m) body so' ∧ so'.stop ∧ (so = so' ∧ (∀ g, so' ≠ .bk g) ∧ (∀ g, so' ≠ .ct g) ∨ ∃ g, so' = .bk g ∧ so = .nx g)) (he : m = ds.length → so = .nx (Γs m))
    (hs : ∀ x, foldedSetIterable it X.env x = pure x := by intro _; rfl) : JS X W F0 H0 Γ (.For tg it body [] pos) so := by
  let tb : TS := fun D' σ H => ∃ k d so', ds[k]? = some d ∧ k ≤ m ∧ JSs X W F0 H0 (Γt k) body so' ∧ tS X.K W F0 H0 (Γt k) so' D' σ H
  have hbd : PSs X body tb := ⟨fun pins s σ H D' I ⟨k, d, so', _, _, j, t⟩ => j.run pins s σ H D' I t⟩
  refine ps_imp (ps_for hp hc hi hg hbd hs) fun D' σ H ⟨F, ok, q⟩ => ⟨F, ok, fun J F1 H1 z1 it1 => ?_⟩
  refine ⟨fun i n σ H => n = ds.length - i ∧ i ≤ m ∧ ∃ F', Ex F1 F' ∧ Ok X.K F0 H0 F' σ H (Γs i), ⟨ds.length - 0, rfl, Nat.zero_le _, F1, Ex.refl _, (ok.mono z1).le h0⟩, ?_⟩
  rintro i n σ H ⟨rfl, him, F', e', ok'⟩
  obtain ⟨go, stop⟩ := it1 F' H i e' ok'.fh
  by_cases hlt : i < ds.length
  · have hd : ds[i]? = some ds[i] := List.getElem?_eq_getElem hlt
    obtain ⟨g1, g2⟩ := go _ hd
    refine .inr ⟨g1, fun σ' H' => i < m ∧ ∃ F'', Ex F1 F'' ∧ Ok X.K F0 H0 F'' σ' H' (Γs (i + 1)), fun σ' H' ⟨h1, F'', h2, h3⟩ => ⟨ds.length - (i + 1), by omega, rfl, h1, F'', h2, h3⟩, fun x H' y => ?_⟩
    obtain ⟨F2, z2, d2⟩ := g2 x H' y
    refine ⟨Γs i, ds[i], Γt i, F2, ht i _ hd him, ok'.mono z2, d2, fun σ3 F3 H3 e3 z3 ok3 => ?_⟩
    by_cases hlm : i < m
    · obtain ⟨so', j, tn⟩ := hb i _ hd hlm
      refine ⟨i, ds[i], so', hd, him, j, F3, ok3, ?_⟩
      cases so' with
      | nx g =>
        have tn' : g = Γs (i + 1) := tn
        subst tn'
        exact fun σ4 F4 H4 e4 ok4 => ⟨hlm, F4, ((e'.trans z2.f).trans e3).trans e4, ok4⟩
      | ct g =>
        have tn' : g = Γs (i + 1) := tn
        subst tn'
        exact fun σ4 F4 H4 e4 ok4 => ⟨hlm, F4, ((e'.trans z2.f).trans e3).trans e4, ok4⟩
      | _ => exact tn.elim
    · have him' : i = m := by omega
      subst him'
      obtain ⟨so', j, hst, w⟩ := hl hlt
      refine ⟨i, ds[i], so', hd, him, j, F3, ok3, ?_⟩
      have eF : Ex F F3 := ((z1.f.trans e').trans z2.f).trans e3
      rcases w with ⟨w, nb, nc⟩ | ⟨g, w1, w2⟩
      · subst w
        have q' := pso_mono eF q
        cases so with
        | nx g => exact hst.elim
        | bk g => exact absurd rfl (nb g)
        | ct g => exact absurd rfl (nc g)
        | rt x => exact q'
        | rto x => exact q'
        | x c g => exact q'
        | rtq t => exact q'
        | xf c f x g => exact q'
      · subst w1 w2
        exact fun σ4 F4 H4 e4 ok4 => q σ4 F4 H4 (eF.trans e4) ok4
  · have e : i = ds.length := by omega
    have e2 : m = ds.length := by omega
    have e3 : i = m := by omega
    refine .inl ⟨stop e, ?_⟩
    have h1 := he e2
    subst h1
    rw [← e3] at q
    exact q σ F' H (z1.f.trans e') ok'
/-- all turns go on -/
theorem js_forAll {T : List S → D → List S → Prop} {ds : List D} (Γs : Nat → List S) (Γt : Nat → List S) (hp : PassesOwn (model X.prog X.w) X.A X.env X.xe) (hc : X.calm = true) (hi : JI X F0 H0 Γ tg it ds) (hg : JG X F0 H0 tg T) (h0 : Le Γ (Γs 0))
    (ht : ∀ k d, ds[k]? = some d → T (Γs k) d (Γt k)) (hb : ∀ k d, ds[k]? = some d → JSs X W F0 H0 (Γt k) body (.nx (Γs (k + 1)))) (hs : ∀ x, foldedSetIterable it X.env x = pure x := by intro _; rfl) : JS X W F0 H0 Γ (.For tg it body [] pos) (.nx (Γs ds.length)) :=
  js_for Γs Γt ds.length hp hc hi hg h0 (Nat.le_refl _) (fun k d e _ => ht k d e) (fun k d e _ => ⟨_, hb k d e, rfl⟩) (fun h => absurd h (Nat.lt_irrefl _)) (fun _ => rfl) hs

/-! ### while -/
theorem js_while (Γs : Nat → List S) (m : Nat) (hp : PassesOwn (model X.prog X.w) X.A X.env X.xe) (h0 : Le Γ (Γs 0)) (hc : ∀ k, k < m → JT X F0 H0 (Γs k) e true) (hb : ∀ k, k < m → JSs X W F0 H0 (Γs k) body (.nx (Γs (k + 1)))) (he : JT X F0 H0 (Γs m) e false) : JS X W F0 H0 Γ (.While e body [] pos) (.nx (Γs m)) := by
  let tc : TT := fun σ H Q => ∃ k c, JT X F0 H0 (Γs k) e c ∧ tT X.K F0 H0 (Γs k) c σ H Q
  have hct : PT X e tc := ⟨fun pins s σ H Q I ⟨k, c, j, t⟩ => j.run pins s σ H Q I t⟩
  let tb : TS := fun D' σ H => ∃ k, k < m ∧ tS X.K W F0 H0 (Γs k) (.nx (Γs (k + 1))) D' σ H
  have hbd : PSs X body tb := ⟨fun pins s σ H D' I ⟨k, hk, t⟩ => (hb k hk).run pins s σ H D' I t⟩
  refine ps_imp (ps_while hp hct hbd) fun D' σ H ⟨F, ok, q⟩ => ?_
  refine ⟨fun n σ H => n ≤ m ∧ ∃ F', Ex F F' ∧ Ok X.K F0 H0 F' σ H (Γs (m - n)), ⟨m, Nat.le_refl _, F, Ex.refl _, by rw [Nat.sub_self]; exact ok.le h0⟩, ?_⟩
  rintro n σ H ⟨hn, F', e', ok'⟩
  by_cases h : n = 0
  · subst h
    rw [Nat.sub_zero] at ok'
    exact ⟨m, false, he, F', ok', fun F2 H2 z2 => iteF (q σ F2 H2 (e'.trans z2.f) (ok'.mono z2))⟩
  · have hk : m - n < m := by omega
    refine ⟨m - n, true, hc _ hk, F', ok', fun F2 H2 z2 => iteT ⟨fun σ' H' => ∃ F'', Ex F F'' ∧ Ok X.K F0 H0 F'' σ' H' (Γs (m - n + 1)), fun σ' H' ⟨F'', h1, h2⟩ => ⟨n - 1, by omega, by omega, F'', h1, ?_⟩, m - n, hk, F2, ok'.mono z2, fun σ4 F4 H4 e4 ok4 => ⟨F4, (e'.trans z2.f).trans e4, ok4⟩⟩⟩
    have e1 : m - (n - 1) = m - n + 1 := by omega
    rw [e1]
    exact h2
end
end TB

namespace TB
open PySem L2

/-- the block of a comprehension -/
abbrev Bk (X : Cx) (s : Shared) (H : Hp) (scope : Scope) (C : Addr) (cl : List (Str × Addr)) (fp : List Addr) : Cx := X.blk s H scope (compEnvC scope cl C X.env) fp

section
variable {X : Cx} {W : WX} {F0 H0 : Hp} {Γ : List S} {e elt it : Expr} {pos py : Pos} {n : Str} {ds : List D} {scope : Scope} {i : Nat}

/-- [elt for n in it if ..], one name, at most one test -/
theorem lc_red {K : PySem.W.Frag} {f : D → D} {p : D → Bool} {tt : TT} (ht : ∀ d, d ∈ ds → ∀ σ H Q, tT K F0 H0 (Γ.set i (.d d)) (p d) σ H Q → tt σ H Q) (hl : ds.length < 100000) :
    ∀ σ H Q, tE K W F0 H0 Γ (.o ((ds.filter p).map f)) σ H Q → tLc (tI K F0 H0 Γ ds) (gName i) tt (fun σ H Q => ∃ d, d ∈ ds ∧ p d = true ∧ tE K WF F0 H0 (Γ.set i (.d d)) (.v (f d)) σ H Q) [i] σ H Q := by
  rintro σ H Q ⟨F, ok, q⟩
  refine ⟨F, ok, fun J F1 H1 z1 it1 D nD => ?_⟩
  have ok1 := ok.mono z1
  have nD1 : F1 D = none := z1.s.none nD
  refine ⟨fun k m H2 => m = ds.length - k ∧ k ≤ ds.length ∧ ∃ F2 acc, Fz F1 H1 F2 H2 ∧ H2 D = some (.lst acc) ∧ F2 D = none ∧ DpAll K F2 acc (((ds.take k).filter p).map f), ⟨ds.length, by simp, Nat.zero_le _, F1, [], Fz.fresh z1.s nD, upd_same, nD1, by simp; exact .nil⟩, ?_⟩
  rintro k m H2 ⟨rfl, hk, F2, acc, z2, a1, a2, a3⟩
  obtain ⟨go, stop⟩ := it1 F2 H2 k z2.f z2.s
  by_cases hlt : k < ds.length
  · have hd : ds[k]? = some ds[k] := List.getElem?_eq_getElem hlt
    have hmem : ds[k] ∈ ds := List.getElem_mem hlt
    obtain ⟨g1, g2⟩ := go _ hd
    have htk : ds.take (k + 1) = ds.take k ++ [ds[k]] := by rw [List.take_succ, hd]; rfl
    refine .inr ⟨g1, fun H' => ∃ F3 acc', Fz F1 H1 F3 H' ∧ H' D = some (.lst acc') ∧ F3 D = none ∧ DpAll K F3 acc' (((ds.take (k + 1)).filter p).map f), fun H' h' => ⟨ds.length - (k + 1), by omega, rfl, hlt, h'⟩, fun x H' y => ?_⟩
    obtain ⟨F3, z3, d3⟩ := g2 x H' y
    have a1' := z3.h D _ a1
    have a2' := z3.n D _ a2 a1
    show wipe ((wipe σ [i]).set i (some x)) [i] = wipe σ [i] ∧ _
    refine ⟨by show ((σ.set i none).set i (some x)).set i none = σ.set i none; rw [List.set_set, List.set_set], ht _ hmem _ _ _ ⟨F3, ?_, fun F4 H4 z4 => ?_⟩⟩
    · have o2 := (((ok1.mono z2).mono z3).forget i none).set i d3
      rw [List.set_set (l := Γ)] at o2
      exact o2
    · have b1 := z4.h D _ a1'
      have b2 := z4.n D _ a2' a1'
      cases hp : p ds[k] with
      | false =>
        refine iteF ⟨F4, acc, (z2.trans z3).trans z4, b1, b2, ?_⟩
        rw [htk, List.filter_append, List.filter_cons_of_neg (by rw [hp]; exact Bool.false_ne_true), List.filter_nil, List.append_nil]
        exact da_ex (z3.f.trans z4.f) _ _ a3
      | true =>
        refine iteT ⟨ds[k], hmem, hp, F4, ?_, fun v F5 H5 z5 d5 => ⟨acc, z5.h D _ b1, ?_, F5, acc ++ [v], ?_, upd_same, z5.n D _ b2 b1, ?_⟩⟩
        · have o2 := ((((ok1.mono z2).mono z3).mono z4).forget i none).set i (dp_ex z4.f _ _ d3)
          rw [List.set_set (l := Γ)] at o2
          exact o2
        · rw [da_len a3, List.length_map]
          have h1 := List.length_filter_le p (ds.take k)
          rw [List.length_take] at h1
          exact Nat.lt_of_lt_of_le (by omega : _ < 100000) (by decide)
        · have zz := ((z2.trans z3).trans z4).trans z5
          refine ⟨zz.f, fun c o hc => ?_, fun c o hc => ?_, zz.n⟩
          · rw [upd_ne (ne_of_none hc nD)]
            exact zz.h c o hc
          · rw [upd_ne (ne_of_none hc (z5.n D _ b2 b1))]
            exact zz.s c o hc
        · rw [htk, List.filter_append, List.filter_cons_of_pos (by rw [hp]), List.filter_nil, List.map_append]
          exact da_app (da_ex ((z3.f.trans z4.f).trans z5.f) _ _ a3) (.cons d5 .nil)
  · have hke : k = ds.length := by omega
    refine .inl ⟨stop hke, ?_⟩
    subst hke
    rw [List.take_length] at a3
    exact q D acc F2 H2 (z1.trans z2) (z1.h.none nD) a1 a2 a3
theorem je_lc (i : Nat) {f : D → D} (hc : X.calm = true) (hN : X.N.Nodup) (hi : JI X F0 H0 Γ (.Name n py) it ds) (ok : BlkOk X.N X.env.scope scope [(n, i)]) (hl : ds.length < 100000)
    (hg : ∀ (s : Shared) (H : Hp) (C : Addr) (cl : List (Str × Addr)) (fp : List Addr), PG (Bk X s H scope C cl fp) (.Name n py) (gName i))
    (he : ∀ d, d ∈ ds → ∀ (s : Shared) (H : Hp) (C : Addr) (cl : List (Str × Addr)) (fp : List Addr), JE (Bk X s H scope C cl fp) WF F0 H0 (Γ.set i (.d d)) elt (.v (f d))) (hs : ∀ x, foldedSetIterable it X.env x = pure x := by intro _; rfl) :
    JE X W F0 H0 Γ (.ListComp elt [⟨.Name n py, it, [], 0⟩] scope pos) (.o (ds.map f)) := by
  have hf : ds.filter (fun _ => true) = ds := List.filter_eq_self.mpr fun _ _ => rfl
  have := lc_red (K := X.K) (W := W) (F0 := F0) (H0 := H0) (Γ := Γ) (ds := ds) (i := i) (f := f) (p := fun _ => true) (tt := tYes) (fun d _ σ H Q ⟨F, o, q⟩ => q F H (Fz.refl o.fh)) hl
  rw [hf] at this
  exact pe_imp (pe_lc (own := [(n, i)]) hc hN hi ok hg (fun _ _ _ _ _ => pts_nil) (fun s H C cl fp => ⟨fun pins s' σ H' Q I ⟨d, hd, _, t⟩ => (he d hd s H C cl fp).run pins s' σ H' Q I t⟩) hs) this
theorem je_lcIf (i : Nat) {f : D → D} {p : D → Bool} {c : Expr} (hc : X.calm = true) (hN : X.N.Nodup) (hi : JI X F0 H0 Γ (.Name n py) it ds) (ok : BlkOk X.N X.env.scope scope [(n, i)]) (hl : ds.length < 100000)
    (hg : ∀ (s : Shared) (H : Hp) (C : Addr) (cl : List (Str × Addr)) (fp : List Addr), PG (Bk X s H scope C cl fp) (.Name n py) (gName i))
    (ht : ∀ d, d ∈ ds → ∀ (s : Shared) (H : Hp) (C : Addr) (cl : List (Str × Addr)) (fp : List Addr), JT (Bk X s H scope C cl fp) F0 H0 (Γ.set i (.d d)) c (p d))
    (he : ∀ d, d ∈ ds → p d = true → ∀ (s : Shared) (H : Hp) (C : Addr) (cl : List (Str × Addr)) (fp : List Addr), JE (Bk X s H scope C cl fp) WF F0 H0 (Γ.set i (.d d)) elt (.v (f d))) (hs : ∀ x, foldedSetIterable it X.env x = pure x := by intro _; rfl) :
    JE X W F0 H0 Γ (.ListComp elt [⟨.Name n py, it, [c], 0⟩] scope pos) (.o ((ds.filter p).map f)) :=
  pe_imp (pe_lc (own := [(n, i)]) (tt := fun σ H Q => ∃ d, d ∈ ds ∧ tT X.K F0 H0 (Γ.set i (.d d)) (p d) σ H Q) hc hN hi ok hg (fun s H C cl fp => pts_one ⟨fun pins s' σ H' Q I ⟨d, hd, t⟩ => (ht d hd s H C cl fp).run pins s' σ H' Q I t⟩)
    (fun s H C cl fp => ⟨fun pins s' σ H' Q I ⟨d, hd, hp, t⟩ => (he d hd hp s H C cl fp).run pins s' σ H' Q I t⟩) hs) (lc_red (fun d hd σ H Q t => ⟨d, hd, t⟩) hl)
/-- y = [..] as a statement of its own -/
theorem js_setLc (j : Nat) {y : Str} {py2 spos : Pos} (i : Nat) {f : D → D} (hc : X.calm = true) (hN : X.N.Nodup) (hi : JI X F0 H0 Γ (.Name n py) it ds) (ok : BlkOk X.N X.env.scope scope [(n, i)]) (hl : ds.length < 100000)
    (hsw : swapsWith (.ListComp elt [⟨.Name n py, it, [], 0⟩] scope pos) (some (.Name y py2)) spos.line X.env = pure true)
    (hg : ∀ (s : Shared) (H : Hp) (C : Addr) (cl : List (Str × Addr)) (fp : List Addr), PG (Bk X s H scope C cl fp) (.Name n py) (gName i))
    (he : ∀ d, d ∈ ds → ∀ (s : Shared) (H : Hp) (C : Addr) (cl : List (Str × Addr)) (fp : List Addr), JE (Bk X s H scope C cl fp) WF F0 H0 (Γ.set i (.d d)) elt (.v (f d))) (hy : X.N[j]? = some y := by rfl) (hyl : X.env.scope.names.lookup y = some .local := by rfl) (hs : ∀ x, foldedSetIterable it X.env x = pure x := by intro _; rfl) :
    JS X W F0 H0 Γ (.Assign [.Name y py2] (.ListComp elt [⟨.Name n py, it, [], 0⟩] scope pos) spos) (.nx (Γ.set j (.own (ds.map f)))) := by
  have hf : ds.filter (fun _ => true) = ds := List.filter_eq_self.mpr fun _ _ => rfl
  have red := lc_red (K := X.K) (W := W) (F0 := F0) (H0 := H0) (Γ := Γ) (ds := ds) (i := i) (f := f) (p := fun _ => true) (tt := tYes) (fun d _ σ H Q ⟨F, o, q⟩ => q F H (Fz.refl o.fh)) hl
  rw [hf] at red
  refine ps_imp (ps_setLc (own := [(n, i)]) (te := fun σ H Q => ∃ d, d ∈ ds ∧ true = true ∧ tE X.K WF F0 H0 (Γ.set i (.d d)) (.v (f d)) σ H Q) hc hN hy hyl hsw hi ok hg (fun _ _ _ _ _ => pts_nil) (fun s H C cl fp => ⟨fun pins s' σ H' Q I ⟨d, hd, _, t⟩ => (he d hd s H C cl fp).run pins s' σ H' Q I t⟩) hs) fun D' σ H ⟨F, ok, q⟩ => ?_
  exact red _ _ _ ⟨F, ok, fun p xs F' H' z n1 n2 n3 d => q _ F' H' z.f (ok.setNew z j n1 n2 n3 d)⟩
end

/-! ### a def -/
/-- does the body's end fit the promise -/
def Fits : Out → SO → Prop
  | .v x, .rt y => x = y
  | .v x, .nx _ => x = .none
  | .v x, .rto es => x = .list es
  | .o ds, .rto es => ds = es
  | .x c, .x c' _ => c = c'
  | .q t, .rtq t' => t = t'
  | .xf c f x, .xf c' f' x' _ => c = c' ∧ f = f' ∧ x = x'
  | _, _ => False
def begin_ (N : List Str) (ds : List D) : List S := ds.map S.d ++ List.replicate (N.length - ds.length) S.u
theorem ok_start {K : PySem.W.Frag} {F H : Hp} {N : List Str} {vs : List V} {ds : List D} (s : Ex F H) (d : DpAll K F vs ds) : Ok K F H F (L2.start N vs) H (begin_ N ds) := by
  have hl := da_len d
  refine ⟨List.replicate (begin_ N ds).length [], Fz.refl s, by unfold L2.start begin_; simp [hl], by rw [List.length_replicate], fun i t fp e e2 => ?_, fun i j f g a e1 e2 m1 m2 => ?_⟩
  · have := (List.mem_replicate.mp (List.mem_of_getElem? e2)).2
    subst this
    unfold begin_ at e
    unfold L2.start
    by_cases h : i < ds.length
    · rw [List.getElem?_append_left (by rw [List.length_map]; exact h), List.getElem?_map] at e
      rw [List.getElem?_append_left (by rw [List.length_map, hl]; exact h), List.getElem?_map]
      cases q : ds[i]? with
      | none => rw [q] at e; cases e
      | some x =>
        rw [q] at e
        cases e
        obtain ⟨v, k1, k2⟩ := da_get d q
        rw [k1]
        exact ⟨k2, rfl⟩
    · rw [List.getElem?_append_right (by rw [List.length_map]; omega)] at e
      have := List.mem_of_getElem? e
      rw [(List.mem_replicate.mp this).2]
      cases (vs.map some ++ List.replicate (N.length - vs.length) none)[i]? with
      | none => rfl
      | some o => cases o <;> rfl
  · have := (List.mem_replicate.mp (List.mem_of_getElem? e1)).2
    subst this
    cases m1
section
variable {P : Program} {w : World} {K : PySem.W.Frag} {mg : Str → Option Value} {base : Heap}
abbrev XO (P : Program) (w : World) (K : PySem.W.Frag) (mg : Str → Option Value) (base : Heap) (N : List Str) (qual : Str) (st : Stmt) (f : Addr) (cdv : Value) (A : Around) (outer : List Env) (s : Shared) (H : Hp) (E : XK) : Cx := cxOf (L2.CX P w) P w K mg base N qual (defScope st) f cdv A outer s H E
/-- a body's end fits what is asked behind the call -/
theorem fits_po {F H : Hp} {Q : VK} {E : XK} {o : Out} {so : SO} {D' : Ends} {W : WX} (po : Po K F H Q E o) (ft : Fits o so) (h1 : ∀ v H', Q v H' → D'.rt v H' := by exact fun _ _ h => h) (h2 : ∀ σ H', Q .non H' → D'.nx σ H' := by exact fun _ _ h => h) (h3 : ∀ c d σ H', E c d H' → W c d σ H' := by exact fun _ _ _ _ h => h) : PSo K W F H F D' so := by
  cases o with
  | v x =>
    cases so with
    | nx g =>
      have ft' : x = .none := ft
      subst ft'
      exact fun σ' F' H' e ok => h2 _ _ (po _ F' H' ok.base .non)
    | rt y =>
      have ft' : x = y := ft
      subst ft'
      exact fun v F' H' e z d => h1 _ _ (po v F' H' z d)
    | rto es =>
      have ft' : x = .list es := ft
      subst ft'
      intro p xs F' H' e z n1 n2 n3 d
      obtain ⟨k1, k2⟩ := Fz.freeze z.s n2 n3
      refine h1 _ _ (po (.ref p) (upd F' p (.lst xs)) H' ⟨z.f.trans k1, z.h, k2, fun c o c1 c2 => ?_⟩ (.lst (SqL.of upd_same) (da_ex k1 _ _ d)))
      have ne : c ≠ p := ne_of_none c2 n1
      rw [upd_ne ne]
      exact z.n c o c1 c2
    | _ => exact (show False from ft).elim
  | o ds =>
    cases so with
    | rto es =>
      have ft' : ds = es := ft
      subst ft'
      exact fun p xs F' H' e z n1 n2 n3 d => h1 _ _ (po p xs F' H' z n1 n2 n3 d)
    | _ => exact (show False from ft).elim
  | x c =>
    cases so with
    | x c' g =>
      have ft' : c = c' := ft
      subst ft'
      exact fun σ' F' H' e ok => h3 _ _ _ _ (po F' H' ok.base)
    | _ => exact (show False from ft).elim
  | q t =>
    cases so with
    | rtq t' =>
      have ft' : t = t' := ft
      subst ft'
      exact fun v fp F' H' e z o nd n => h1 _ _ (po v fp F' H' z o nd n)
    | _ => exact (show False from ft).elim
  | xf c f x =>
    cases so with
    | xf c' f' x' g =>
      obtain ⟨e1, e2, e3⟩ : c = c' ∧ f = f' ∧ x = x' := ft
      subst e1 e2 e3
      exact fun d v σ' F' H' e ok n1 n2 dp => h3 _ _ _ _ (po d v F' H' ok.base n1 n2 dp)
    | _ => exact (show False from ft).elim
theorem fn_ok {x qual : Str} {st : Stmt} {f : Addr} {fd : FuncData} {N ps : List Str} {k : Nat} {R : List D → Out → Prop} (Fn : Fun K x qual st f fd) (Sc : FnScope N ps (defScope st)) (hlen : ∀ ds o, R ds o → ds.length = ps.length)
    (hb : ∀ (cdv : Value) (A : Around) (outer : List Env) (s : Shared) (H : Hp) (E : XK) (F : Hp) (ds : List D) (o : Out), Room k (A.deeper (PyProof.Rows.envOfC qual (defScope st) s.heap.objs.size f cdv)) →
      L2.Takes (XO P w K mg base N qual st f cdv A outer s H E) (fun cls d _ H => E cls d H) → PassesOwn (model P w) (XO P w K mg base N qual st f cdv A outer s H E).A (XO P w K mg base N qual st f cdv A outer s H E).env (XO P w K mg base N qual st f cdv A outer s H E).xe → R ds o →
      ∃ so, JSs (XO P w K mg base N qual st f cdv A outer s H E) (fun cls d _ H => E cls d H) F H (begin_ N ds) (defBody st) so ∧ Fits o so) : FnOk P w K mg base (L2.CX P w) (k + 1) f fd ps (spD K R) := by
  refine Fn.okX Sc (fun vs H Q E ⟨F, ds, o, _, d, r, _⟩ => (da_len d).trans (hlen ds o r)) fun cdv A outer s H vs Q E hr ⟨F, ds, o, s1, d, r, po⟩ => ?_
  obtain ⟨so, j, ft⟩ := hb cdv A outer s H E F ds o hr (takes_of rfl rfl rfl rfl) (passes_of (E₁ := fun e' s'' => L2.CX P w outer H s E e' s'') rfl) r
  refine ⟨_, j, F, ok_start s1 d, ?_⟩
  exact fits_po po ft
end
/-! ### raise -/
/-- what of the text an own error class must have -/
structure ExF (K : PySem.W.Frag) (mg : Str → Option Value) (n : Str) (C : Addr) : Prop where
  g : mg n = some (.ref C)
  x : PySem.W.excIn K C [.type "ValueError", .type "Exception", .type "BaseException", .type "object"] "ValueError.__new__" = true
  k : PySem.W.keepIn K (.ref C) = true
  b : PySem.W.subIn K (.ref C) (.type "BaseException") = some true
  t : PySem.W.typeIn K (.ref C) = some (.type "type")
theorem js_raise {X : Cx} {W : WX} {F0 H0 : Hp} {Γ : List S} {n m : Str} {C : Addr} {j : Nat} {p p2 pos pos2 : Pos} (T : ExF X.K X.mg n C) (hc : X.calm = true) (tk : L2.Takes X W) (hg : Gl X n := by rfl) (hdb : (n == ("__debug__" : Str)) = false := by decide) :
    JS X W F0 H0 Γ (.Raise (some (.Call (.Name n p) [.Constant (.str m) j p2] [] pos)) none pos2) (.x C Γ) :=
  ps_imp (ps_raise hc tk (pmk_own PySem.F.excBase_ValueError T.x T.g T.k (raises_own T.b T.t) hg hdb)) fun D' σ H ⟨F, ok, q⟩ => q σ F H (Ex.refl _) ok
end TB

namespace TB
open PySem PySem.Spec PyProof.Rows L2

/-! ### {elt for n in it}, elt an int: the new set is tracked as SetO -/
section
variable {X : Cx}
theorem addI {pins : List (Addr × Obj)} {σ : L2.St} {H : Hp} {s : Shared} {E : Value → Shared → Prop} {D : Addr} {M : Int → Bool} {n : Nat} {y : Int} {tk : Tok} {Q : Value → Shared → Prop}
    (I : Inv X pins σ H s) (hD : H D = some (SetO X.w D M n)) (room : n + 1 < scanBound)
    (h : ∀ s', Inv X pins σ (upd H D (SetO X.w D (fun j => M j || decide (j = y)) (if M y = true then n else n + 1))) s' → Q .none s') : wpAny (model X.prog X.w) X.A (call (.builtin "set.add") [.ref D, .int y tk]) Q E s := by
  refine setR_add (setO_get I hD) room fun h' same isnow => ?_
  have alive : ∃ u, h'.get? D = some u := ⟨_, isnow.choose_spec.choose_spec.choose_spec.choose_spec.1⟩
  exact h _ (I.write (e := D) (t' := s.toks + 1) (by rw [hD]; trivial) (.inl rfl) (fun b u hb hu => (same.2 b hb).trans hu) alive (setO_new isnow))
/-- the reading: as tLc's, over a set of ints -/
def tSi (w : World) (wi : TI) (g : TG) (te : TE) (vs : List Nat) : TE := fun σ H Q => wi σ H fun J H1 => ∀ D, H1 D = none → ∃ V' : Nat → Nat → Hp → Prop, (∃ m, V' 0 m (upd H1 D (SetO w D (fun _ => false) 0))) ∧ ∀ i m H, V' i m H →
  (J.stop i H ∧ Q (.ref D) H) ∨ (J.go i H ∧ ∃ Nx : Hp → Prop, (∀ H', Nx H' → ∃ m', m' < m ∧ V' (i + 1) m' H') ∧ ∀ x H', J.yld i H x H' → g x (wipe σ vs) H' fun σ2 H2 => wipe σ2 vs = wipe σ vs ∧
    te σ2 H2 fun y H4 => ∃ (c : Int) (M : Int → Bool) (n : Nat), y = .int c ∧ H4 D = some (SetO w D M n) ∧ n + 1 < scanBound ∧ Nx (upd H4 D (SetO w D (fun j => M j || decide (j = c)) (if M c = true then n else n + 1))))
theorem pe_sci {elt tg iter : Expr} {scope : Scope} {own : List (PySem.Str × Nat)} {pos : Pos} {wi : TI} {g : TG} {te : TE} (hc : X.calm = true) (hN : X.N.Nodup) (hi : PI X tg iter wi) (ok : BlkOk X.N X.env.scope scope own)
    (hg : ∀ (s : Shared) (H : Hp) (C : Addr) (cl : List (PySem.Str × Addr)) (fp : List Addr), PG (Bk X s H scope C cl fp) tg g)
    (he : ∀ (s : Shared) (H : Hp) (C : Addr) (cl : List (PySem.Str × Addr)) (fp : List Addr), PE (Bk X s H scope C cl fp) elt te) (hs : ∀ x, foldedSetIterable iter X.env x = pure x := by intro _; rfl) :
    PE X (.SetComp elt [⟨tg, iter, [], 0⟩] scope pos) (tSi X.w wi g te (own.map (·.2))) := by
  refine ⟨fun pins s0 σ H Q I0 hq => ?_⟩
  rw [PpSet.eval_SetComp]
  have capt : ∀ y ∈ scope.names, y.2 = .free → ∃ c, X.env.cells.lookup y.1 = some c := fun y hy e => (ok.free y hy e).elim (fun k => I0.ok.has _ (.inl k)) (fun k => I0.ok.has _ (.inr k))
  refine wpAny_comprehension_free rfl hs (closure_ok capt) ok.kind (fun y hy e => by rw [ok.uniq y hy, e]) (thn (hi.run pins s0 σ H _ I0 hq) fun xv sa ha => thn ha fun itv sb hb => ?_)
  obtain ⟨it, fp, tn, J, Hb, eit, Ib, T, stb, fb, kq⟩ := hb
  subst eit
  refine PpSet.newSet_ok (newEnv_comp ?_)
  generalize hD : sb.heap.objs.size = D
  obtain ⟨V', ⟨mz, wz⟩, turn⟩ := kq D (Ib.hok.fresh (Nat.le_of_eq hD))
  generalize hsc : ({ sb with heap := sb.heap.push { cls := .type "set", dict := none, data := .set #[] 0 (.fresh 0 0 (!X.w.params.followText "set-order")) } } : Shared) = sc
  have hsh : sc.heap = sb.heap.push { cls := .type "set", dict := none, data := .set #[] 0 (.fresh 0 0 (!X.w.params.followText "set-order")) } := by rw [← hsc]
  have Ic : Inv X pins σ (upd Hb D (SetO X.w D (fun _ => false) 0)) sc := by
    rw [← hsc]
    refine Ib.laid (t' := sb.toks) (fun b o e => Heap.get?_push_of_some _ e) (Nat.le_of_eq hD) ?_
    rw [← hD]; exact setO_new (setR_fresh X.w)
  have small : ∀ b ∈ fp, b < sb.heap.objs.size := fun b hbm => by
    obtain ⟨o, e, _⟩ := T.obj _ _ stb b hbm; exact Heap.lt_size e
  have fc : ∀ b ∈ fp, FpOk X pins (upd Hb D (SetO X.w D (fun _ => false) 0)) b ∧ b < sc.heap.objs.size := fun b hbm => by
    have hlt := small b hbm
    refine ⟨⟨?_, (fb b hbm).2⟩, by rw [hsh, Heap.size_push]; exact Nat.lt_succ_of_lt hlt⟩
    rw [upd_ne (by rw [← hD]; exact Nat.ne_of_lt hlt)]; exact (fb b hbm).1
  have stc : tn 0 sc.heap := T.keep _ _ _ stb fun b _ o e => by rw [hsh]; exact Heap.get?_push_of_some _ e
  have Id := block_start Ic ok hN fc
  have pg : PG (X.blk sc (upd Hb D (SetO X.w D (fun _ => false) 0)) scope (compEnvC scope (cellsFrom (sc.heap.objs.size + 1) scope.names (cloFrom X.env.cells scope.names [])) sc.heap.objs.size X.env) fp) tg g := hg sc (upd Hb D (SetO X.w D (fun _ => false) 0)) sc.heap.objs.size (cellsFrom (sc.heap.objs.size + 1) scope.names (cloFrom X.env.cells scope.names [])) fp
  have pe : PE (X.blk sc (upd Hb D (SetO X.w D (fun _ => false) 0)) scope (compEnvC scope (cellsFrom (sc.heap.objs.size + 1) scope.names (cloFrom X.env.cells scope.names [])) sc.heap.objs.size X.env) fp) elt te := he sc (upd Hb D (SetO X.w D (fun _ => false) 0)) sc.heap.objs.size (cellsFrom (sc.heap.objs.size + 1) scope.names (cloFrom X.env.cells scope.names [])) fp
  show codeAny _ _ (.compStart (.SetComp elt [⟨tg, iter, [], 0⟩] scope pos) 0 (.ref it) (.ref D) (compEnvC scope (cellsFrom (sc.heap.objs.size + 1) scope.names (cloFrom X.env.cells scope.names [])) sc.heap.objs.size X.env)) (compPost (model X.prog X.w) X.A X.xe none (EP X pins σ Q) (.ref D) sc.heap.objs.size) { sc with heap := pushCells (sc.heap.push { cls := .type "dict", data := .dict #[] }) scope.names }
  have nofp : ∀ b ∈ fp, (upd Hb D (SetO X.w D (fun _ => false) 0)) b = none := fun b hbm => (fc b hbm).1.1
  generalize hce : compEnvC scope (cellsFrom (sc.heap.objs.size + 1) scope.names (cloFrom X.env.cells scope.names [])) sc.heap.objs.size X.env = ce at Id pg pe ⊢
  have cL : ce.locals = sc.heap.objs.size := by subst hce; rfl
  generalize hHc : upd Hb D (SetO X.w D (fun _ => false) 0) = Hc at Ic Id pg pe wz nofp fc
  generalize hsd : ({ sc with heap := pushCells (sc.heap.push { cls := .type "dict", data := .dict #[] }) scope.names } : Shared) = sd at Id ⊢
  have std : tn 0 sd.heap := T.keep _ _ _ stc fun b _ o e => by rw [← hsd]; exact pushCells_keeps _ _ _ _ (Heap.get?_push_of_some _ e)
  have still : ∀ {σ' : L2.St} {H' : Hp} {s' : Shared}, Inv (X.blk sc Hc scope ce fp) [] σ' H' s' → (∀ b ∈ fp, H' b = none) → ∀ b ∈ fp, FpOk (X.blk sc Hc scope ce fp) [] H' b := fun {σ' H' s'} I' hn b hbm =>
    ⟨hn b hbm, (I'.ok.exf b hbm).1, I'.ok.exfs b hbm, .inl hbm, fun x c e => (I'.ok.exf b hbm).2 x c e, fun p hp => absurd (show p ∈ ([] : List (Addr × Obj)) ++ [] from hp) (by simp)⟩
  have loop : codeAny (model X.prog X.w) X.A (.compLoop (.SetComp elt [⟨tg, iter, [], 0⟩] scope pos) 0 (.ref it) (.ref D) ce) (compPost (model X.prog X.w) X.A X.xe none (EP X pins σ Q) (.ref D) sc.heap.objs.size) sd := by
    refine PpSet.compLoopS_any (fun n s' => ∃ i H', Inv (X.blk sc Hc scope ce fp) [] (wipe σ (own.map (·.2))) H' s' ∧ tn i s'.heap ∧ (∀ b ∈ fp, H' b = none) ∧ V' i n H') ?_ mz ⟨0, Hc, Id, std, nofp, wz⟩
    rintro n se ⟨i, He, Ie, ste, ne, we⟩
    rcases turn i n He we with ⟨stop, qq⟩ | ⟨go, Nx, hNx, step⟩
    · refine thnF (T.done (X.blk sc Hc scope ce fp) rfl rfl rfl hc i [] se _ He (fun _ _ => False) Ie (still Ie ne) ste stop) fun r sf ⟨hr, If⟩ => ?_
      subst hr
      have Ig : Inv X pins σ He sf := Ic.call' (ch := fp) If.os If.base If.hok If.bare fun b hbm => ⟨(fc b hbm).1.2.2.2.1, (fc b hbm).1.2.1, (fc b hbm).1.2.2.2.2.1, (fc b hbm).1.2.2.2.2.2⟩
      have nC : He sc.heap.objs.size = none := by rw [← cL]; exact If.free
      obtain ⟨m, hn, _⟩ := If.loc
      have hn : sf.heap.Ns sc.heap.objs.size m := by rw [← cL]; exact hn
      obtain ⟨f0, f1, f2, f3, f4, f5⟩ := Ic.fpOk (Nat.le_refl _) nC
      exact ⟨m, hn, fun h'' same => ⟨.ref D, He, Ig.turned (t' := sf.toks) (fun b o hb e => (same.2 b hb).trans e) f0 f1 f3 f4 f5, rfl, qq⟩⟩
    · refine thnF (T.item (X.blk sc Hc scope ce fp) rfl rfl rfl hc i [] se _ He (fun _ _ => False) Ie (still Ie ne) ste go) fun r sf ⟨u, hr, hf⟩ => ?_
      subst hr
      refine thnF hf fun _ sg ⟨x, Hg, Ig, rg, yg, stg, ng⟩ => ?_
      refine thnF (pg.run _ sg _ Hg x u _ (Ig.pinned (still Ig ng) (T.obj _ _ stg)) rg (step x Hg yg)) fun _ sk ⟨σk, Hk, Ik, hwk, qk⟩ => ?_
      refine wpAny_tests_nil ?_
      simp only [if_true]
      refine thnF (pe.run _ sk σk Hk _ Ik qk) fun z sl ⟨yv, Hl, Il, rl, cb, M0, n0, ey, hDl, hzl, nx⟩ => ?_
      subst ey
      obtain ⟨tk, ez⟩ := rl
      subst ez
      refine addI (X := X.blk sc Hc scope ce fp) Il hDl hzl fun sm Im => ?_
      obtain ⟨m', hm, w'⟩ := hNx _ nx
      have pinned : ∀ b ∈ fp, ∀ o, sg.heap.get? b = some o → sm.heap.get? b = some o ∧ upd Hl D (SetO X.w D (fun j => M0 j || decide (j = cb)) (if M0 cb = true then n0 else n0 + 1)) b = none := fun b hbm o e =>
        ⟨(Im.pin (b, o) (List.mem_append_right _ (List.mem_append_right _ (mem_pinsAt hbm e)))).1, (Im.pin (b, o) (List.mem_append_right _ (List.mem_append_right _ (mem_pinsAt hbm e)))).2.1⟩
      refine ⟨m', hm, i + 1, _, (Im.unpinned (pins := [])).weak (by rw [← hwk, wipe_length]) (fun j v e => ?_), T.keep _ _ _ stg fun b hbm o e => (pinned b hbm o e).1, fun b hbm => ?_, w'⟩
      · rw [← hwk] at e; exact (wipe_some e).1
      · obtain ⟨o, e, _⟩ := T.obj _ _ stg b hbm; exact (pinned b hbm o e).2
  exact PpSet.codeAny_compStart_set loop (T.self X.A 0 _ _ _ std loop)
/-- len of such a set -/
theorem call_lenSi : CallR X (.builtin "len") (fun xs H Q => ∃ a M n, xs = [.ref a] ∧ H a = some (SetO X.w a M n) ∧ n < scanBound ∧ Q (.int n) H) := by
  intro pins s σ H xs us Q I r h
  obtain ⟨a, M, n, rfl, hs, hn, q⟩ := h
  obtain ⟨u, rfl, rx⟩ := vals1 r
  cases rx
  have sets : s.heap.SetOf (intKind X.prog X.w) a M n := (setO_get I hs).setOf
  obtain ⟨o, es, ep, t, ho, hex, hd, _, _, hb, hf, hm⟩ := sets
  refine call_len_set ho hex hd hf (by unfold scanBound at hn; omega) ⟨.int n, H, I.tok _, ⟨_, by rw [hm]⟩, q⟩
end
/-- how many different ones -/
def cntR : List Int → Nat
  | [] => 0
  | x :: xs => if x ∈ xs then cntR xs else cntR xs + 1
theorem cntR_le : ∀ l : List Int, cntR l ≤ l.length
  | [] => Nat.le_refl _
  | x :: xs => by
    have := cntR_le xs
    unfold cntR
    rw [List.length_cons]
    split <;> omega
section
variable {X : Cx} {W : WX} {F0 H0 : Hp} {Γ : List S} {elt it : Expr} {pos pos2 py : Pos} {n : Str} {ds : List D} {scope : Scope} {np : Pos}
/-- len({elt for n in it}), ints -/
theorem je_lenSc (i : Nat) {f : D → Int} (hc : X.calm = true) (hN : X.N.Nodup) (hm : X.mg "len" = none) (hi : JI X F0 H0 Γ (.Name n py) it ds) (ok : BlkOk X.N X.env.scope scope [(n, i)]) (hl : ds.length < 1000)
    (hg : ∀ (s : Shared) (H : Hp) (C : Addr) (cl : List (Str × Addr)) (fp : List Addr), PG (Bk X s H scope C cl fp) (.Name n py) (gName i))
    (he : ∀ d, d ∈ ds → ∀ (s : Shared) (H : Hp) (C : Addr) (cl : List (Str × Addr)) (fp : List Addr), JE (Bk X s H scope C cl fp) WF F0 H0 (Γ.set i (.d d)) elt (.v (.int (f d))))
    (hgl : Gl X "len" := by rfl) (hs : ∀ x, foldedSetIterable it X.env x = pure x := by intro _; rfl)
    (s1 : starEach [.SetComp elt [⟨.Name n py, it, [], 0⟩] scope pos] X.env = (false, eval (.SetComp elt [⟨.Name n py, it, [], 0⟩] scope pos) X.env) :: starEach [] X.env := by rfl) :
    JE X W F0 H0 Γ (.Call (.Name "len" np) [.SetComp elt [⟨.Name n py, it, [], 0⟩] scope pos] [] pos2) (.v (.int (cntR (ds.map f).reverse))) := by
  have set_ : PE X (.SetComp elt [⟨.Name n py, it, [], 0⟩] scope pos) _ := pe_sci (own := [(n, i)]) (te := fun σ H Q => ∃ d, d ∈ ds ∧ tE X.K WF F0 H0 (Γ.set i (.d d)) (.v (.int (f d))) σ H Q) hc hN hi ok hg
    (fun s H C cl fp => ⟨fun pins s' σ H' Q I ⟨d, hd, t⟩ => (he d hd s H C cl fp).run pins s' σ H' Q I t⟩) hs
  refine pe_imp (pe_callB call_lenSi hgl hm PySem.boot_len (pa_cons set_ pa_nil s1) (by decide) (by decide) s1) fun σ H Q ⟨F, ok, q⟩ => ⟨F, ok, fun J F1 H1 z1 it1 D nD => ?_⟩
  have ok1 := ok.mono z1
  refine ⟨fun k m H2 => m = ds.length - k ∧ k ≤ ds.length ∧ ∃ F2, Fz F1 H1 F2 H2 ∧ F2 D = none ∧ H2 D = some (SetO X.w D (fun j => decide (j ∈ ((ds.take k).map f).reverse)) (cntR ((ds.take k).map f).reverse)), ⟨ds.length, by simp, Nat.zero_le _, F1, Fz.fresh z1.s nD, z1.s.none nD, by
    rw [upd_same]
    simp only [List.take_zero, List.map_nil, List.reverse_nil, List.not_mem_nil, decide_false, cntR]⟩, ?_⟩
  rintro k m H2 ⟨rfl, hk, F2, z2, a2, a1⟩
  obtain ⟨go, stop⟩ := it1 F2 H2 k z2.f z2.s
  have hcl : cntR ((ds.take k).map f).reverse ≤ ds.length := Nat.le_trans (cntR_le _) (by simp; omega)
  have hb : cntR ((ds.take k).map f).reverse + 1 < scanBound := by unfold scanBound; omega
  by_cases hlt : k < ds.length
  · have hd : ds[k]? = some ds[k] := List.getElem?_eq_getElem hlt
    have hmem : ds[k] ∈ ds := List.getElem_mem hlt
    obtain ⟨g1, g2⟩ := go _ hd
    have htk : ((ds.take (k + 1)).map f).reverse = f ds[k] :: ((ds.take k).map f).reverse := by
      rw [List.take_succ, hd, List.map_append, List.reverse_append]
      rfl
    refine .inr ⟨g1, fun H' => ∃ F3, Fz F1 H1 F3 H' ∧ F3 D = none ∧ H' D = some (SetO X.w D (fun j => decide (j ∈ ((ds.take (k + 1)).map f).reverse)) (cntR ((ds.take (k + 1)).map f).reverse)), fun H' h' => ⟨ds.length - (k + 1), by omega, rfl, hlt, h'⟩, fun x H' y => ?_⟩
    obtain ⟨F3, z3, d3⟩ := g2 x H' y
    show wipe ((wipe σ [i]).set i (some x)) [i] = wipe σ [i] ∧ _
    refine ⟨by show ((σ.set i none).set i (some x)).set i none = σ.set i none; rw [List.set_set, List.set_set], ds[k], hmem, F3, ?_, fun v F4 H4 z4 d4 => ?_⟩
    · have o2 := (((ok1.mono z2).mono z3).forget i none).set i d3
      rw [List.set_set (l := Γ)] at o2
      exact o2
    · cases d4
      refine ⟨_, _, _, rfl, z4.h D _ (z3.h D _ a1), hb, F4, ?_, z4.n D _ (z3.n D _ a2 a1) (z3.h D _ a1), ?_⟩
      · have zz := (z2.trans z3).trans z4
        refine ⟨zz.f, fun c o hc => ?_, fun c o hc => ?_, zz.n⟩
        · rw [upd_ne (ne_of_none hc nD)]
          exact zz.h c o hc
        · rw [upd_ne (ne_of_none hc (z4.n D _ (z3.n D _ a2 a1) (z3.h D _ a1)))]
          exact zz.s c o hc
      · rw [upd_same, htk]
        have e1 : (fun j => decide (j ∈ ((ds.take k).map f).reverse) || decide (j = f ds[k])) = fun j => decide (j ∈ f ds[k] :: ((ds.take k).map f).reverse) := by
          funext j
          rw [Bool.eq_iff_iff]
          simp only [Bool.or_eq_true, decide_eq_true_eq, List.mem_cons]
          exact Or.comm
        rw [e1]
        have e2 : (if decide (f ds[k] ∈ ((ds.take k).map f).reverse) = true then cntR ((ds.take k).map f).reverse else cntR ((ds.take k).map f).reverse + 1) = cntR (f ds[k] :: ((ds.take k).map f).reverse) := by
          show _ = if f ds[k] ∈ _ then _ else _
          by_cases hh : f ds[k] ∈ ((ds.take k).map f).reverse
          · rw [if_pos hh, if_pos (decide_eq_true hh)]
          · rw [if_neg hh, if_neg (by rw [decide_eq_false hh]; exact Bool.false_ne_true)]
        rw [e2]
  · have hke : k = ds.length := by omega
    subst hke
    rw [List.take_length] at a1 hb
    exact .inl ⟨stop rfl, D, _, _, rfl, a1, by omega, q _ F2 H2 (z1.trans z2) (.int _)⟩
end
end TB
namespace TB
open PySem L2
def ofI : D → Int
  | .int n => n
  | _ => 0
section
variable {X : Cx} {W : WX} {F0 H0 : Hp} {Γ : List S} {elt it a b e : Expr} {pos pos2 py : Pos} {n : Str} {ns : List Int} {scope : Scope} {np : Pos} {i j : Int}
theorem je_lenScI (i : Nat) {f : Int → Int} (hc : X.calm = true) (hN : X.N.Nodup) (hm : X.mg "len" = none) (hi : JI X F0 H0 Γ (.Name n py) it (ns.map .int)) (ok : BlkOk X.N X.env.scope scope [(n, i)]) (hl : ns.length < 1000)
    (hg : ∀ (s : Shared) (H : Hp) (C : Addr) (cl : List (Str × Addr)) (fp : List Addr), PG (Bk X s H scope C cl fp) (.Name n py) (gName i))
    (he : ∀ k : Int, k ∈ ns → ∀ (s : Shared) (H : Hp) (C : Addr) (cl : List (Str × Addr)) (fp : List Addr), JE (Bk X s H scope C cl fp) WF F0 H0 (Γ.set i (.d (.int k))) elt (.v (.int (f k))))
    (hgl : Gl X "len" := by rfl) (hs : ∀ x, foldedSetIterable it X.env x = pure x := by intro _; rfl)
    (s1 : starEach [.SetComp elt [⟨.Name n py, it, [], 0⟩] scope pos] X.env = (false, eval (.SetComp elt [⟨.Name n py, it, [], 0⟩] scope pos) X.env) :: starEach [] X.env := by rfl) :
    JE X W F0 H0 Γ (.Call (.Name "len" np) [.SetComp elt [⟨.Name n py, it, [], 0⟩] scope pos] [] pos2) (.v (.int (cntR (ns.map f).reverse))) := by
  have q := je_lenSc (W := W) (np := np) (pos2 := pos2) i (f := fun d => f (ofI d)) hc hN hm hi ok (by rw [List.length_map]; exact hl) hg (fun d hd s H C cl fp => by
    obtain ⟨k, hk, rfl⟩ := List.mem_map.mp hd
    exact he k hk s H C cl fp) hgl hs s1
  rw [List.map_map] at q
  exact q
theorem je_lcI (i : Nat) {f : Int → D} (hc : X.calm = true) (hN : X.N.Nodup) (hi : JI X F0 H0 Γ (.Name n py) it (ns.map .int)) (ok : BlkOk X.N X.env.scope scope [(n, i)]) (hl : ns.length < 100000)
    (hg : ∀ (s : Shared) (H : Hp) (C : Addr) (cl : List (Str × Addr)) (fp : List Addr), PG (Bk X s H scope C cl fp) (.Name n py) (gName i))
    (he : ∀ k : Int, k ∈ ns → ∀ (s : Shared) (H : Hp) (C : Addr) (cl : List (Str × Addr)) (fp : List Addr), JE (Bk X s H scope C cl fp) WF F0 H0 (Γ.set i (.d (.int k))) elt (.v (f k))) (hs : ∀ x, foldedSetIterable it X.env x = pure x := by intro _; rfl) :
    JE X W F0 H0 Γ (.ListComp elt [⟨.Name n py, it, [], 0⟩] scope pos) (.o (ns.map f)) := by
  have q := je_lc (W := W) (pos := pos) i (f := fun d => f (ofI d)) hc hN hi ok (by rw [List.length_map]; exact hl) hg (fun d hd s H C cl fp => by
    obtain ⟨k, hk, rfl⟩ := List.mem_map.mp hd
    exact he k hk s H C cl fp) hs
  rw [List.map_map] at q
  exact q
theorem je_lcR (i : Nat) {lo : Int} {m : Nat} {f : Nat → D} (hc : X.calm = true) (hN : X.N.Nodup) (hi : JI X F0 H0 Γ (.Name n py) it (rngD lo m)) (ok : BlkOk X.N X.env.scope scope [(n, i)]) (hl : m < 100000)
    (hg : ∀ (s : Shared) (H : Hp) (C : Addr) (cl : List (Str × Addr)) (fp : List Addr), PG (Bk X s H scope C cl fp) (.Name n py) (gName i))
    (he : ∀ k : Nat, k < m → ∀ (s : Shared) (H : Hp) (C : Addr) (cl : List (Str × Addr)) (fp : List Addr), JE (Bk X s H scope C cl fp) WF F0 H0 (Γ.set i (.d (.int (lo + (k : Nat))))) elt (.v (f k))) (hs : ∀ x, foldedSetIterable it X.env x = pure x := by intro _; rfl) :
    JE X W F0 H0 Γ (.ListComp elt [⟨.Name n py, it, [], 0⟩] scope pos) (.o ((List.range m).map f)) := by
  have q := je_lc (W := W) (pos := pos) i (f := fun d => f (ofI d - lo).toNat) hc hN hi ok (by rw [rngD_len]; exact hl) hg (fun d hd s H C cl fp => by
    unfold rngD at hd
    obtain ⟨k, hk, rfl⟩ := List.mem_map.mp hd
    have e : (ofI (.int (lo + (k : Nat))) - lo).toNat = k := by show (lo + (k : Int) - lo).toNat = k; omega
    rw [e]
    exact he k (List.mem_range.mp hk) s H C cl fp) hs
  unfold rngD at q
  rw [List.map_map] at q
  have e : ((fun d => f (ofI d - lo).toNat) ∘ fun (i : Nat) => PyData.int (lo + (i : Nat))) = f := by
    funext k
    show f (lo + (k : Int) - lo).toNat = f k
    congr 1
    omega
  rw [e] at q
  exact q
/-- ints compared -/
theorem rd_eqI {K : PySem.W.Frag} : RD K rEq (.int i) (.int j) (.bool (decide (i = j))) := fun v u F H Q s d1 d2 q => by
  cases d1; cases d2
  refine ⟨rfl, ?_⟩
  have e : decide (V.int i = V.int j) = decide (i = j) := by rw [dec_int, Bool.beq_eq_decide_eq]
  rw [e]
  exact q _ F H (Fz.refl s) (.bl _)
theorem rd_neI {K : PySem.W.Frag} : RD K rNe (.int i) (.int j) (.bool (decide (i ≠ j))) := fun v u F H Q s d1 d2 q => by
  cases d1; cases d2
  refine ⟨rfl, ?_⟩
  have e : (!decide (V.int i = V.int j)) = decide (i ≠ j) := by rw [dec_int, Bool.beq_eq_decide_eq, decide_not]
  rw [e]
  exact q _ F H (Fz.refl s) (.bl _)
theorem je_eqI (ha : JE X W F0 H0 Γ a (.v (.int i))) (hb : JE X W F0 H0 Γ b (.v (.int j))) : JE X W F0 H0 Γ (.Compare a [.Eq] [b] pos) (.v (.bool (decide (i = j)))) := je_cmp op_eq rd_eqI ha hb (nomark _)
theorem je_neI (ha : JE X W F0 H0 Γ a (.v (.int i))) (hb : JE X W F0 H0 Γ b (.v (.int j))) : JE X W F0 H0 Γ (.Compare a [.NotEq] [b] pos) (.v (.bool (decide (i ≠ j)))) := je_cmp op_ne rd_neI ha hb (nomark _)
theorem jt_eqI (ha : JE X WF F0 H0 Γ a (.v (.int i))) (hb : JE X WF F0 H0 Γ b (.v (.int j))) : JT X F0 H0 Γ (.Compare a [.Eq] [b] pos) (decide (i = j)) := jt_cmp op_eq rd_eqI ha hb (nomark _)
theorem jt_neI (ha : JE X WF F0 H0 Γ a (.v (.int i))) (hb : JE X WF F0 H0 Γ b (.v (.int j))) : JT X F0 H0 Γ (.Compare a [.NotEq] [b] pos) (decide (i ≠ j)) := jt_cmp op_ne rd_neI ha hb (nomark _)
theorem jt_lt (ha : JE X WF F0 H0 Γ a (.v (.int i))) (hb : JE X WF F0 H0 Γ b (.v (.int j))) : JT X F0 H0 Γ (.Compare a [.Lt] [b] pos) (decide (i < j)) := jt_cmp op_lt rd_B0 ha hb (nomark _)
theorem jt_le (ha : JE X WF F0 H0 Γ a (.v (.int i))) (hb : JE X WF F0 H0 Γ b (.v (.int j))) : JT X F0 H0 Γ (.Compare a [.LtE] [b] pos) (decide (i ≤ j)) := jt_cmp op_le rd_B0 ha hb (nomark _)
theorem jt_gt (ha : JE X WF F0 H0 Γ a (.v (.int i))) (hb : JE X WF F0 H0 Γ b (.v (.int j))) : JT X F0 H0 Γ (.Compare a [.Gt] [b] pos) (decide (j < i)) := jt_cmp op_gt rd_B0 ha hb (nomark _)
theorem jt_ge (ha : JE X WF F0 H0 Γ a (.v (.int i))) (hb : JE X WF F0 H0 Γ b (.v (.int j))) : JT X F0 H0 Γ (.Compare a [.GtE] [b] pos) (decide (j ≤ i)) := jt_cmp op_ge rd_B0 ha hb (nomark _)
theorem je_lt (ha : JE X W F0 H0 Γ a (.v (.int i))) (hb : JE X W F0 H0 Γ b (.v (.int j))) : JE X W F0 H0 Γ (.Compare a [.Lt] [b] pos) (.v (.bool (decide (i < j)))) := je_cmp op_lt rd_B0 ha hb (nomark _)
theorem je_gt (ha : JE X W F0 H0 Γ a (.v (.int i))) (hb : JE X W F0 H0 Γ b (.v (.int j))) : JE X W F0 H0 Γ (.Compare a [.Gt] [b] pos) (.v (.bool (decide (j < i)))) := je_cmp op_gt rd_B0 ha hb (nomark _)
theorem je_eqD {x y : D} (hu : X.A.units + 64 < cLine) (h1 : SeqAt.shaped x = true) (h2 : SeqAt.shaped y = true) (ha : JE X W F0 H0 Γ a (.v x)) (hb : JE X W F0 H0 Γ b (.v y)) : JE X W F0 H0 Γ (.Compare a [.Eq] [b] pos) (.v (.bool (PyData.eqv x y))) := je_cmp (op_eqD hu) (rd_eq h1 h2) ha hb (nomark _)
theorem je_neD {x y : D} (hu : X.A.units + 64 < cLine) (h1 : SeqAt.shaped x = true) (h2 : SeqAt.shaped y = true) (ha : JE X W F0 H0 Γ a (.v x)) (hb : JE X W F0 H0 Γ b (.v y)) : JE X W F0 H0 Γ (.Compare a [.NotEq] [b] pos) (.v (.bool (!PyData.eqv x y))) := je_cmp (op_neD hu) (rd_ne h1 h2) ha hb (nomark _)
theorem jt_eqD {x y : D} (hu : X.A.units + 64 < cLine) (h1 : SeqAt.shaped x = true) (h2 : SeqAt.shaped y = true) (ha : JE X WF F0 H0 Γ a (.v x)) (hb : JE X WF F0 H0 Γ b (.v y)) : JT X F0 H0 Γ (.Compare a [.Eq] [b] pos) (PyData.eqv x y) := jt_cmp (op_eqD hu) (rd_eq h1 h2) ha hb (nomark _)
theorem jt_neD {x y : D} (hu : X.A.units + 64 < cLine) (h1 : SeqAt.shaped x = true) (h2 : SeqAt.shaped y = true) (ha : JE X WF F0 H0 Γ a (.v x)) (hb : JE X WF F0 H0 Γ b (.v y)) : JT X F0 H0 Γ (.Compare a [.NotEq] [b] pos) (!PyData.eqv x y) := jt_cmp (op_neD hu) (rd_ne h1 h2) ha hb (nomark _)
end
/-- four ints as a tuple, as a list -/
abbrev ti (ns : List Int) : D := .tuple (ns.map .int)
abbrev li (ns : List Int) : D := .list (ns.map .int)
/-- data of ints are compared as such -/
theorem eqvAll_ints : ∀ ns ms : List Int, PyData.eqvAll (ns.map .int) (ms.map .int) = decide (ns = ms)
  | [], [] => by simp [PyData.eqvAll]
  | [], _ :: _ => by simp [PyData.eqvAll]
  | _ :: _, [] => by simp [PyData.eqvAll]
  | n :: ns, m :: ms => by
    simp only [List.map_cons, PyData.eqvAll, PyData.eqv, eqvAll_ints ns ms]
    rw [Bool.eq_iff_iff]
    simp
theorem eqv_ti (ns ms : List Int) : PyData.eqv (ti ns) (ti ms) = decide (ns = ms) := by
  show PyData.eqv (.tuple _) (.tuple _) = _
  simp only [PyData.eqv]
  exact eqvAll_ints ns ms
theorem lay_ints : ∀ ns : List Int, PyData.canLayAll0 (ns.map .int) = true ∧ PyData.depthAll (ns.map .int) ≤ 1
  | [] => by simp [PyData.canLayAll0, PyData.depthAll]
  | n :: ns => by
    have := lay_ints ns
    simp only [List.map_cons, PyData.canLayAll0, PyData.canLay0, PyData.depthAll, PyData.depth, this.1]
    refine ⟨rfl, ?_⟩
    have h2 := this.2
    omega
theorem sh_int (i : Int) : SeqAt.shaped (.int i) = true := by simp [SeqAt.shaped, PyData.canLay0, PyData.depth]
theorem sh_bool (i : Bool) : SeqAt.shaped (.bool i) = true := by simp [SeqAt.shaped, PyData.canLay0, PyData.depth]
theorem sh_none : SeqAt.shaped .none = true := by simp [SeqAt.shaped, PyData.canLay0, PyData.depth]
theorem sh_ti (ns : List Int) : SeqAt.shaped (ti ns) = true := by
  have h := lay_ints ns
  have h2 := h.2
  simp only [SeqAt.shaped, ti, PyData.canLay0, PyData.depth, h.1, Bool.true_and]
  exact decide_eq_true (by omega)
theorem sh_li (ns : List Int) : SeqAt.shaped (li ns) = true := by
  have h := lay_ints ns
  have h2 := h.2
  simp only [SeqAt.shaped, li, PyData.canLay0, PyData.depth, h.1, Bool.true_and]
  exact decide_eq_true (by omega)
end TB
namespace TB
open PySem L2
/-- a def of the text, where the top has left it -/
structure FnAt (K : PySem.W.Frag) (mg : Str → Option Value) (n : Str) (st : Stmt) (ps : List Str) : Prop where
  ex : ∃ f fd, Fun K n n st f fd ∧ mg n = some (.ref f) ∧ Binds K fd ps []
/-- a def that keeps its promise -/
structure Cal (P : Program) (w : World) (K : PySem.W.Frag) (mg : Str → Option Value) (base : Heap) (k : Nat) (n : Str) (ps : List Str) (R : List D → Out → Prop) : Prop where
  ex : ∃ f fd, FnOk P w K mg base (L2.CX P w) k f fd ps (spD K R) ∧ mg n = some (.ref f) ∧ PySem.W.keepIn K (.ref f) = true ∧ Binds K fd ps []
theorem cal_mk {P : Program} {w : World} {K : PySem.W.Frag} {mg : Str → Option Value} {base : Heap} {n : Str} {st : Stmt} {N ps : List Str} {k : Nat} {R : List D → Out → Prop} (A0 : FnAt K mg n st ps) (Sc : FnScope N ps (defScope st)) (hlen : ∀ ds o, R ds o → ds.length = ps.length)
    (hb : ∀ (f : Addr) (cdv : Value) (A : Around) (outer : List Env) (s : Shared) (H : Hp) (E : XK) (F : Hp) (ds : List D) (o : Out), Room k (A.deeper (PyProof.Rows.envOfC n (defScope st) s.heap.objs.size f cdv)) →
      L2.Takes (XO P w K mg base N n st f cdv A outer s H E) (fun cls d _ H => E cls d H) → PassesOwn (model P w) (XO P w K mg base N n st f cdv A outer s H E).A (XO P w K mg base N n st f cdv A outer s H E).env (XO P w K mg base N n st f cdv A outer s H E).xe → R ds o →
      ∃ so, JSs (XO P w K mg base N n st f cdv A outer s H E) (fun cls d _ H => E cls d H) F H (begin_ N ds) (defBody st) so ∧ Fits o so) : Cal P w K mg base (k + 1) n ps R := by
  obtain ⟨f, fd, Fn, hm, hb'⟩ := A0.ex
  exact ⟨f, fd, fn_ok Fn Sc hlen (hb f), hm, Fn.kp, hb'⟩
section
variable {X : Cx} {W : WX} {F0 H0 : Hp} {Γ : List S} {e : Expr} {es : List Expr} {pos np : Pos} {n : Str} {ds : List D} {o : Out} {k : Nat} {ps : List Str} {R : List D → Out → Prop}
theorem je_callC (C : Cal X.prog X.w X.K X.mg X.base k n ps R) (hR : R ds o) (hr : Room k X.A) (tk : L2.Takes X W) (ha : JA X F0 H0 Γ (e :: es) ds)
    (hg : Gl X n := by rfl) (hdb : (n == ("__debug__" : Str)) = false := by decide) (he : starEach (e :: es) X.env = (false, eval e X.env) :: starEach es X.env := by rfl) (hpl : (backTo pos (starEach es X.env)).any (·.1) = false := by rfl) : JE X W F0 H0 Γ (.Call (.Name n np) (e :: es) [] pos) o := by
  obtain ⟨f, fd, G, hm, hk, hb⟩ := C.ex
  exact je_call tk G hr hm hk hb ha hR hg hdb he hpl
theorem je_callC0 (C : Cal X.prog X.w X.K X.mg X.base k n ps R) (hR : R [] o) (hr : Room k X.A) (tk : L2.Takes X W) (hno : o.val)
    (hg : Gl X n := by rfl) (hdb : (n == ("__debug__" : Str)) = false := by decide) : JE X W F0 H0 Γ (.Call (.Name n np) [] [] pos) o := by
  obtain ⟨f, fd, G, hm, hk, hb⟩ := C.ex
  exact je_call0 tk G hr hm hk hb hR hno hg hdb
end
/-- the law's own promise -/
def R_law : List D → Out → Prop := fun ds o => ∃ ns : List Int, ds = [li ns] ∧ ns.length ≤ 63 ∧ o = .v (.bool true)
theorem law_walk {l : PySem.W.OpenLaw} {q : Program} {loose : List Str} {XP : (Str → Option Value) → Heap → Prop} {YP : World → Heap → Prop} {d : DefRec} {K : Params → PySem.W.Frag} {k : Nat} (hn : l.most = some 63) (hdf : d.params.defaults = []) (hr : Room k callerA)
    (hY : ∀ (w : World) (h : Heap), YP w h → (K w.params).In h)
    (F : ∀ (w : World) (mg : Str → Option Value) (fa : Addr) (h : Heap), (K w.params).In h → h.Ns mainGlobals mg → mg d.name = some (.ref fa) →
      ∃ fd : FuncData, (∀ (s : Shared) (u : Value), BindsTo s fd ⟨[u], []⟩ [("script", u)]) ∧ ∀ base : Heap, (K w.params).In base → base.Ns mainGlobals mg → FnOk l.prog w (K w.params) mg base (L2.CX l.prog w) k fa fd ["script"] (spD (K w.params) R_law)) :
    PySem.W.WalkO q loose XP YP l.row.toRowW d [] (fun f vs => PySem.call f vs) :=
  L2.walk_of (n := 63) (k := k) (x := "script") (CX := fun w => L2.CX l.prog w) (sp := fun w => spD (K w.params) R_law) hn (by decide) hdf hr hY F
    (fun w H a ns hl _ hS => ⟨H, [li ns], _, Ex.refl _, .cons (.lst hS (da_of_ints ns)) .nil, ⟨ns, rfl, hl, rfl⟩, fun v F' H' _ dp => by cases dp; rfl⟩)
    fun _ _ _ _ _ z => by
      obtain ⟨_, _, _, _, _, _, _, _, _, _, _, _, z⟩ := z
      exact z.elim
end TB

namespace TB
open PySem L2
section
variable {X : Cx} {W : WX} {F0 H0 : Hp} {Γ : List S} {e elt it a b : Expr} {pos py pz tp : Pos} {n n2 : Str} {scope : Scope} {i j kk : Nat} {ps : List (D × D)} {xs ys : List D}

/-- pairs as data -/
def prD (p : D × D) : D := .tuple [p.1, p.2]
theorem zip_get {xs ys : List D} {i : Nat} {d : D} (h : ((xs.zip ys).map prD)[i]? = some d) : ∃ x y, xs[i]? = some x ∧ ys[i]? = some y ∧ d = .tuple [x, y] := by
  rw [List.getElem?_map] at h
  cases q : (xs.zip ys)[i]? with
  | none => rw [q] at h; cases h
  | some p =>
    rw [q] at h
    obtain ⟨h1, h2⟩ := List.getElem?_zip_eq_some.mp q
    exact ⟨p.1, p.2, h1, h2, (Option.some.inj h).symm⟩
theorem ji_zipT {elts : List Expr} {np : Pos} (hm : X.mg "zip" = none) (ha : JE X WF F0 H0 Γ a (.v (.tuple xs))) (hb : JE X WF F0 H0 Γ b (.v (.tuple ys))) (hg : Gl X "zip" := by rfl)
    (hs : starEach [a, b] X.env = (false, eval a X.env) :: starEach [b] X.env := by rfl) (hs2 : starEach [b] X.env = (false, eval b X.env) :: starEach [] X.env := by rfl) (hpl : (backTo pos (starEach [b] X.env)).any (·.1) = false := by rfl) :
    JI X F0 H0 Γ (.Tuple elts kk tp) (.Call (.Name "zip" np) [a, b] [] pos) ((xs.zip ys).map prD) :=
  pi_imp (RZ.pi_zipA hg hm (ja_cons ha (ja_cons hb ja_nil hs2) hs) hs hpl) fun σ H R ⟨F, ok, q⟩ => ⟨F, ok, fun vs F1 H1 z1 d1 => by
    cases d1 with
    | cons k1 k2 =>
      cases k2 with
      | cons k2 k3 =>
        cases k3
        cases k1 with
        | tup a1 a2 =>
          cases k2 with
          | tup b1 b2 =>
            refine ⟨_, _, _, _, rfl, .inr ⟨st_ex z1.s a1, st_ex z1.s b1, q _ F1 H1 z1 fun F2 H2 i e1 e2 => ?_⟩⟩
            have h1 := st_ex (e1.trans e2) a1
            have h2 := st_ex (e1.trans e2) b1
            refine ⟨fun d e => ?_, fun e => ⟨_, _, h1, h2, ?_⟩⟩
            · obtain ⟨x, y, g1, g2, rfl⟩ := zip_get e
              obtain ⟨v, v1, v2⟩ := da_get a2 g1
              obtain ⟨u, u1, u2⟩ := da_get b2 g2
              refine ⟨⟨_, _, v, u, h1, h2, v1, u1⟩, fun x' H' y' => ?_⟩
              obtain ⟨T, x2, y2, w1, w2, w3, w4, w5⟩ := y'
              subst w1 w3
              have q1 := w4 _ h1
              have q2 := w5 _ h2
              rw [v1] at q1; rw [u1] at q2
              cases q1; cases q2
              exact ⟨_, Fz.new e2 w2, .tup (SqT.of upd_same) (.cons (dp_ex (e1.trans (Fz.new e2 w2).f) _ _ v2) (.cons (dp_ex (e1.trans (Fz.new e2 w2).f) _ _ u2) .nil))⟩
            · rw [List.length_map, List.length_zip] at e
              rw [da_len a2, da_len b2, e]
              omega⟩
theorem ji_zipL {elts : List Expr} {np : Pos} (hm : X.mg "zip" = none) (ha : JE X WF F0 H0 Γ a (.v (.list xs))) (hb : JE X WF F0 H0 Γ b (.v (.list ys))) (hg : Gl X "zip" := by rfl)
    (hs : starEach [a, b] X.env = (false, eval a X.env) :: starEach [b] X.env := by rfl) (hs2 : starEach [b] X.env = (false, eval b X.env) :: starEach [] X.env := by rfl) (hpl : (backTo pos (starEach [b] X.env)).any (·.1) = false := by rfl) :
    JI X F0 H0 Γ (.Tuple elts kk tp) (.Call (.Name "zip" np) [a, b] [] pos) ((xs.zip ys).map prD) :=
  pi_imp (RZ.pi_zipA hg hm (ja_cons ha (ja_cons hb ja_nil hs2) hs) hs hpl) fun σ H R ⟨F, ok, q⟩ => ⟨F, ok, fun vs F1 H1 z1 d1 => by
    cases d1 with
    | cons k1 k2 =>
      cases k2 with
      | cons k2 k3 =>
        cases k3
        cases k1 with
        | lst a1 a2 =>
          cases k2 with
          | lst b1 b2 =>
            refine ⟨_, _, _, _, rfl, .inl ⟨sl_ex z1.s a1, sl_ex z1.s b1, q _ F1 H1 z1 fun F2 H2 i e1 e2 => ?_⟩⟩
            have h1 := sl_ex (e1.trans e2) a1
            have h2 := sl_ex (e1.trans e2) b1
            refine ⟨fun d e => ?_, fun e => ⟨_, _, h1, h2, ?_⟩⟩
            · obtain ⟨x, y, g1, g2, rfl⟩ := zip_get e
              obtain ⟨v, v1, v2⟩ := da_get a2 g1
              obtain ⟨u, u1, u2⟩ := da_get b2 g2
              refine ⟨⟨_, _, v, u, h1, h2, v1, u1⟩, fun x' H' y' => ?_⟩
              obtain ⟨T, x2, y2, w1, w2, w3, w4, w5⟩ := y'
              subst w1 w3
              have q1 := w4 _ h1
              have q2 := w5 _ h2
              rw [v1] at q1; rw [u1] at q2
              cases q1; cases q2
              exact ⟨_, Fz.new e2 w2, .tup (SqT.of upd_same) (.cons (dp_ex (e1.trans (Fz.new e2 w2).f) _ _ v2) (.cons (dp_ex (e1.trans (Fz.new e2 w2).f) _ _ u2) .nil))⟩
            · rw [List.length_map, List.length_zip] at e
              rw [da_len a2, da_len b2, e]
              omega⟩
/-- [elt for n, n2 in it], it a walk of pairs -/
theorem je_lc2 (i j : Nat) {f : D × D → D} {k2 : Nat} (hij : i ≠ j) (hc : X.calm = true) (hN : X.N.Nodup) (hi : JI X F0 H0 Γ (.Tuple [.Name n py, .Name n2 pz] kk tp) it (ps.map prD)) (ok : BlkOk X.N X.env.scope scope [(n, i), (n2, j)]) (hl : ps.length < 100000)
    (hg : ∀ (s : Shared) (H : Hp) (C : Addr) (cl : List (Str × Addr)) (fp : List Addr), PG (Bk X s H scope C cl fp) (.Tuple [.Name n py, .Name n2 pz] kk tp) (gTup X.K 2 (gCons (gName i) (gCons (gName j) gNil))))
    (he : ∀ p, p ∈ ps → ∀ (s : Shared) (H : Hp) (C : Addr) (cl : List (Str × Addr)) (fp : List Addr), JE (Bk X s H scope C cl fp) WF F0 H0 ((Γ.set i (.d p.1)).set j (.d p.2)) elt (.v (f p))) (hs : ∀ x, foldedSetIterable it X.env x = pure x := by intro _; rfl) :
    JE X W F0 H0 Γ (.ListComp elt [⟨.Tuple [.Name n py, .Name n2 pz] kk tp, it, [], 0⟩] scope pos) (.o (ps.map f)) := by
  refine pe_imp (pe_lc (own := [(n, i), (n2, j)]) (te := fun σ H Q => ∃ p, p ∈ ps ∧ tE X.K WF F0 H0 ((Γ.set i (.d p.1)).set j (.d p.2)) (.v (f p)) σ H Q) hc hN hi ok hg (fun _ _ _ _ _ => pts_nil) (fun s H C cl fp => ⟨fun pins s' σ H' Q I ⟨p, hp, t⟩ => (he p hp s H C cl fp).run pins s' σ H' Q I t⟩) hs) ?_
  rintro σ H Q ⟨F, ok, q⟩
  refine ⟨F, ok, fun J F1 H1 z1 it1 D nD => ?_⟩
  have ok1 := ok.mono z1
  have nD1 : F1 D = none := z1.s.none nD
  refine ⟨fun k m H2 => m = ps.length - k ∧ k ≤ ps.length ∧ ∃ F2 acc, Fz F1 H1 F2 H2 ∧ H2 D = some (.lst acc) ∧ F2 D = none ∧ DpAll X.K F2 acc ((ps.take k).map f), ⟨ps.length, by simp, Nat.zero_le _, F1, [], Fz.fresh z1.s nD, upd_same, nD1, by simp; exact .nil⟩, ?_⟩
  rintro k m H2 ⟨rfl, hk, F2, acc, z2, a1, a2, a3⟩
  obtain ⟨go, stop⟩ := it1 F2 H2 k z2.f z2.s
  by_cases hlt : k < ps.length
  · have hd : ps[k]? = some ps[k] := List.getElem?_eq_getElem hlt
    have hmem : ps[k] ∈ ps := List.getElem_mem hlt
    have hdm : (ps.map prD)[k]? = some (prD ps[k]) := by rw [List.getElem?_map, hd]; rfl
    obtain ⟨g1, g2⟩ := go _ hdm
    have htk : (ps.take (k + 1)).map f = (ps.take k).map f ++ [f ps[k]] := by rw [List.take_succ, hd, List.map_append]; rfl
    refine .inr ⟨g1, fun H' => ∃ F3 acc', Fz F1 H1 F3 H' ∧ H' D = some (.lst acc') ∧ F3 D = none ∧ DpAll X.K F3 acc' ((ps.take (k + 1)).map f), fun H' h' => ⟨ps.length - (k + 1), by omega, rfl, hlt, h'⟩, fun x H' y => ?_⟩
    obtain ⟨F3, z3, d3⟩ := g2 x H' y
    have b1 := z3.h D _ a1
    have b2 := z3.n D _ a2 a1
    unfold prD at d3
    cases d3 with
    | tup t1 t2 =>
      cases t2 with
      | cons t2 t3 =>
        cases t3 with
        | cons t3 t4 =>
          cases t4
          refine ⟨_, _, rfl, st_ex z3.s t1, rfl, _, _, rfl, _, _, rfl, rfl, ?_⟩
          refine ⟨?_, ps[k], hmem, F3, ?_, fun v F5 H5 z5 d5 => ⟨acc, z5.h D _ b1, ?_, F5, acc ++ [v], ?_, upd_same, z5.n D _ b2 b1, ?_⟩⟩
          · show (((((σ.set j none).set i none).set i (some _)).set j (some _)).set j none).set i none = (σ.set j none).set i none
            rw [List.set_set, List.set_set, List.set_comm _ _ (Ne.symm hij), List.set_set, List.set_comm _ _ hij, List.set_set]
          · have o2 := (((((ok1.mono z2).mono z3).forget j none).forget i none).set i t2).set j t3
            have e1 : (((Γ.set j S.u).set i S.u).set i (S.d ps[k].1)).set j (S.d ps[k].2) = (Γ.set i (S.d ps[k].1)).set j (S.d ps[k].2) := by
              rw [List.set_set, List.set_comm _ _ (Ne.symm hij), List.set_set]
            rw [e1] at o2
            exact o2
          · rw [da_len a3, List.length_map, List.length_take]
            exact Nat.lt_of_lt_of_le (by omega : _ < 100000) (by decide)
          · have zz := (z2.trans z3).trans z5
            refine ⟨zz.f, fun c o hc => ?_, fun c o hc => ?_, zz.n⟩
            · rw [upd_ne (ne_of_none hc nD)]
              exact zz.h c o hc
            · rw [upd_ne (ne_of_none hc (z5.n D _ b2 b1))]
              exact zz.s c o hc
          · rw [htk]
            exact da_app (da_ex (z3.f.trans z5.f) _ _ a3) (.cons d5 .nil)
  · have hke : k = ps.length := by omega
    refine .inl ⟨stop (by rw [List.length_map]; exact hke), ?_⟩
    subst hke
    rw [List.take_length] at a3
    exact q D acc F2 H2 (z1.trans z2) (z1.h.none nD) a1 a2 a3
end
end TB

namespace TB
open PySem L2
/-- a tuple or a list of ints -/
def Seq (d : D) (ns : List Int) : Prop := d = ti ns ∨ d = li ns
theorem Seq.t (ns : List Int) : Seq (ti ns) ns := .inl rfl
theorem Seq.l (ns : List Int) : Seq (li ns) ns := .inr rfl
section
variable {X : Cx} {W : WX} {F0 H0 : Hp} {Γ Γ1 : List S} {e elt it a b tg : Expr} {pos py pz tp : Pos} {n n2 : Str} {scope : Scope} {i j kk : Nat} {ns ms : List Int} {d d2 : D} {np : Pos} {sts : List Stmt} {so : SO}
theorem ji_seq (hs : Seq d ns) (h : JE X WF F0 H0 Γ it (.v d)) : JI X F0 H0 Γ tg it (ns.map .int) := by
  rcases hs with rfl | rfl
  · exact ji_tup h
  · exact ji_list h
theorem je_lenSeq (hs : Seq d ns) (hm : X.mg "len" = none) (h : JE X W F0 H0 Γ e (.v d)) (hg : Gl X "len" := by rfl) (s1 : starEach [e] X.env = (false, eval e X.env) :: starEach [] X.env := by rfl) : JE X W F0 H0 Γ (.Call (.Name "len" np) [e] [] pos) (.v (.int ns.length)) := by
  have el : ((ns.map PyData.int).length : Int) = ns.length := by rw [List.length_map]
  rcases hs with rfl | rfl
  · exact je_is (je_lenT hm h hg s1) (by rw [el])
  · exact je_is (je_lenL hm h hg s1) (by rw [el])
theorem js_asgSeq {es : List Expr} {k m : Nat} {T : List S → List D → List S → Prop} (hs : Seq d ns) (hc : X.calm = true) (he : JE X W F0 H0 Γ e (.v d)) (hgs : JGs X F0 H0 es T) (hl : ns.length = m) (ht : T Γ (ns.map .int) Γ1) (hn : (assignEach es X.env).length = m := by rfl) (hst : (assignEach es X.env).findIdx? (·.1) = none := by rfl)
    (hs1 : swapsWithSole [.Tuple es k tp] e pos.line X.env = pure false := by rfl) (hw : swappedStores [.Tuple es k tp] e X.env = pure none := by rfl) (h1 : (assignEach [.Tuple es k tp] X.env).map (·.2) = [assign (.Tuple es k tp) X.env] := by rfl) :
    JS X W F0 H0 Γ (.Assign [.Tuple es k tp] e pos) (.nx Γ1) := by
  rcases hs with rfl | rfl
  · exact js_asg he (jg_tup hc hgs hn hst) ⟨_, rfl, by rw [List.length_map]; exact hl, ht⟩ hs1 hw h1
  · exact js_asg he (jg_lst hc hgs hn hst) ⟨_, rfl, by rw [List.length_map]; exact hl, ht⟩ hs1 hw h1
end
/-- the doubled parts of a number -/
def isNum (ns : List Int) : Bool := decide ((ns.length : Int) = 4) && decide (((cntR (ns.map (· % 2)).reverse : Nat) : Int) = 1)
def Par (a b c d : Int) : Prop := b % 2 = a % 2 ∧ c % 2 = a % 2 ∧ d % 2 = a % 2
theorem isNum4 (a b c d : Int) : isNum [a, b, c, d] = true ↔ Par a b c d := by
  have ha := Int.emod_two_eq a
  have hb := Int.emod_two_eq b
  have hc := Int.emod_two_eq c
  have hd := Int.emod_two_eq d
  unfold isNum Par
  simp only [List.map_cons, List.map_nil, List.reverse_cons, List.reverse_nil, List.nil_append, List.cons_append, List.length_cons, List.length_nil]
  rcases ha with ha | ha <;> rcases hb with hb | hb <;> rcases hc with hc | hc <;> rcases hd with hd | hd <;> rw [ha, hb, hc, hd] <;> simp [cntR]
theorem isNum_of {a b c d : Int} (h : Par a b c d) : isNum [a, b, c, d] = true := (isNum4 a b c d).mpr h
theorem num_cases {ns : List Int} (h : isNum ns = true) : ∃ a b c d, ns = [a, b, c, d] ∧ Par a b c d := by
  have hl : ns.length = 4 := by
    unfold isNum at h
    rw [Bool.and_eq_true, decide_eq_true_eq] at h
    omega
  match ns, hl with
  | [a, b, c, d], _ => exact ⟨a, b, c, d, rfl, (isNum4 a b c d).mp h⟩
/-- parts of up to half a million bits -/
def Sm (n : Nat) (ns : List Int) : Prop := ∀ x ∈ ns, Bt n x
theorem cm {x y : Int} {a b : Nat} (ha : Bt a x) (hb : Bt b y) (h0 : 0 < a := by decide) (h1 : 0 < b := by decide) (h : a + b ≤ 1000000 := by decide) : CMulW x y := wide_mul ha hb h0 h1 h
theorem Bt.mono {a b : Nat} {x : Int} (h : Bt a x) (l : a ≤ b) : Bt b x := Nat.lt_of_lt_of_le h (Nat.pow_le_pow_right (by decide) l)
theorem Bt.neg {a : Nat} {x : Int} (h : Bt a x) : Bt a (-x) := by
  unfold Bt at h ⊢
  rw [Int.natAbs_neg]
  exact h
theorem Bt.add {a b : Nat} {x y : Int} (h : Bt a x) (g : Bt b y) : Bt (max a b + 1) (x + y) := by
  have h' := h.mono (Nat.le_max_left a b)
  have g' := g.mono (Nat.le_max_right a b)
  unfold Bt at h' g' ⊢
  have := Int.natAbs_add_le x y
  rw [Nat.pow_succ]
  omega
theorem Bt.sub {a b : Nat} {x y : Int} (h : Bt a x) (g : Bt b y) : Bt (max a b + 1) (x - y) := by
  rw [Int.sub_eq_add_neg]
  exact h.add g.neg
theorem Bt.mul {a b : Nat} {x y : Int} (h : Bt a x) (g : Bt b y) : Bt (a + b) (x * y) := wide_lt h g
theorem Bt.half {a : Nat} {x : Int} (h : Bt a x) : Bt a (x / 2) := by
  unfold Bt at h ⊢
  omega
theorem Bt.zero : Bt 1 0 := by unfold Bt; decide
/-- promises of defs over numbers: c the class of what is raised for what is none -/
def R1 (c : Addr) (g : List Int → D) : List D → Out → Prop := fun ds o => ∃ d ns, ds = [d] ∧ Seq d ns ∧ ns.length < 1000 ∧ Sm 400000 ns ∧ o = if isNum ns = true then .v (g ns) else .x c
def R2 (c : Addr) (g : List Int → List Int → D) : List D → Out → Prop := fun ds o => ∃ d e ns ms, ds = [d, e] ∧ ((d = ti ns ∧ e = ti ms) ∨ (d = li ns ∧ e = li ms)) ∧ ns.length < 1000 ∧ ms.length < 1000 ∧ Sm 400000 ns ∧ Sm 400000 ms ∧ o = if isNum ns = true ∧ isNum ms = true then .v (g ns ms) else .x c
theorem r1_t {c : Addr} {g : List Int → D} {ns : List Int} (hl : ns.length < 1000) (hs : Sm 400000 ns) (h : isNum ns = true) : R1 c g [ti ns] (.v (g ns)) := ⟨_, ns, rfl, .inl rfl, hl, hs, by rw [if_pos h]⟩
theorem r1_l {c : Addr} {g : List Int → D} {ns : List Int} (hl : ns.length < 1000) (hs : Sm 400000 ns) (h : isNum ns = true) : R1 c g [li ns] (.v (g ns)) := ⟨_, ns, rfl, .inr rfl, hl, hs, by rw [if_pos h]⟩
theorem r1_s {c : Addr} {g : List Int → D} {d : D} {ns : List Int} (sq : Seq d ns) (hl : ns.length < 1000) (hs : Sm 400000 ns) (h : isNum ns = true) : R1 c g [d] (.v (g ns)) := ⟨_, ns, rfl, sq, hl, hs, by rw [if_pos h]⟩
theorem r1_x {c : Addr} {g : List Int → D} {d : D} {ns : List Int} (sq : Seq d ns) (hl : ns.length < 1000) (hs : Sm 400000 ns) (h : isNum ns = false) : R1 c g [d] (.x c) := ⟨_, ns, rfl, sq, hl, hs, by rw [if_neg (by rw [h]; exact Bool.false_ne_true)]⟩
theorem r2_t {c : Addr} {g : List Int → List Int → D} {ns ms : List Int} (hl : ns.length < 1000) (hl2 : ms.length < 1000) (hs : Sm 400000 ns) (hs2 : Sm 400000 ms) (h : isNum ns = true) (h2 : isNum ms = true) : R2 c g [ti ns, ti ms] (.v (g ns ms)) := ⟨_, _, ns, ms, rfl, .inl ⟨rfl, rfl⟩, hl, hl2, hs, hs2, by rw [if_pos ⟨h, h2⟩]⟩
theorem r2_l {c : Addr} {g : List Int → List Int → D} {ns ms : List Int} (hl : ns.length < 1000) (hl2 : ms.length < 1000) (hs : Sm 400000 ns) (hs2 : Sm 400000 ms) (h : isNum ns = true) (h2 : isNum ms = true) : R2 c g [li ns, li ms] (.v (g ns ms)) := ⟨_, _, ns, ms, rfl, .inr ⟨rfl, rfl⟩, hl, hl2, hs, hs2, by rw [if_pos ⟨h, h2⟩]⟩
theorem r2_x {c : Addr} {g : List Int → List Int → D} {ns ms : List Int} (hl : ns.length < 1000) (hl2 : ms.length < 1000) (hs : Sm 400000 ns) (hs2 : Sm 400000 ms) (h : ¬ (isNum ns = true ∧ isNum ms = true)) : R2 c g [ti ns, ti ms] (.x c) := ⟨_, _, ns, ms, rfl, .inl ⟨rfl, rfl⟩, hl, hl2, hs, hs2, by rw [if_neg h]⟩
/-- the law's draws -/
def absI (c : Int) : Int := if c < 0 then -c else c
def mixS (c : Int) : Nat → Int
  | 0 => (absI c * 48271 + 69621) % 2147483647
  | k + 1 => (mixS c k * 16807 + 271 * (0 + (k : Nat) + 3)) % 2147483629
def bigC (c : Int) : Bool := decide (10 ^ (18 : Int).toNat ≤ absI c)
def restS (c : Int) : Nat → Int
  | 0 => absI c
  | k + 1 => if bigC c = true then restS c k / 1009 else restS c k
def rowV (c : Int) (k : Nat) : Int := if bigC c = true then restS c k % 1009 else mixS c (k + 1) / 7 % 1009
def lawRow (c : Int) (m : Nat) : List Int := (List.range m).map (rowV c)
theorem rowV_in (c : Int) (k : Nat) : 0 ≤ rowV c k ∧ rowV c k < 1009 := by
  unfold rowV
  split <;> omega
/-- the cells' rows, filled up with zeros, cut -/
def lawNums (cells : List Int) (m : Nat) : List Int := ((cells.flatMap fun c => lawRow c (1 + m / (max 1 cells.length))) ++ List.replicate m 0).take m
def Drawn (m : Nat) (ns : List Int) : Prop := ns.length = m ∧ ∀ x ∈ ns, 0 ≤ x ∧ x < 1009
theorem lawNums_ok (cells : List Int) (m : Nat) : Drawn m (lawNums cells m) := by
  constructor
  · unfold lawNums
    rw [List.length_take, List.length_append, List.length_replicate]
    omega
  · intro x hx
    have := List.mem_of_mem_take hx
    rw [List.mem_append] at this
    rcases this with h | h
    · obtain ⟨c, _, h2⟩ := List.mem_flatMap.mp h
      unfold lawRow at h2
      obtain ⟨k, _, rfl⟩ := List.mem_map.mp h2
      exact rowV_in c k
    · rw [(List.mem_replicate.mp h).2]
      omega
end TB
namespace TB
open PySem L2
theorem at_ints {ns : List Int} {i : Nat} {z : Int} (hz : z = (i : Int)) (h : i < ns.length) : atI (ns.map PyData.int) z = some (.int (ns.getD i 0)) := by
  subst hz
  refine atI_nat ?_
  rw [List.getElem?_map, List.getElem?_eq_getElem h, List.getD_eq_getElem?_getD, List.getElem?_eq_getElem h]
  rfl
/-- a drawn part -/
def choiceV (ns : List Int) (p : Nat) : Nat := (ns.getD p 0 % 6).toNat
def stepV (ns : List Int) (p : Nat) : Nat → Int
  | 0 => ns.getD (p + 1) 0 % ([2, 4, 8, 40, 1009, 1009] : List Int).getD (choiceV ns p) 0
  | k + 1 => stepV ns p k * 1009 + ns.getD (p + 2 + k) 0
def partV (ns : List Int) (p : Nat) : Int :=
  if ns.getD p 0 / 6 % 2 = 1 then 0 - stepV ns p (([0, 0, 0, 0, 0, 8] : List Int).getD (choiceV ns p) 0).toNat else stepV ns p (([0, 0, 0, 0, 0, 8] : List Int).getD (choiceV ns p) 0).toNat
def In9 (ns : List Int) : Prop := ∀ x ∈ ns, (0 : Int) ≤ x ∧ x < 1009
theorem In9.get {ns : List Int} (h : In9 ns) (i : Nat) : 0 ≤ ns.getD i 0 ∧ ns.getD i 0 < 1009 := by
  rw [List.getD_eq_getElem?_getD]
  cases q : ns[i]? with
  | none => exact ⟨by decide, by decide⟩
  | some x => exact h x (List.mem_of_getElem? q)
theorem choice_lt {ns : List Int} (h : In9 ns) (p : Nat) : choiceV ns p < 6 := by
  unfold choiceV
  have := h.get p
  omega
theorem mod_pos6 : ∀ j, j < 6 → 0 < ([2, 4, 8, 40, 1009, 1009] : List Int).getD j 0 ∧ ([2, 4, 8, 40, 1009, 1009] : List Int).getD j 0 ≤ 1009 := by decide
theorem rep_6 : ∀ j, j < 6 → 0 ≤ ([0, 0, 0, 0, 0, 8] : List Int).getD j 0 ∧ ([0, 0, 0, 0, 0, 8] : List Int).getD j 0 ≤ 8 := by decide
theorem stepV_in {ns : List Int} (h : In9 ns) (p : Nat) : ∀ k, 0 ≤ stepV ns p k ∧ stepV ns p k < 1009 ^ (k + 1)
  | 0 => by
    have h1 := mod_pos6 _ (choice_lt h p)
    have h2 := Int.emod_nonneg (ns.getD (p + 1) 0) (show ([2, 4, 8, 40, 1009, 1009] : List Int).getD (choiceV ns p) 0 ≠ 0 by omega)
    have h3 := Int.emod_lt_of_pos (ns.getD (p + 1) 0) h1.1
    refine ⟨h2, ?_⟩
    show ns.getD (p + 1) 0 % _ < 1009 ^ 1
    omega
  | k + 1 => by
    have ih := stepV_in h p k
    have h1 := h.get (p + 2 + k)
    show 0 ≤ stepV ns p k * 1009 + _ ∧ stepV ns p k * 1009 + _ < 1009 ^ (k + 1 + 1)
    have e : (1009 : Int) ^ (k + 1 + 1) = 1009 ^ (k + 1) * 1009 := Int.pow_succ ..
    rw [e]
    omega
theorem partV_bt {ns : List Int} (h : In9 ns) (p : Nat) : Bt 91 (partV ns p) := by
  have key : ∀ j : Nat, j ≤ 8 → Bt 91 (stepV ns p j) := fun j hj => by
    have h1 := stepV_in h p j
    have h2 : (1009 : Int) ^ (j + 1) ≤ 1009 ^ 9 := by
      have : ∀ j : Fin 9, (1009 : Int) ^ (j.val + 1) ≤ 1009 ^ 9 := by decide
      exact this ⟨j, by omega⟩
    have h3 : (1009 : Int) ^ 9 < 2 ^ 91 := by decide
    unfold Bt
    omega
  have h2 := rep_6 _ (choice_lt h p)
  have h3 := key (([0, 0, 0, 0, 0, 8] : List Int).getD (choiceV ns p) 0).toNat (by omega)
  unfold partV
  split
  · rw [Int.zero_sub]
    exact h3.neg
  · exact h3
/-- a drawn number -/
def numV (ns : List Int) (p : Nat) : List Int := (List.range 4).map fun k => 2 * partV ns (p + 1 + 10 * k) + ns.getD p 0 % 2
theorem numV_num (ns : List Int) (p : Nat) : isNum (numV ns p) = true := by
  show isNum [_, _, _, _] = true
  refine isNum_of ⟨?_, ?_, ?_⟩ <;> (dsimp only; omega)
theorem numV_bt {ns : List Int} (h : In9 ns) (p : Nat) : Sm 100 (numV ns p) := by
  intro x hx
  unfold numV at hx
  obtain ⟨k, _, rfl⟩ := List.mem_map.mp hx
  have h1 := partV_bt h (p + 1 + 10 * k)
  unfold Bt at h1 ⊢
  omega
theorem Sm.mono {a b : Nat} {ns : List Int} (h : Sm a ns) (l : a ≤ b) : Sm b ns := fun x hx => (h x hx).mono l
/-! what the program's defs give, by lists of parts -/
def conjL : List Int → List Int
  | [a, b, c, d] => [a, -b, -c, -d]
  | _ => []
def mulL : List Int → List Int → List Int
  | [a, b, c, d], [e, f, g, h] => [(a * e - b * f - c * g - d * h) / 2, (a * f + b * e + c * h - d * g) / 2, (a * g - b * h + c * e + d * f) / 2, (a * h + b * g - c * f + d * e) / 2]
  | _, _ => []
def normL (ns : List Int) : Int := (ns.map fun p => p * p).sum / 4
def addL (ns ms : List Int) : List Int := (ns.zip ms).map fun p => p.1 + p.2
def subL (ns ms : List Int) : List Int := (ns.zip ms).map fun p => p.1 - p.2
def timesL (m : Int) (ns : List Int) : List Int := ns.map fun p => p * m
def R0 (c : Addr) : List D → Out → Prop := fun ds o => ∃ d ns, ds = [d] ∧ Seq d ns ∧ ns.length < 1000 ∧ o = if isNum ns = true then .v .none else .x c
def R02 (c : Addr) : List D → Out → Prop := fun ds o => ∃ d e ns ms, ds = [d, e] ∧ Seq d ns ∧ Seq e ms ∧ ns.length < 1000 ∧ ms.length < 1000 ∧ o = if isNum ns = true ∧ isNum ms = true then .v .none else .x c
def R_is_number : List D → Out → Prop := fun ds o => ∃ d ns, ds = [d] ∧ Seq d ns ∧ ns.length < 1000 ∧ o = .v (.bool (isNum ns))
/-- behind the check: four parts -/
def R4 (g : List Int → D) : List D → Out → Prop := fun ds o => ∃ d ns, ds = [d] ∧ Seq d ns ∧ ns.length = 4 ∧ Sm 400000 ns ∧ o = .v (g ns)
def R44 (g : List Int → List Int → D) : List D → Out → Prop := fun ds o => ∃ d e ns ms, ds = [d, e] ∧ Seq d ns ∧ Seq e ms ∧ ns.length = 4 ∧ ms.length = 4 ∧ Sm 400000 ns ∧ Sm 400000 ms ∧ o = .v (g ns ms)
def RT (c : Addr) : List D → Out → Prop := fun ds o => ∃ d ns m, ds = [d, .int m] ∧ Seq d ns ∧ ns.length < 1000 ∧ Sm 400000 ns ∧ Bt 400000 m ∧ o = if isNum ns = true then .v (ti (timesL m ns)) else .x c
theorem four {ns : List Int} (h : ns.length = 4) : ∃ a b c d, ns = [a, b, c, d] := by
  match ns, h with
  | [a, b, c, d], _ => exact ⟨a, b, c, d, rfl⟩
theorem num_len {ns : List Int} (h : isNum ns = true) : ns.length = 4 := by
  obtain ⟨a, b, c, d, rfl, _⟩ := num_cases h
  rfl
theorem zip_ints (ns ms : List Int) : (ns.map PyData.int).zip (ms.map PyData.int) = (ns.zip ms).map fun p => (PyData.int p.1, PyData.int p.2) := by
  rw [List.zip_map]
  rfl
end TB

namespace TB
/-! ### the mathematics of products -/
/-- p is the product of x and y, told by twice its parts -/
def Pr (a b c d e f g h p q r s : Int) : Prop :=
  2 * p = a * e - b * f - c * g - d * h ∧ 2 * q = a * f + b * e + c * h - d * g ∧ 2 * r = a * g - b * h + c * e + d * f ∧ 2 * s = a * h + b * g - c * f + d * e
theorem mul_pr {a b c d e f g h : Int} (k : Par a b c d) (l : Par e f g h) : ∃ p q r s, Pr a b c d e f g h p q r s ∧ Par p q r s ∧ mulL [a, b, c, d] [e, f, g, h] = [p, q, r, s] := by
  obtain ⟨k1, k2, k3⟩ := k
  obtain ⟨l1, l2, l3⟩ := l
  have key : ∀ (A B C D' E F G H u v : Int), (u = 0 ∨ u = 1) → (v = 0 ∨ v = 1) → a = 2 * A + u → b = 2 * B + u → c = 2 * C + u → d = 2 * D' + u → e = 2 * E + v → f = 2 * F + v → g = 2 * G + v → h = 2 * H + v →
      ∃ p q r s, Pr a b c d e f g h p q r s ∧ Par p q r s := by
    intro A B C D' E F G H u v hu hv ha hb hc hd he hf hg hh
    subst ha hb hc hd he hf hg hh
    refine ⟨2 * (A * E - B * F - C * G - D' * H) + v * (A - B - C - D') + u * (E - F - G - H) - u * v, 2 * (A * F + B * E + C * H - D' * G) + v * (A + B + C - D') + u * (F + E + H - G) + u * v,
      2 * (A * G - B * H + C * E + D' * F) + v * (A - B + C + D') + u * (G - H + E + F) + u * v, 2 * (A * H + B * G - C * F + D' * E) + v * (A + B - C + D') + u * (H + G - F + E) + u * v, ⟨by grind, by grind, by grind, by grind⟩, ?_⟩
    unfold Par
    rcases hu with rfl | rfl <;> rcases hv with rfl | rfl <;> refine ⟨?_, ?_, ?_⟩ <;> omega
  obtain ⟨p, q, r, s, hp, hq⟩ := key (a / 2) (b / 2) (c / 2) (d / 2) (e / 2) (f / 2) (g / 2) (h / 2) (a % 2) (e % 2) (by omega) (by omega) (by omega) (by omega) (by omega) (by omega) (by omega) (by omega) (by omega) (by omega)
  refine ⟨p, q, r, s, hp, hq, ?_⟩
  obtain ⟨h1, h2, h3, h4⟩ := hp
  show [_, _, _, _] = [p, q, r, s]
  rw [← h1, ← h2, ← h3, ← h4]
  simp
theorem num_mul {x y : List Int} (hx : isNum x = true) (hy : isNum y = true) : isNum (mulL x y) = true := by
  obtain ⟨a, b, c, d, rfl, k⟩ := num_cases hx
  obtain ⟨e, f, g, h, rfl, l⟩ := num_cases hy
  obtain ⟨p, q, r, s, _, k2, e2⟩ := mul_pr k l
  rw [e2]
  exact isNum_of k2
theorem num_conj {x : List Int} (hx : isNum x = true) : isNum (conjL x) = true := by
  obtain ⟨a, b, c, d, rfl, k1, k2, k3⟩ := num_cases hx
  exact isNum_of ⟨by omega, by omega, by omega⟩
theorem num_add {x y : List Int} (hx : isNum x = true) (hy : isNum y = true) : isNum (addL x y) = true := by
  obtain ⟨a, b, c, d, rfl, k1, k2, k3⟩ := num_cases hx
  obtain ⟨e, f, g, h, rfl, l1, l2, l3⟩ := num_cases hy
  exact isNum_of (a := a + e) (b := b + f) (c := c + g) (d := d + h) ⟨by omega, by omega, by omega⟩
theorem num_int (m : Int) : isNum [2 * m, 0, 0, 0] = true := isNum_of ⟨by omega, by omega, by omega⟩
theorem num_len1000 {x : List Int} (hx : isNum x = true) : x.length < 1000 := by
  rw [num_len hx]
  decide
theorem sm_mul {x y : List Int} {m n : Nat} (hx : isNum x = true) (hy : isNum y = true) (h1 : Sm m x) (h2 : Sm n y) : Sm (m + n + 3) (mulL x y) := by
  obtain ⟨a, b, c, d, rfl, k⟩ := num_cases hx
  obtain ⟨e, f, g, h, rfl, l⟩ := num_cases hy
  have A := h1 a (by simp); have B := h1 b (by simp); have C := h1 c (by simp); have D' := h1 d (by simp)
  have E := h2 e (by simp); have F := h2 f (by simp); have G := h2 g (by simp); have H := h2 h (by simp)
  have mono : ∀ {k : Nat} {z : Int}, Bt k z → k ≤ m + n + 3 → Bt (m + n + 3) z := fun q w => q.mono w
  intro z hz
  have hz' : z = (a * e - b * f - c * g - d * h) / 2 ∨ z = (a * f + b * e + c * h - d * g) / 2 ∨ z = (a * g - b * h + c * e + d * f) / 2 ∨ z = (a * h + b * g - c * f + d * e) / 2 := by
    have : z ∈ [(a * e - b * f - c * g - d * h) / 2, (a * f + b * e + c * h - d * g) / 2, (a * g - b * h + c * e + d * f) / 2, (a * h + b * g - c * f + d * e) / 2] := hz
    simpa using this
  rcases hz' with rfl | rfl | rfl | rfl
  · exact mono (((((A.mul E).sub (B.mul F)).sub (C.mul G)).sub (D'.mul H)).half) (by omega)
  · exact mono (((((A.mul F).add (B.mul E)).add (C.mul H)).sub (D'.mul G)).half) (by omega)
  · exact mono (((((A.mul G).sub (B.mul H)).add (C.mul E)).add (D'.mul F)).half) (by omega)
  · exact mono (((((A.mul H).add (B.mul G)).sub (C.mul F)).add (D'.mul E)).half) (by omega)
theorem sm_conj {x : List Int} {m : Nat} (hx : isNum x = true) (h1 : Sm m x) : Sm m (conjL x) := by
  obtain ⟨a, b, c, d, rfl, k⟩ := num_cases hx
  have A := h1 a (by simp); have B := h1 b (by simp); have C := h1 c (by simp); have D' := h1 d (by simp)
  intro z hz
  have hz' : z = a ∨ z = -b ∨ z = -c ∨ z = -d := by
    have : z ∈ [a, -b, -c, -d] := hz
    simpa using this
  rcases hz' with rfl | rfl | rfl | rfl
  · exact A
  · exact B.neg
  · exact C.neg
  · exact D'.neg
theorem sm_add {x y : List Int} {m n : Nat} (hx : isNum x = true) (hy : isNum y = true) (h1 : Sm m x) (h2 : Sm n y) : Sm (max m n + 1) (addL x y) := by
  intro z hz
  unfold addL at hz
  obtain ⟨p, hp, rfl⟩ := List.mem_map.mp hz
  exact (h1 p.1 (List.of_mem_zip hp).1).add (h2 p.2 (List.of_mem_zip hp).2)
theorem asc_pure (a b c d e f g h i j k l : Int) :
    (a * e - b * f - c * g - d * h) * i - (a * f + b * e + c * h - d * g) * j - (a * g - b * h + c * e + d * f) * k - (a * h + b * g - c * f + d * e) * l = a * (e * i - f * j - g * k - h * l) - b * (e * j + f * i + g * l - h * k) - c * (e * k - f * l + g * i + h * j) - d * (e * l + f * k - g * j + h * i) ∧
    (a * e - b * f - c * g - d * h) * j + (a * f + b * e + c * h - d * g) * i + (a * g - b * h + c * e + d * f) * l - (a * h + b * g - c * f + d * e) * k = a * (e * j + f * i + g * l - h * k) + b * (e * i - f * j - g * k - h * l) + c * (e * l + f * k - g * j + h * i) - d * (e * k - f * l + g * i + h * j) ∧
    (a * e - b * f - c * g - d * h) * k - (a * f + b * e + c * h - d * g) * l + (a * g - b * h + c * e + d * f) * i + (a * h + b * g - c * f + d * e) * j = a * (e * k - f * l + g * i + h * j) - b * (e * l + f * k - g * j + h * i) + c * (e * i - f * j - g * k - h * l) + d * (e * j + f * i + g * l - h * k) ∧
    (a * e - b * f - c * g - d * h) * l + (a * f + b * e + c * h - d * g) * k - (a * g - b * h + c * e + d * f) * j + (a * h + b * g - c * f + d * e) * i = a * (e * l + f * k - g * j + h * i) + b * (e * k - f * l + g * i + h * j) - c * (e * j + f * i + g * l - h * k) + d * (e * i - f * j - g * k - h * l) := ⟨by grind, by grind, by grind, by grind⟩
theorem mul_asc {x y z : List Int} (hx : isNum x = true) (hy : isNum y = true) (hz : isNum z = true) : mulL (mulL x y) z = mulL x (mulL y z) := by
  obtain ⟨a, b, c, d, rfl, kx⟩ := num_cases hx
  obtain ⟨e, f, g, h, rfl, ky⟩ := num_cases hy
  obtain ⟨i, j, k, l, rfl, kz⟩ := num_cases hz
  obtain ⟨p, q, r, s, ⟨p1, p2, p3, p4⟩, kp, ep⟩ := mul_pr kx ky
  obtain ⟨t, u, v, w, ⟨t1, t2, t3, t4⟩, kt, et⟩ := mul_pr ky kz
  rw [ep, et]
  obtain ⟨A, B, C, D', ⟨a1, a2, a3, a4⟩, _, eA⟩ := mul_pr kp kz
  obtain ⟨E, F, G, H, ⟨b1, b2, b3, b4⟩, _, eB⟩ := mul_pr kx kt
  rw [eA, eB]
  obtain ⟨x1, x2, x3, x4⟩ := asc_pure a b c d e f g h i j k l
  rw [← p1, ← p2, ← p3, ← p4, ← t1, ← t2, ← t3, ← t4] at x1 x2 x3 x4
  have y1 : 2 * (2 * A) = 2 * (2 * E) := by rw [a1, b1]; grind
  have y2 : 2 * (2 * B) = 2 * (2 * F) := by rw [a2, b2]; grind
  have y3 : 2 * (2 * C) = 2 * (2 * G) := by rw [a3, b3]; grind
  have y4 : 2 * (2 * D') = 2 * (2 * H) := by rw [a4, b4]; grind
  have z1 : A = E := by omega
  have z2 : B = F := by omega
  have z3 : C = G := by omega
  have z4 : D' = H := by omega
  rw [z1, z2, z3, z4]
theorem mul_addr {x y z : List Int} (hx : isNum x = true) (hy : isNum y = true) (hz : isNum z = true) : mulL x (addL y z) = addL (mulL x y) (mulL x z) := by
  obtain ⟨a, b, c, d, rfl, kx⟩ := num_cases hx
  obtain ⟨e, f, g, h, rfl, ky⟩ := num_cases hy
  obtain ⟨i, j, k, l, rfl, kz⟩ := num_cases hz
  obtain ⟨p, q, r, s, ⟨p1, p2, p3, p4⟩, _, ep⟩ := mul_pr kx ky
  obtain ⟨t, u, v, w, ⟨t1, t2, t3, t4⟩, _, et⟩ := mul_pr kx kz
  have ka : Par (e + i) (f + j) (g + k) (h + l) := by
    obtain ⟨k1, k2, k3⟩ := ky
    obtain ⟨l1, l2, l3⟩ := kz
    exact ⟨by omega, by omega, by omega⟩
  obtain ⟨A, B, C, D', ⟨a1, a2, a3, a4⟩, _, eA⟩ := mul_pr kx ka
  rw [ep, et]
  show mulL [a, b, c, d] [e + i, f + j, g + k, h + l] = [p + t, q + u, r + v, s + w]
  rw [eA]
  have z1 : A = p + t := by grind
  have z2 : B = q + u := by grind
  have z3 : C = r + v := by grind
  have z4 : D' = s + w := by grind
  rw [z1, z2, z3, z4]
theorem mul_addl {x y z : List Int} (hx : isNum x = true) (hy : isNum y = true) (hz : isNum z = true) : mulL (addL x y) z = addL (mulL x z) (mulL y z) := by
  obtain ⟨a, b, c, d, rfl, kx⟩ := num_cases hx
  obtain ⟨e, f, g, h, rfl, ky⟩ := num_cases hy
  obtain ⟨i, j, k, l, rfl, kz⟩ := num_cases hz
  obtain ⟨p, q, r, s, ⟨p1, p2, p3, p4⟩, _, ep⟩ := mul_pr kx kz
  obtain ⟨t, u, v, w, ⟨t1, t2, t3, t4⟩, _, et⟩ := mul_pr ky kz
  have ka : Par (a + e) (b + f) (c + g) (d + h) := by
    obtain ⟨k1, k2, k3⟩ := kx
    obtain ⟨l1, l2, l3⟩ := ky
    exact ⟨by omega, by omega, by omega⟩
  obtain ⟨A, B, C, D', ⟨a1, a2, a3, a4⟩, _, eA⟩ := mul_pr ka kz
  rw [ep, et]
  show mulL [a + e, b + f, c + g, d + h] [i, j, k, l] = [p + t, q + u, r + v, s + w]
  rw [eA]
  have z1 : A = p + t := by grind
  have z2 : B = q + u := by grind
  have z3 : C = r + v := by grind
  have z4 : D' = s + w := by grind
  rw [z1, z2, z3, z4]
theorem norm_pr {a b c d : Int} (k : Par a b c d) : 4 * normL [a, b, c, d] = a * a + b * b + c * c + d * d := by
  have e : normL [a, b, c, d] = (a * a + b * b + c * c + d * d) / 4 := by
    unfold normL
    simp only [List.map_cons, List.map_nil, List.sum_cons, List.sum_nil]
    congr 1
    omega
  rw [e]
  obtain ⟨k1, k2, k3⟩ := k
  have key : ∀ (A B C D' u : Int), (u = 0 ∨ u = 1) → a = 2 * A + u → b = 2 * B + u → c = 2 * C + u → d = 2 * D' + u → ∃ n, a * a + b * b + c * c + d * d = 4 * n := by
    intro A B C D' u hu ha hb hc hd
    subst ha hb hc hd
    refine ⟨A * A + B * B + C * C + D' * D' + u * (A + B + C + D') + u, ?_⟩
    rcases hu with rfl | rfl <;> grind
  obtain ⟨n, hn⟩ := key (a / 2) (b / 2) (c / 2) (d / 2) (a % 2) (by omega) (by omega) (by omega) (by omega) (by omega)
  rw [hn]
  omega
theorem norm_mul {x y : List Int} (hx : isNum x = true) (hy : isNum y = true) : normL (mulL x y) = normL x * normL y := by
  obtain ⟨a, b, c, d, rfl, kx⟩ := num_cases hx
  obtain ⟨e, f, g, h, rfl, ky⟩ := num_cases hy
  obtain ⟨p, q, r, s, ⟨p1, p2, p3, p4⟩, kp, ep⟩ := mul_pr kx ky
  rw [ep]
  have n1 := norm_pr kx
  have n2 := norm_pr ky
  have n3 := norm_pr kp
  have e1 : 4 * (4 * normL [p, q, r, s]) = (2 * p) * (2 * p) + (2 * q) * (2 * q) + (2 * r) * (2 * r) + (2 * s) * (2 * s) := by rw [n3]; grind
  rw [p1, p2, p3, p4] at e1
  have e2 : 16 * (normL [a, b, c, d] * normL [e, f, g, h]) = (4 * normL [a, b, c, d]) * (4 * normL [e, f, g, h]) := by grind
  rw [n1, n2] at e2
  have e3 : (a * e - b * f - c * g - d * h) * (a * e - b * f - c * g - d * h) + (a * f + b * e + c * h - d * g) * (a * f + b * e + c * h - d * g) + (a * g - b * h + c * e + d * f) * (a * g - b * h + c * e + d * f) + (a * h + b * g - c * f + d * e) * (a * h + b * g - c * f + d * e) = (a * a + b * b + c * c + d * d) * (e * e + f * f + g * g + h * h) := by grind
  omega
theorem conj_mul {x y : List Int} (hx : isNum x = true) (hy : isNum y = true) : conjL (mulL x y) = mulL (conjL y) (conjL x) := by
  obtain ⟨a, b, c, d, rfl, kx⟩ := num_cases hx
  obtain ⟨e, f, g, h, rfl, ky⟩ := num_cases hy
  obtain ⟨p, q, r, s, ⟨p1, p2, p3, p4⟩, kp, ep⟩ := mul_pr kx ky
  have kc : Par a (-b) (-c) (-d) := by obtain ⟨k1, k2, k3⟩ := kx; exact ⟨by omega, by omega, by omega⟩
  have kd : Par e (-f) (-g) (-h) := by obtain ⟨k1, k2, k3⟩ := ky; exact ⟨by omega, by omega, by omega⟩
  obtain ⟨A, B, C, D', ⟨a1, a2, a3, a4⟩, _, eA⟩ := mul_pr kd kc
  rw [ep]
  show [p, -q, -r, -s] = mulL [e, -f, -g, -h] [a, -b, -c, -d]
  rw [eA]
  have z1 : A = p := by grind
  have z2 : B = -q := by grind
  have z3 : C = -r := by grind
  have z4 : D' = -s := by grind
  rw [z1, z2, z3, z4]
theorem mul_conj {x : List Int} (hx : isNum x = true) : mulL x (conjL x) = [2 * normL x, 0, 0, 0] ∧ mulL (conjL x) x = [2 * normL x, 0, 0, 0] := by
  obtain ⟨a, b, c, d, rfl, kx⟩ := num_cases hx
  have kc : Par a (-b) (-c) (-d) := by obtain ⟨k1, k2, k3⟩ := kx; exact ⟨by omega, by omega, by omega⟩
  have n1 := norm_pr kx
  obtain ⟨p, q, r, s, ⟨p1, p2, p3, p4⟩, _, ep⟩ := mul_pr kx kc
  obtain ⟨A, B, C, D', ⟨a1, a2, a3, a4⟩, _, eA⟩ := mul_pr kc kx
  constructor
  · show mulL [a, b, c, d] [a, -b, -c, -d] = _
    rw [ep]
    have z1 : p = 2 * normL [a, b, c, d] := by grind
    have z2 : q = 0 := by grind
    have z3 : r = 0 := by grind
    have z4 : s = 0 := by grind
    rw [z1, z2, z3, z4]
  · show mulL [a, -b, -c, -d] [a, b, c, d] = _
    rw [eA]
    have z1 : A = 2 * normL [a, b, c, d] := by grind
    have z2 : B = 0 := by grind
    have z3 : C = 0 := by grind
    have z4 : D' = 0 := by grind
    rw [z1, z2, z3, z4]
theorem mul_int {x : List Int} (m : Int) (hx : isNum x = true) : mulL [2 * m, 0, 0, 0] x = timesL m x ∧ mulL x [2 * m, 0, 0, 0] = timesL m x := by
  obtain ⟨a, b, c, d, rfl, kx⟩ := num_cases hx
  have ki : Par (2 * m) 0 0 0 := ⟨by omega, by omega, by omega⟩
  obtain ⟨p, q, r, s, ⟨p1, p2, p3, p4⟩, _, ep⟩ := mul_pr ki kx
  obtain ⟨A, B, C, D', ⟨a1, a2, a3, a4⟩, _, eA⟩ := mul_pr kx ki
  constructor
  · show _ = [a * m, b * m, c * m, d * m]
    rw [ep]
    have z1 : p = a * m := by grind
    have z2 : q = b * m := by grind
    have z3 : r = c * m := by grind
    have z4 : s = d * m := by grind
    rw [z1, z2, z3, z4]
  · show _ = [a * m, b * m, c * m, d * m]
    rw [eA]
    have z1 : A = a * m := by grind
    have z2 : B = b * m := by grind
    have z3 : C = c * m := by grind
    have z4 : D' = d * m := by grind
    rw [z1, z2, z3, z4]
theorem mul_one' {x : List Int} (hx : isNum x = true) : mulL [2, 0, 0, 0] x = x := by
  have h := (mul_int 1 hx).1
  obtain ⟨a, b, c, d, rfl, kx⟩ := num_cases hx
  have e : timesL 1 [a, b, c, d] = [a, b, c, d] := by
    show [a * 1, b * 1, c * 1, d * 1] = _
    simp
  rw [e] at h
  exact h
theorem norm_nn {x : List Int} (hx : isNum x = true) : 0 ≤ normL x := by
  obtain ⟨a, b, c, d, rfl, kx⟩ := num_cases hx
  have n1 := norm_pr kx
  have sq : ∀ z : Int, 0 ≤ z * z := fun z => by
    rcases Int.le_total 0 z with h | h
    · exact Int.mul_nonneg h h
    · exact Int.mul_nonneg_of_nonpos_of_nonpos h h
  have h1 := sq a; have h2 := sq b; have h3 := sq c; have h4 := sq d
  omega
theorem bt_norm {x : List Int} {m : Nat} (hx : isNum x = true) (h1 : Sm m x) : Bt (m + m + 3) (normL x) := by
  obtain ⟨a, b, c, d, rfl, kx⟩ := num_cases hx
  have A := h1 a (by simp); have B := h1 b (by simp); have C := h1 c (by simp); have D' := h1 d (by simp)
  have h2 := (((A.mul A).add (B.mul B)).add (C.mul C)).add (D'.mul D')
  have e : normL [a, b, c, d] = (a * a + b * b + c * c + d * d) / 4 := by
    unfold normL
    simp only [List.map_cons, List.map_nil, List.sum_cons, List.sum_nil]
    congr 1
    omega
  rw [e]
  have h3 := h2.mono (b := m + m + 3) (by omega)
  unfold Bt at h3 ⊢
  omega
end TB
namespace TB
open PySem L2
/-- a number of at most n bits a part -/
structure G (n : Nat) (x : List Int) : Prop where
  num : isNum x = true
  sm : Sm n x
theorem G.mul {m n : Nat} {x y : List Int} (a : G m x) (b : G n y) : G (m + n + 3) (mulL x y) := ⟨num_mul a.num b.num, sm_mul a.num b.num a.sm b.sm⟩
theorem G.add {m n : Nat} {x y : List Int} (a : G m x) (b : G n y) : G (max m n + 1) (addL x y) := ⟨num_add a.num b.num, sm_add a.num b.num a.sm b.sm⟩
theorem G.conj {m : Nat} {x : List Int} (a : G m x) : G m (conjL x) := ⟨num_conj a.num, sm_conj a.num a.sm⟩
theorem G.drawn {ns : List Int} (h : In9 ns) (p : Nat) : G 100 (numV ns p) := ⟨numV_num ns p, numV_bt h p⟩
theorem r2g {c : Addr} {g : List Int → List Int → D} {m n : Nat} {x y : List Int} (a : G m x) (b : G n y) (h1 : m ≤ 400000 := by decide) (h2 : n ≤ 400000 := by decide) : R2 c g [ti x, ti y] (.v (g x y)) := r2_t (num_len1000 a.num) (num_len1000 b.num) (a.sm.mono h1) (b.sm.mono h2) a.num b.num
theorem r2gl {c : Addr} {g : List Int → List Int → D} {m n : Nat} {x y : List Int} (a : G m x) (b : G n y) (h1 : m ≤ 400000 := by decide) (h2 : n ≤ 400000 := by decide) : R2 c g [li x, li y] (.v (g x y)) := r2_l (num_len1000 a.num) (num_len1000 b.num) (a.sm.mono h1) (b.sm.mono h2) a.num b.num
theorem r1g {c : Addr} {g : List Int → D} {m : Nat} {x : List Int} (a : G m x) (h1 : m ≤ 400000 := by decide) : R1 c g [ti x] (.v (g x)) := r1_t (num_len1000 a.num) (a.sm.mono h1) a.num
theorem r1gl {c : Addr} {g : List Int → D} {m : Nat} {x : List Int} (a : G m x) (h1 : m ≤ 400000 := by decide) : R1 c g [li x] (.v (g x)) := r1_l (num_len1000 a.num) (a.sm.mono h1) a.num
theorem r4g {g : List Int → D} {m : Nat} {x : List Int} (a : G m x) (h1 : m ≤ 400000 := by decide) : R4 g [ti x] (.v (g x)) := ⟨_, x, rfl, .inl rfl, num_len a.num, a.sm.mono h1, rfl⟩
theorem rtg {c : Addr} {m n : Nat} {x : List Int} {z : Int} (a : G m x) (b : Bt n z) (h1 : m ≤ 400000 := by decide) (h2 : n ≤ 400000 := by decide) : RT c [ti x, .int z] (.v (ti (timesL z x))) := ⟨_, x, z, rfl, .inl rfl, num_len1000 a.num, a.sm.mono h1, b.mono h2, by rw [if_pos a.num]⟩
end TB

namespace TB
open PySem L2
section
variable {X : Cx} {W : WX} {F0 H0 : Hp} {Γ Γ1 : List S} {body suite : List Stmt} {b₀ : Stmt} {n x : Str} {i : Nat} {np pos pos' : Pos} {C c : Addr} {so : SO} {y : D}
/-- does an error leave -/
def SO.clean : SO → Prop
  | .x _ _ => False
  | .xf _ _ _ _ => False
  | _ => True
theorem pso_clean {K : PySem.W.Frag} {W W' : WX} {F : Hp} {D' : Ends} (h : so.clean) (q : PSo K W F0 H0 F D' so) : PSo K W' F0 H0 F D' so := by
  cases so with
  | x c g => exact h.elim
  | xf c f x g => exact h.elim
  | _ => exact q
/-- try: .. except C as n: .., nothing is raised -/
theorem js_tryAs (hc : Names X x (.ref C)) (tk : L2.Takes X W) (hN : X.N.Nodup) (hcl : so.clean)
    (hb : ∀ (W' : WX) (pn : List (Addr × Obj)) (xe : Value → Shared → Prop), L2.Takes (X.tr pn xe) W' → PassesOwn (model X.prog X.w) X.A X.env xe → JSs (X.tr pn xe) W' F0 H0 Γ body so)
    (hi : X.N[i]? = some n := by rfl) (hs : X.stack = X.env :: X.outer := by rfl) (hf : X.env.frame = some X.env.locals := by rfl) (hln : X.env.kindOf n = some .local := by rfl) :
    JS X W F0 H0 Γ (.Try body [.ExceptHandler (some (.Name x np)) (some n) (b₀ :: suite) pos'] [] [] pos) so :=
  ps_imp (ps_try_as (tb := fun W' => tS X.K W' F0 H0 Γ so) (ts := fun _ _ _ => tNever) hs hf hN hi hln hc tk hb (fun _ _ _ _ _ _ _ => pss_never)) fun D' σ H ⟨F, ok, q⟩ => ⟨F, ok, pso_clean hcl q⟩
/-- an error of the class c is raised, and the clause takes it; its suite returns -/
theorem js_tryAsX (hc : Names X x (.ref C)) (tk : L2.Takes X W) (hN : X.N.Nodup) (ex : PySem.W.exmOne X.K (.ref c) (.ref C) = some true)
    (hb : ∀ (W' : WX) (pn : List (Addr × Obj)) (xe : Value → Shared → Prop), L2.Takes (X.tr pn xe) W' → PassesOwn (model X.prog X.w) X.A X.env xe → JSs (X.tr pn xe) W' F0 H0 Γ body (.x c Γ1))
    (hsu : ∀ (a : Addr) (oe : Obj) (pn : List (Addr × Obj)), Zc (.ref c) none oe → (∃ vs, oe.data = .fields vs) → JSs (X.suite a ((a, oe) :: pn)) WF F0 H0 (Γ1.set i (.r (.ref a))) (b₀ :: suite) (.rt y))
    (hi : X.N[i]? = some n := by rfl) (hs : X.stack = X.env :: X.outer := by rfl) (hf : X.env.frame = some X.env.locals := by rfl) (hln : X.env.kindOf n = some .local := by rfl) :
    JS X W F0 H0 Γ (.Try body [.ExceptHandler (some (.Name x np)) (some n) (b₀ :: suite) pos'] [] [] pos) (.rt y) :=
  ps_imp (ps_try_as (tb := fun W' => tS X.K W' F0 H0 Γ (.x c Γ1)) (ts := fun a cls d D' σ H => cls = .ref c ∧ d = none ∧ tS X.K WF F0 H0 (Γ1.set i (.r (.ref a))) (.rt y) D' σ H) hs hf hN hi hln hc tk hb (fun a oe cls d pn hz hfl => ⟨fun pins s σ H D' I ⟨e1, e2, t⟩ => by
    subst e1 e2
    exact (hsu a oe pn hz hfl).run pins s σ H D' I t⟩)) fun D' σ H ⟨F, ok, q⟩ => ⟨F, ok, fun σ' F' H' e ok' => ⟨true, ex, fun _ a _ => ⟨rfl, rfl, F', ok'.setR i _, fun v F2 H2 e2 z d => q v F2 H2 (e.trans e2) z d⟩, fun z => Bool.noConfusion z⟩⟩
/-- isinstance(e, T), e the error that the suite holds -/
theorem je_isE {a : Addr} {oe : Obj} {pn : List (Addr × Obj)} {cv : Value} {cx : V} {b : Bool} {ipos np2 : Pos} {e2 : Expr} (E0' : ExcC X.K c) (hz : Zc (.ref c) none oe) (hfl : ∃ vs, oe.data = .fields vs) (hm : X.mg "isinstance" = none)
    (g : Γ[i]? = some (.r (.ref a))) (hcv : ∀ u, RelV cx u → u = cv) (hk : PySem.W.kitOne X.K (.ref c) cv = some b) (he2 : PE (X.suite a ((a, oe) :: pn)) e2 (tC cx))
    (hN : X.N[i]? = some n := by rfl) (hv : Vis X.env.scope n := by first | exact Or.inl rfl | exact Or.inr (Or.inl rfl) | exact Or.inr (Or.inr rfl)) (hg : Gl X "isinstance" := by rfl) (hd : (n == ("__debug__" : Str)) = false := by decide) (hcd : (n == ("__classdict__" : Str)) = false := by decide)
    (s2 : starEach [.Name n np, e2] X.env = (false, eval (.Name n np) X.env) :: starEach [e2] X.env := by rfl) (s1 : starEach [e2] X.env = (false, eval e2 X.env) :: starEach [] X.env := by rfl) (hpl : (backTo ipos (starEach [e2] X.env)).any (·.1) = false := by rfl) :
    JE (X.suite a ((a, oe) :: pn)) W F0 H0 Γ (.Call (.Name "isinstance" np2) [.Name n np, e2] [] ipos) (.v (.bool b)) :=
  pe_imp (pe_callB (X := X.suite a ((a, oe) :: pn)) (call_isE E0' hz hfl) hg hm (by decide +kernel) (pa_cons (pe_var (X := X.suite a ((a, oe) :: pn)) hN hv hd hcd) (pa_cons he2 pa_nil s1) s2) (by decide) (by decide) s2 hpl) fun σ H Q ⟨F, ok, q⟩ =>
    ⟨_, ok.raw g, cx, cv, b, rfl, hcv, hk, q _ F H (Fz.refl ok.fh) (.bl b)⟩
end
section
variable {X : Cx} {W : WX} {F0 H0 : Hp} {Γ : List S} {a b e : Expr} {x y : D} {pos np : Pos} {p q : Bool} {ds : List D}
/-- is, is not, of two truth values; of anything else and a truth value -/
theorem rd_isB {K : PySem.W.Frag} : RD K rIsB (.bool p) (.bool q) (.bool (decide (p = q))) := fun v u F H Q s d1 d2 k => by
  cases d1; cases d2
  exact ⟨p, q, rfl, rfl, k _ F H (Fz.refl s) (.bl _)⟩
theorem rd_notB {K : PySem.W.Frag} : RD K rNotB (.bool p) (.bool q) (.bool (!decide (p = q))) := fun v u F H Q s d1 d2 k => by
  cases d1; cases d2
  exact ⟨p, q, rfl, rfl, k _ F H (Fz.refl s) (.bl _)⟩
theorem jt_notB (ha : JE X WF F0 H0 Γ a (.v (.bool p))) (hb : JE X WF F0 H0 Γ b (.v (.bool q))) : JT X F0 H0 Γ (.Compare a [.IsNot] [b] pos) (!decide (p = q)) := jt_cmp op_notBl rd_notB ha hb (nomark _)
theorem je_isB (ha : JE X W F0 H0 Γ a (.v (.bool p))) (hb : JE X W F0 H0 Γ b (.v (.bool q))) : JE X W F0 H0 Γ (.Compare a [.Is] [b] pos) (.v (.bool (decide (p = q)))) := je_cmp op_isBl rd_isB ha hb (nomark _)
theorem jt_isB (ha : JE X WF F0 H0 Γ a (.v (.bool p))) (hb : JE X WF F0 H0 Γ b (.v (.bool q))) : JT X F0 H0 Γ (.Compare a [.Is] [b] pos) (decide (p = q)) := jt_cmp op_isBl rd_isB ha hb (nomark _)
def notNone : D → Bool
  | .none => false
  | _ => true
theorem rd_notN' {K : PySem.W.Frag} : RD K (fun x y H Q => y = .non ∧ Q (.bl (!decide (x = .non))) H) x .none (.bool (notNone x)) := fun v u F H Q s d1 d2 q => by
  cases d2
  refine ⟨rfl, q _ F H (Fz.refl s) ?_⟩
  cases d1 <;> exact .bl _
theorem jt_notN (ha : JE X WF F0 H0 Γ a (.v x)) (hb : JE X WF F0 H0 Γ b (.v .none)) : JT X F0 H0 Γ (.Compare a [.IsNot] [b] pos) (notNone x) := jt_cmp op_notN rd_notN' ha hb (nomark _)
/-- isinstance(x, T), T a built-in class -/
inductive TyD : D → String → Prop
  | non : TyD .none "NoneType"
  | bl (b : Bool) : TyD (.bool b) "bool"
  | int (i : Int) : TyD (.int i) "int"
  | str (t : Str) : TyD (.str t) "str"
theorem rc_isi {K : PySem.W.Frag} {T : String} {t : String} {r : Bool} (ht : TyD x t) (hk : kitB t T = some r) : ∀ (v : V) (F H : Hp) (Q : VK), Ex F H → Dp K F v x → Po K F H Q E0 (.v (.bool r)) → rIsi K [v, .ty T] H Q := fun v F H Q s d q => by
  have fin : ∀ {v : V}, TyOf K H v (.type t) → rIsi K [v, .ty T] H Q := fun {v} h => ⟨v, .ty T, .type t, .type T, r, rfl, .ty T, .base h, kit_ty hk, q _ F H (Fz.refl s) (.bl r)⟩
  cases ht with
  | non => cases d; exact fin .non
  | bl b => cases d; exact fin (.bl b)
  | int i => cases d; exact fin (.int i)
  | str z => cases d; exact fin (.str z)
theorem je_isi {T : String} {n : Str} {t : String} {r : Bool} {np2 : Pos} (ht : TyD x t) (hk : kitB t T = some r) (hm : X.mg "isinstance" = none) (hm2 : X.mg n = none) (hv : bootBuiltins n = some (.type T)) (ha : JE X W F0 H0 Γ a (.v x)) (hg : Gl X "isinstance" := by rfl) (hg2 : Gl X n := by rfl)
    (hn : n ≠ "__name__" := by decide) (hdb : (n == ("__debug__" : Str)) = false := by decide)
    (s2 : starEach [a, .Name n np2] X.env = (false, eval a X.env) :: starEach [.Name n np2] X.env := by rfl) (s1 : starEach [.Name n np2] X.env = (false, eval (.Name n np2) X.env) :: starEach [] X.env := by rfl) (hpl : (backTo pos (starEach [.Name n np2] X.env)).any (·.1) = false := by rfl) :
    JE X W F0 H0 Γ (.Call (.Name "isinstance" np) [a, .Name n np2] [] pos) (.v (.bool r)) :=
  pe_imp (pe_callB call_isi hg hm (by decide +kernel) (pa_cons ha (pa_cons (pe_bltn (v := .ty T) hg2 hm2 hv rfl hn hdb) pa_nil s1) s2) (by decide) (by decide) s2 hpl) fun σ H Q ⟨F, ok, q⟩ => ⟨F, ok, fun v F1 H1 z1 d1 => rc_isi ht hk v F1 H1 Q z1.s d1 (po_mono z1 (show Po X.K F H Q E0 (.v (.bool r)) from q))⟩
end
end TB
namespace TB
open PySem L2
section
variable {X : Cx} {W : WX} {F0 H0 : Hp} {Γ : List S} {a b e : Expr} {x y : D} {pos np : Pos} {p q : Bool} {ds : List D} {c : Addr} {op : CmpOp}
/-- the first operand raises -/
theorem je_eqX (ha : JE X W F0 H0 Γ a (.x c)) (hm : behindInMarks .Eq b = false := by exact nomark _) : JE X W F0 H0 Γ (.Compare a [.Eq] [b] pos) (.x c) :=
  pe_imp (pe_cmpR op_eq ha (tb := fun _ _ _ => False) ⟨fun _ _ _ _ _ _ h => h.elim⟩ hm) fun σ H Q ⟨F, ok, q⟩ => ⟨F, ok, q⟩
theorem eqv_refl : ∀ d : D, SeqAt.shaped d = true → PyData.eqv d d = true := fun d h => SeqAt.eqv_refl d (SeqAt.canLay_of_shaped h)
theorem at_d {ds : List D} {i : Nat} {z : Int} (hz : z = (i : Int)) (h : i < ds.length) : atI ds z = some (ds.getD i .none) := by
  subst hz
  refine atI_nat ?_
  rw [List.getElem?_eq_getElem h, List.getD_eq_getElem?_getD, List.getElem?_eq_getElem h]
  rfl
end
end TB

namespace TB
open PySem L2
def negL (ns : List Int) : List Int := ns.map fun p => -p
theorem par_mul {a b c d : Int} (m : Int) (k : Par a b c d) : Par (a * m) (b * m) (c * m) (d * m) := by
  obtain ⟨k1, k2, k3⟩ := k
  exact ⟨by rw [Int.mul_emod, k1, ← Int.mul_emod], by rw [Int.mul_emod, k2, ← Int.mul_emod], by rw [Int.mul_emod, k3, ← Int.mul_emod]⟩
theorem G.times {m n : Nat} {x : List Int} {z : Int} (a : G m x) (b : Bt n z) : G (m + n) (timesL z x) := by
  refine ⟨?_, fun y hy => ?_⟩
  · obtain ⟨p, q, r, s, rfl, k⟩ := num_cases a.num
    exact isNum_of (par_mul z k)
  · obtain ⟨p, hp, rfl⟩ := List.mem_map.mp hy
    exact (a.sm p hp).mul b
theorem G.neg {m : Nat} {x : List Int} (a : G m x) : G m (negL x) := by
  refine ⟨?_, fun y hy => ?_⟩
  · obtain ⟨p, q, r, s, rfl, k⟩ := num_cases a.num
    obtain ⟨k1, k2, k3⟩ := k
    exact isNum_of (a := -p) (b := -q) (c := -r) (d := -s) ⟨by omega, by omega, by omega⟩
  · obtain ⟨p, hp, rfl⟩ := List.mem_map.mp hy
    exact (a.sm p hp).neg
theorem sub_self {x : List Int} (h : isNum x = true) : subL x x = [0, 0, 0, 0] := by
  obtain ⟨p, q, r, s, rfl, k⟩ := num_cases h
  show [p - p, q - q, r - r, s - s] = _
  simp
theorem add_neg {x : List Int} (h : isNum x = true) : addL x (negL x) = [0, 0, 0, 0] := by
  obtain ⟨p, q, r, s, rfl, k⟩ := num_cases h
  show [p + -p, q + -q, r + -r, s + -s] = _
  simp [Int.add_right_neg]
theorem conj_conj {x : List Int} (h : isNum x = true) : conjL (conjL x) = x := by
  obtain ⟨p, q, r, s, rfl, k⟩ := num_cases h
  show [p, - -q, - -r, - -s] = _
  simp
theorem norm_times {x : List Int} (m : Int) (h : isNum x = true) : normL (timesL m x) = m * m * normL x := by
  obtain ⟨p, q, r, s, rfl, k⟩ := num_cases h
  have e1 := norm_pr k
  have k2 : Par (p * m) (q * m) (r * m) (s * m) := par_mul m k
  have e2 := norm_pr k2
  show normL [p * m, q * m, r * m, s * m] = _
  grind
theorem norm_sum {x : List Int} (h : isNum x = true) : normL x * 4 = (x.map fun p => p * p).sum := by
  obtain ⟨p, q, r, s, rfl, k⟩ := num_cases h
  have e1 := norm_pr k
  show normL [p, q, r, s] * 4 = p * p + (q * q + (r * r + (s * s + 0)))
  omega
theorem times_comm (m : Int) (x : List Int) : (x.map fun p => m * p) = timesL m x := List.map_congr_left fun p _ => Int.mul_comm m p
theorem neg_zero_sub (x : List Int) : (x.map fun p => 0 - p) = negL x := List.map_congr_left fun p _ => Int.zero_sub p
theorem rng_add {x y : List Int} (hx : x.length = 4) (hy : y.length = 4) : ((List.range 4).map fun k => PyData.int (x.getD k 0 + y.getD k 0)) = (addL x y).map .int := by
  obtain ⟨a, b, c, d, rfl⟩ := four hx
  obtain ⟨e, f, g, h, rfl⟩ := four hy
  rfl
theorem rng_sub {x y : List Int} (hx : x.length = 4) (hy : y.length = 4) : ((List.range 4).map fun k => PyData.int (x.getD k 0 - y.getD k 0)) = (subL x y).map .int := by
  obtain ⟨a, b, c, d, rfl⟩ := four hx
  obtain ⟨e, f, g, h, rfl⟩ := four hy
  rfl
theorem bt_getD {n : Nat} : ∀ {l : List Int} {i : Nat}, (∀ x ∈ l, Bt n x) → i < l.length → Bt n (l.getD i 0) := fun {l i} h hi => by
  rw [List.getD_eq_getElem?_getD, List.getElem?_eq_getElem hi]
  exact h _ (List.getElem_mem hi)
def bads : List (List Int) := [[1, 2, 1, 1], [2, 2, 2], [], [0, 0, 0, 1], [3, 3, 3, 3, 3]]
theorem bad_num : ∀ j, j < 5 → isNum (bads.getD j []) = false ∧ (bads.getD j []).length < 1000 ∧ ∀ x ∈ bads.getD j [], x.natAbs < 2 ^ 2 := by decide
theorem bad_sm {j : Nat} (h : j < 5) : Sm 400000 (bads.getD j []) := fun x hx => ((show Bt 2 x from (bad_num j h).2.2 x hx)).mono (by decide)
theorem at_bad {z : Int} {j : Nat} (hz : z = (j : Int)) (h : j < 5) : atI (bads.map ti) z = some (ti (bads.getD j [])) := by
  subst hz
  refine atI_nat ?_
  have hl : j < bads.length := h
  rw [List.getElem?_map, List.getElem?_eq_getElem hl, List.getD_eq_getElem?_getD, List.getElem?_eq_getElem hl]
  rfl
theorem sh_num : SeqAt.shaped (.str "number") = true := by decide +kernel
def lconj : List Int → List Int
  | [a, b, c, d] => [a, 0 - b, 0 - c, 0 - d]
  | _ => []
theorem lconj_eq {x : List Int} (h : x.length = 4) : lconj x = conjL x := by
  obtain ⟨a, b, c, d, rfl⟩ := four h
  show [a, 0 - b, 0 - c, 0 - d] = [a, -b, -c, -d]
  simp
def valT (k : Nat) (ns ms : List Int) : D := match k with
  | 0 => ti (addL ns ms)
  | 1 => ti (subL ns ms)
  | 2 => ti (timesL 3 ns)
  | 3 => ti (negL ns)
  | 4 => ti (conjL ns)
  | 5 => .int (normL ns)
  | _ => .bool (decide (normL ns = 1))
def okT (k : Nat) (ns ms : List Int) : Bool := isNum ns && (decide (2 ≤ k) || isNum ms)
def toldT (k : Nat) (ns ms : List Int) : D := if okT k ns ms = true then valT k ns ms else .str "number"
theorem toldT_ok {k : Nat} {ns ms : List Int} (h : isNum ns = true) (g : isNum ms = true) : toldT k ns ms = valT k ns ms := by unfold toldT okT; rw [h, g, Bool.or_true]; rfl
theorem toldT_bad {k : Nat} {ns ms : List Int} (h : isNum ns = false) : toldT k ns ms = .str "number" := by unfold toldT okT; rw [h]; rfl
theorem toldT_bad2 {k : Nat} {ns ms : List Int} (hk : k < 2) (h : isNum ms = false) : toldT k ns ms = .str "number" := by
  unfold toldT okT
  rw [h, decide_eq_false (by omega : ¬ 2 ≤ k), Bool.or_false, Bool.and_false]
  rfl
theorem sh_valT (k : Nat) (ns ms : List Int) : SeqAt.shaped (valT k ns ms) = true := by
  unfold valT
  split <;> first | exact sh_ti _ | exact sh_int _ | exact sh_bool _
def dueL (ns ms : List Int) : List D := (List.range 7).map fun k => valT k ns ms
theorem at_due {ns ms : List Int} {k : Nat} {z : Int} (hz : z = (k : Int)) (h : k < 7) : atI (dueL ns ms) z = some (valT k ns ms) := by
  subst hz
  refine atI_nat ?_
  unfold dueL
  rw [List.getElem?_map, List.getElem?_range h]
  rfl
theorem kit_own {K : PySem.W.Frag} {c C : Addr} {b : Bool} (hne : (Value.ref c == Value.ref C) = false) (hd : PySem.W.hasDictIn K C = true) (ht : PySem.W.typeIn K (.ref C) = some (.type "type")) (h4 : PySem.W.subIn K (.ref c) (.ref C) = some b) : PySem.W.kitOne K (.ref c) (.ref C) = some b := by
  have hc : (PySem.W.clsIn K C).isSome = true := by
    unfold PySem.W.hasDictIn at hd
    cases h : PySem.W.clsIn K C with
    | none => rw [h] at hd; cases hd
    | some cd => rfl
  unfold PySem.W.kitOne PySem.W.kitCls
  rw [if_neg (by rw [hne]; exact Bool.false_ne_true)]
  show (if ((PySem.W.clsIn K C).isSome && PySem.W.typeIn K (.ref C) == some (.type "type")) = true then PySem.W.subIn K (.ref c) (.ref C) else none) = some b
  rw [if_pos (by rw [hc, ht]; rfl)]
  exact h4
theorem kit_blt {K : PySem.W.Frag} {c : Addr} {T : String} {b : Bool} (hm : PySem.W.kitMeta T = true) (h4 : PySem.W.subIn K (.ref c) (.type T) = some b) : PySem.W.kitOne K (.ref c) (.type T) = some b := by
  unfold PySem.W.kitOne PySem.W.kitCls
  rw [if_neg (by exact Bool.false_ne_true)]
  show (if PySem.W.kitMeta T = true then PySem.W.subIn K (.ref c) (.type T) else none) = some b
  rw [if_pos hm]
  exact h4
end TB

namespace TB
open PySem L2
section
variable {X : Cx} {W : WX} {F0 H0 : Hp} {Γ : List S} {elt it : Expr} {n : Str} {py pos : Pos} {scope : Scope} {xs : List (List Int)}
theorem je_lcT (i : Nat) {f : List Int → D} (hc : X.calm = true) (hN : X.N.Nodup) (hi : JI X F0 H0 Γ (.Name n py) it (xs.map ti)) (ok : BlkOk X.N X.env.scope scope [(n, i)]) (hl : xs.length < 100000)
    (hg : ∀ (s : Shared) (H : Hp) (C : Addr) (cl : List (Str × Addr)) (fp : List Addr), PG (Bk X s H scope C cl fp) (.Name n py) (gName i))
    (he : ∀ x : List Int, x ∈ xs → ∀ (s : Shared) (H : Hp) (C : Addr) (cl : List (Str × Addr)) (fp : List Addr), JE (Bk X s H scope C cl fp) WF F0 H0 (Γ.set i (.d (ti x))) elt (.v (f x))) (hs : ∀ x, foldedSetIterable it X.env x = pure x := by intro _; rfl) :
    JE X W F0 H0 Γ (.ListComp elt [⟨.Name n py, it, [], 0⟩] scope pos) (.o (xs.map f)) := by
  let un : D → List Int := fun d => match d with | .tuple ds => ds.map ofI | _ => []
  have hun : ∀ x, un (ti x) = x := fun x => by
    show (x.map PyData.int).map ofI = x
    rw [List.map_map]
    exact List.map_id x
  have q := je_lc (W := W) (pos := pos) i (f := fun d => f (un d)) hc hN hi ok (by rw [List.length_map]; exact hl) hg (fun d hd s H C cl fp => by
    obtain ⟨x, hx, rfl⟩ := List.mem_map.mp hd
    rw [hun]
    exact he x hx s H C cl fp) hs
  rw [List.map_map] at q
  have e : ((fun d => f (un d)) ∘ ti) = f := funext fun x => by show f (un (ti x)) = f x; rw [hun]
  rw [e] at q
  exact q
end
theorem lay_ti (x : List Int) : PyData.canLay0 (ti x) = true ∧ PyData.depth (ti x) ≤ 2 := by
  have h := lay_ints x
  have h2 := h.2
  simp only [ti, PyData.canLay0, PyData.depth, h.1]
  exact ⟨trivial, by omega⟩
theorem lay_tis : ∀ xs : List (List Int), PyData.canLayAll0 (xs.map ti) = true ∧ PyData.depthAll (xs.map ti) ≤ 2
  | [] => by simp [PyData.canLayAll0, PyData.depthAll]
  | x :: xs => by
    have h := lay_tis xs
    have g := lay_ti x
    simp only [List.map_cons, PyData.canLayAll0, PyData.depthAll, h.1, g.1]
    refine ⟨rfl, ?_⟩
    have h2 := h.2
    have g2 := g.2
    omega
theorem sh_lti (xs : List (List Int)) : SeqAt.shaped (.list (xs.map ti)) = true := by
  have h := lay_tis xs
  have h2 := h.2
  simp only [SeqAt.shaped, PyData.canLay0, PyData.depth, h.1, Bool.true_and]
  exact decide_eq_true (by omega)
theorem dp_k4 {K : PySem.W.Frag} {a : Addr} {od : Option Addr} {x y z t : Int} {u1 u2 u3 u4 : Tok} {n : Nat} {sl : Array (Option Value)} (h : K.lookup a = some ⟨.type "tuple", od, .seq #[.int x u1, .int y u2, .int z u3, .int t u4] n, sl⟩) : ∀ F, Dp K F (.ref a) (ti [x, y, z, t]) := fun F =>
  .tup (xs := [.int x, .int y, .int z, .int t]) (.inr ⟨_, _, _, h, rfl, rfl, (by show 4 ≤ sizeLine; decide), .cons ⟨_, rfl⟩ (.cons ⟨_, rfl⟩ (.cons ⟨_, rfl⟩ (.cons ⟨_, rfl⟩ .nil)))⟩) (da_of_ints [x, y, z, t])
/-! a product by the table of the rules -/
def tabs : List (List Int) := [[0, 1, 2, 3], [1, 0, 3, 2], [2, 3, 0, 1], [3, 2, 1, 0]]
def sgns : List (List Int) := [[1, 1, 1, 1], [1, -1, 1, -1], [1, -1, -1, 1], [1, 1, -1, -1]]
theorem tabs_ok : ∀ k, k < 4 → (tabs.getD k []).length = 4 ∧ (sgns.getD k []).length = 4 ∧ ∀ n, n < 4 → (0 ≤ (tabs.getD k []).getD n 0 ∧ (tabs.getD k []).getD n 0 < 4) ∧ ((sgns.getD k []).getD n 0).natAbs < 2 ^ 1 := by decide
theorem at_lis {xs : List (List Int)} {i : Nat} {z : Int} (hz : z = (i : Int)) (h : i < xs.length) : atI (xs.map li) z = some (li (xs.getD i [])) := by
  subst hz
  refine atI_nat ?_
  rw [List.getElem?_map, List.getElem?_eq_getElem h, List.getD_eq_getElem?_getD, List.getElem?_eq_getElem h]
  rfl
def tbv (k n : Nat) : Nat := ((tabs.getD k []).getD n 0).toNat
def stepT (a b : List Int) (k n : Nat) (l : List Int) : List Int := l.set (tbv k n) (l.getD (tbv k n) 0 + (sgns.getD k []).getD n 0 * a.getD k 0 * b.getD n 0)
def rowT (a b : List Int) (k : Nat) (l : List Int) : Nat → List Int
  | 0 => l
  | n + 1 => stepT a b k n (rowT a b k l n)
def fndT (a b : List Int) : Nat → List Int
  | 0 => [0, 0, 0, 0]
  | k + 1 => rowT a b k (fndT a b k) 4
theorem rowT_len (a b : List Int) (k : Nat) (l : List Int) : ∀ n, (rowT a b k l n).length = l.length
  | 0 => rfl
  | n + 1 => by show (stepT a b k n (rowT a b k l n)).length = _; unfold stepT; rw [List.length_set, rowT_len a b k l n]
theorem fndT_len (a b : List Int) : ∀ k, (fndT a b k).length = 4
  | 0 => rfl
  | k + 1 => by show (rowT a b k (fndT a b k) 4).length = 4; rw [rowT_len, fndT_len a b k]
theorem fndT_mul {x y : List Int} (hx : x.length = 4) (hy : y.length = 4) : (fndT x y 4).map (· / 2) = mulL x y := by
  obtain ⟨a, b, c, d, rfl⟩ := four hx
  obtain ⟨e, f, g, h, rfl⟩ := four hy
  have q : fndT [a, b, c, d] [e, f, g, h] 4 = [0 + 1 * a * e + -1 * b * f + -1 * c * g + -1 * d * h, 0 + 1 * a * f + 1 * b * e + 1 * c * h + -1 * d * g, 0 + 1 * a * g + -1 * b * h + 1 * c * e + 1 * d * f, 0 + 1 * a * h + 1 * b * g + -1 * c * f + 1 * d * e] := rfl
  rw [q]
  have q1 : 0 + 1 * a * e + -1 * b * f + -1 * c * g + -1 * d * h = a * e - b * f - c * g - d * h := by grind
  have q2 : 0 + 1 * a * f + 1 * b * e + 1 * c * h + -1 * d * g = a * f + b * e + c * h - d * g := by grind
  have q3 : 0 + 1 * a * g + -1 * b * h + 1 * c * e + 1 * d * f = a * g - b * h + c * e + d * f := by grind
  have q4 : 0 + 1 * a * h + 1 * b * g + -1 * c * f + 1 * d * e = a * h + b * g - c * f + d * e := by grind
  rw [q1, q2, q3, q4]
  rfl
/-! the product of a list -/
def prodK (xs : List (List Int)) (k : Nat) : List Int := (xs.take k).foldl mulL [2, 0, 0, 0]
theorem prodK_succ {xs : List (List Int)} {k : Nat} (h : k < xs.length) : prodK xs (k + 1) = mulL (prodK xs k) (xs.getD k []) := by
  unfold prodK
  rw [List.take_succ, List.getElem?_eq_getElem h, List.foldl_append, List.getD_eq_getElem?_getD, List.getElem?_eq_getElem h]
  rfl
theorem getD_mem {xs : List (List Int)} {k : Nat} (h : k < xs.length) : xs.getD k [] ∈ xs := by
  rw [List.getD_eq_getElem?_getD, List.getElem?_eq_getElem h]
  exact List.getElem_mem h
theorem prodK_G {xs : List (List Int)} (hx : ∀ x ∈ xs, G 1000 x) : ∀ k, k ≤ xs.length → G (2 + k * 1003) (prodK xs k)
  | 0, _ => ⟨isNum_of ⟨rfl, rfl, rfl⟩, fun x hx => by
      have : x = 2 ∨ x = 0 := by simpa [prodK] using hx
      unfold Bt
      omega⟩
  | k + 1, h => by
    rw [prodK_succ h]
    have := (prodK_G hx k (by omega)).mul (hx _ (getD_mem h))
    have e : 2 + k * 1003 + 1000 + 3 = 2 + (k + 1) * 1003 := by omega
    rw [e] at this
    exact this
theorem prodK_all (xs : List (List Int)) : prodK xs xs.length = xs.foldl mulL [2, 0, 0, 0] := by unfold prodK; rw [List.take_length]
theorem tis_get {xs : List (List Int)} {k : Nat} {d : D} (h : (xs.map ti)[k]? = some d) : k < xs.length ∧ d = ti (xs.getD k []) := by
  have hk := (List.getElem?_eq_some_iff.mp h).1
  rw [List.length_map] at hk
  refine ⟨hk, ?_⟩
  rw [List.getElem?_map, List.getElem?_eq_getElem hk] at h
  rw [List.getD_eq_getElem?_getD, List.getElem?_eq_getElem hk]
  exact (Option.some.inj h).symm
def R_po (c : Addr) : List D → Out → Prop := fun ds o => ∃ xs : List (List Int), ds = [.list (xs.map ti)] ∧ xs.length ≤ 10 ∧ (∀ x ∈ xs, x.length < 1000 ∧ Sm 1000 x) ∧ o = if xs.all isNum = true then .v (ti (xs.foldl mulL [2, 0, 0, 0])) else .x c
theorem first_bad {xs : List (List Int)} (h : ¬ xs.all isNum = true) : ∃ m, m < xs.length ∧ isNum (xs.getD m []) = false ∧ ∀ k, k < m → isNum (xs.getD k []) = true := by
  have hm : xs.findIdx (fun x => !isNum x) < xs.length := by
    rw [List.findIdx_lt_length]
    simpa using h
  refine ⟨_, hm, ?_, fun k hk => ?_⟩
  · have := List.findIdx_getElem (w := hm)
    rw [List.getD_eq_getElem?_getD, List.getElem?_eq_getElem hm]
    simpa using this
  · have h2 := List.not_of_lt_findIdx hk
    rw [List.getD_eq_getElem?_getD, List.getElem?_eq_getElem (by omega)]
    simpa using h2
theorem r_po {c : Addr} {xs : List (List Int)} (hl : xs.length ≤ 10) (h : ∀ x ∈ xs, G 1000 x) : R_po c [.list (xs.map ti)] (.v (ti (xs.foldl mulL [2, 0, 0, 0]))) :=
  ⟨xs, rfl, hl, fun x hx => ⟨num_len1000 (h x hx).num, (h x hx).sm⟩, by rw [if_pos (List.all_eq_true.mpr fun x hx => (h x hx).num)]⟩
end TB
namespace TB
def namesL : List (List Int) := [[2, 0, 0, 0], [0, 2, 0, 0], [0, 0, 2, 0], [0, 0, 0, 2]]
theorem names_G : ∀ x, x ∈ namesL → G 1000 x := fun x hx => by
  have h : isNum x = true ∧ ∀ y ∈ x, y.natAbs < 2 ^ 2 := (by decide : ∀ x ∈ namesL, isNum x = true ∧ ∀ y ∈ x, y.natAbs < 2 ^ 2) x hx
  exact ⟨h.1, fun y hy => (show Bt 2 y from h.2 y hy).mono (by decide)⟩
theorem gmono {m n : Nat} {x : List Int} (g : G m x) (h : m ≤ n := by decide) : G n x := ⟨g.num, g.sm.mono h⟩
theorem bad_sm1 {j : Nat} (h : j < 5) : Sm 1000 (bads.getD j []) := fun x hx => ((show Bt 2 x from (bad_num j h).2.2 x hx)).mono (by decide)
end TB

namespace TB
open PySem L2 PySem.Spec PyProof.Rows
/-- a suite that returns, or never ends -/
def onlyRt (D : Ends) : Ends := ⟨fun _ _ => False, D.rt, fun _ _ => False, fun _ _ => False⟩
abbrev Cl := Value × (Addr → Value → Option Addr → TS)
/-- clauses 'except C as n', one after the other: what an exception of the body must bring -/
def wClauses (K : PySem.W.Frag) (i : Nat) (O : WX) (D : Ends) : List Cl → WX
  | [] => O
  | q :: l => fun k d σ H => ∃ b, PySem.W.exmOne K k q.1 = some b
      ∧ (b = true → ∀ a, H a = none → q.2 a k d (onlyRt D) (σ.set i (some (.ref a))) H)
      ∧ (b = false → wClauses K i O D l k d σ H)
inductive Clauses (X : Cx) (n : Str) : List ExceptHandler → List Cl → Prop
  | nil : Clauses X n [] []
  | cons {x : Str} {q : Cl} {b₀ : Stmt} {suite : List Stmt} {p p' : Pos} {es : List ExceptHandler} {l : List Cl} (nm : Names X x q.1)
      (su : ∀ (a : Addr) (oe : Obj) (k : Value) (d : Option Addr) (pn : List (Addr × Obj)), Zc k d oe → (∃ vs, oe.data = .fields vs) →
        PSs (X.suite a ((a, oe) :: pn)) (b₀ :: suite) (q.2 a k d))
      (t : Clauses X n es l) : Clauses X n (.ExceptHandler (some (.Name x p)) (some n) (b₀ :: suite) p' :: es) (q :: l)
section
variable {X : Cx} {n : Str} {i : Nat} {body : List Stmt} {e₀ : ExceptHandler} {es : List ExceptHandler} {l : List Cl} {pos : Pos} {tb : WX → TS} {O : WX}
theorem ps_clauses (st : X.stack = X.env :: X.outer) (fr : X.env.frame = some X.env.locals) (nd : X.N.Nodup) (hi : X.N[i]? = some n) (kl : X.env.kindOf n = some .local) (tk : L2.Takes X O)
    (hb : ∀ (W : WX) (pn : List (Addr × Obj)) (xe : Value → Shared → Prop), L2.Takes (X.tr pn xe) W →
      PassesOwn (model X.prog X.w) X.A X.env xe → PSs (X.tr pn xe) body (tb W))
    (cl : Clauses X n (e₀ :: es) l) : PS X (.Try body (e₀ :: es) [] [] pos) (fun D σ H => tb (wClauses X.K i O D l) D σ H) := by
  refine ⟨fun pins s σ H D I wish => ?_⟩
  have ok := I.ok
  have loc : Loc X.env.scope n := .inl kl
  have hfr : X.A.frames = some (X.env :: X.outer) := by
    rw [ok.frames, st]
  refine wpAny_Try_except (wpAny_mono ((hb (wClauses X.K i O D l) (X.pn ++ pins) _
    (fun u s1 caught => ?_) PassesOwn.looking).run [] s σ H D (I.toTry _) wish) (fun fl s1 out => ?_) (fun _ _ left => left))
  · obtain ⟨a, B, s0, _, σ1, H1, k, d, rfl, J0, nb, up, sk, na, os, ag, wi⟩ := caught
    have J : Inv X pins σ1 H1 s0 := J0.ofTry ok
    have sk2 : Sky B (X.env :: X.outer) a (Zc k d) X.env.locals s1.heap := by
      rw [← st]
      exact sk
    show wpAny (model X.prog X.w) X.A (noteFrame (.ref a) X.env) _ _ _
    refine Sky.land Zc.steady hfr fr sk2 fun hA lA uA => ?_
    have JA : Inv X pins σ1 H1 { s1 with heap := hA } := J.landed nb lA.1 (up.trans uA) os ag
    obtain ⟨oA, vA, eA, zA, dA⟩ := lA.there
    have out : a ∉ frs (X.env :: X.outer) := fun m => by
      obtain ⟨_, o2, e2, no⟩ := lA.2.2.1.mem m
      cases eA.symm.trans e2
      exact no _ dA
    have nL : a ≠ X.env.locals := fun z =>
      out (List.mem_filterMap.mpr ⟨X.env, List.mem_cons_self, by rw [fr, z]⟩)
    have nF : a ∉ X.fs := fun m => by
      obtain ⟨e, he, w⟩ := List.mem_filterMap.mp m
      exact out (List.mem_filterMap.mpr ⟨e, List.mem_cons_of_mem _ he, w⟩)
    have SA := JA.suite eA dA na nL nF
    clear hb
    generalize e₀ :: es = hs at cl ⊢
    clear wish
    induction cl with
    | nil =>
      refine wpAny_handleBy_nil ?_
      obtain ⟨_, _, _, oe, vs, T, _, _, he, _, hd, h1, _⟩ := id lA
      unfold PySem.passOn
      refine wpAny_bind (wpAny_field he hd h1 ?_)
      rw [if_neg (show ¬ ((Value.ref T == Value.none) = true) from by simp)]
      have fin : wpAny (model X.prog X.w) X.A (setFlight (.ref a) X.env.frame)
          (fun _ s4 => wpAny (model X.prog X.w) X.A (throw (.ref a) : Sem Flow) (SP X pins D) X.xe s4) X.xe { s1 with heap := hA } := by
        rw [fr]
        refine HandSPX.setFlight_upZ lA fun h4 sk4 u4 => wpAny_throw (tk _ _ ?_)
        refine ⟨a, B, s0, pins, σ1, H1, k, d, rfl, J, nb, (up.trans uA).trans u4, ?_, na, os, ag, wi⟩
        exact .inr (.inr (by rw [st]; exact sk4))
      first
        | exact wpAny_bind (wpAny_pure (wpAny_bind fin))
        | exact wpAny_bind fin
    | @cons x q b₀ suite p p' es2 l2 nm su t ih =>
      obtain ⟨b, hx, yes, no⟩ := wi
      refine wpAny_handleBy_cons (codeAny_handlers_test ?_) (by intro z; cases z)
      have LT : PySem.W.Looks (model X.prog X.w) hA (typeOf (.ref a)) k := fun A Q E s keep fin =>
        wpAny_typeOf_ref (keep _ _ eA) (by rw [zA.1]; exact fin)
      have LM := PySem.W.exm_one (M := model X.prog X.w) JA.kIn LT hx
      have asks : ∀ {Q : Value → Shared → Prop} {E : Value → Shared → Prop}, Q q.1 { s1 with heap := hA } →
          wpAny (model X.prog X.w) (X.A.mark (some (.ref a))) (eval (.Name x p) X.env) Q E { s1 with heap := hA } := fun fin => by
        obtain ⟨g, db, m | ⟨m, v, z⟩⟩ := nm
        · exact ld_glob (X := X.suite a ((a, oA) :: (X.pn ++ pins))) SA g m fin db
        · exact ld_blt (X := X.suite a ((a, oA) :: (X.pn ++ pins))) SA g m v fin z db
      refine asks (LM.here ?_)
      cases b with
      | false =>
        show wpAny _ X.A (handleBy (.ref a) X.env es2) _ _ _
        exact ih (no rfl)
      | true =>
        refine codeAny_handlers_suite_as (HandSPX.lands_againZ lA fun hB lB uB => ?_)
        have JB : Inv X pins σ1 H1 { s1 with heap := hB } := J.landed nb lB.1 ((up.trans uA).trans uB) os ag
        obtain ⟨oB, vB, eB, zB, dB⟩ := lB.there
        refine store_ok (X := X.suite a ((a, oB) :: (X.pn ++ pins))) (v := .ref a) (JB.suite eB dB na nL nF) nd hi loc rfl (fun s5 S5 => ?_) (.inr kl)
        refine wpAny_mono ((su a oB k d (X.pn ++ pins) zB ⟨_, dB⟩).run [] s5 _ H1 (onlyRt D) S5 (yes rfl a na)) (fun fl s6 end6 => ?_) (fun _ _ z => z.elim)
        cases fl with
        | next => exact (end6.choose_spec.choose_spec.2 : False).elim
        | brk => exact (end6.choose_spec.choose_spec.2 : False).elim
        | cont => exact (end6.choose_spec.choose_spec.2 : False).elim
        | ret u =>
          obtain ⟨v6, σ6, H6, S6, r6, w6⟩ := end6
          exact gone_ok (S6.unsuite ok) nd hi kl fun s7 J7 => ⟨_, _, _, J7, r6, w6⟩
  · cases fl with
    | next =>
      obtain ⟨σ', H', J, w⟩ := out
      exact wpAny_execs_nil ⟨σ', H', J.ofTry ok, w⟩
    | brk => exact out.elim fun σ' z => z.elim fun H' z => ⟨σ', H', z.1.ofTry ok, z.2⟩
    | cont => exact out.elim fun σ' z => z.elim fun H' z => ⟨σ', H', z.1.ofTry ok, z.2⟩
    | ret u =>
      obtain ⟨v, σ', H', J, r, w⟩ := out
      exact ⟨v, σ', H', J.ofTry ok, r, w⟩
end
end TB

namespace TB
open PySem L2 PySem.Spec PyProof.Rows
/-! ### any of integers -/
theorem ints_at : ∀ {us : List Value} {ns : List Int} {i : Nat} {v : Value}, IntsAre us ns → us[i]? = some v → ∃ t, v = .int (ns.getD i 0) t
  | _, _, i, v, .nil, h => by simp at h
  | _, _, 0, v, .cons n t _, h => ⟨t, (Option.some.inj h).symm⟩
  | _, _, i + 1, v, .cons n t r, h => ints_at (i := i) r h
theorem ints_len : ∀ {us : List Value} {ns : List Int}, IntsAre us ns → us.length = ns.length
  | _, _, .nil => rfl
  | _, _, .cons n t r => congrArg (· + 1) (ints_len r)
theorem truth_ints {prog : Program} {w : World} {A : Around} {ns : List Int} {us : List Value} (e : IntsAre us ns) :
    TruthOf prog w A (fun i v => us.toArray[i]? = some v) (fun i => ns.getD i 0 != 0) := fun i v s Q E hv hq => by
  obtain ⟨t, rfl⟩ := ints_at e (by simpa using hv)
  exact PyProof.Rows.truthy_int hq
theorem any_ints : ∀ ns : List Int, (List.range ns.length).any (fun i => ns.getD i 0 != 0) = ns.any (· != 0)
  | [] => rfl
  | n :: ns => by
    rw [List.length_cons, List.range_succ_eq_map, List.any_cons, List.any_map, List.any_cons, ← any_ints ns]
    all_goals rfl
def rAnyI (K : PySem.W.Frag) : List V → Hp → VK → Prop := fun vs H Q => ∃ (a : Addr) (ns : List Int), vs = [V.ref a] ∧ (SqL K H a (ns.map V.int) ∨ SqT K H a (ns.map V.int)) ∧ Q (.bl (ns.any (· != 0))) H
theorem cr_anyI {X : Cx} (hc : X.calm = true) : CallR X (.builtin "any") (rAnyI X.K) := by
  intro pins s σ H vs us Q I r h
  obtain ⟨a, ns, rfl, sq, q⟩ := h
  rw [Vals.ref1 r]
  have fin : ∀ (its : List Value) (h' : Heap) (tk : Nat) (o : Obj), IntsAre its ns → (∀ b u, b ∉ [s.heap.objs.size] → (s.heap.push o).get? b = some u → h'.get? b = some u) →
      ∃ x H', Inv X pins σ H' { s with heap := h', toks := tk } ∧ RelV x (.bool ((List.range its.toArray.size).any fun i => ns.getD i 0 != 0)) ∧ Q x H' := fun its h' tk o e keep => by
    refine ⟨.bl (ns.any (· != 0)), H, I.kept fun b u eb => keep b u (fun m => ?_) (Heap.get?_push_of_some _ eb), ?_, q⟩
    · rcases List.mem_cons.mp m with z | z
      · exact absurd (z ▸ Heap.lt_size eb) (Nat.lt_irrefl _)
      · cases z
    · have e2 : its.toArray.size = ns.length := by
        rw [List.size_toArray]
        exact ints_len e
      rw [e2, any_ints]
      rfl
  rcases sq with sq | sq
  · obtain ⟨its, rv, hl, _⟩ := I.list sq
    have hi := rv.ints
    refine call_any_walk (iter_any hl.isList fun s₂ e2 st hne => ?_)
    subst e2
    exact ⟨_, _, _, _, _, _, _, rfl, Walks.list (A := X.A.in1) (I.ok.hd hc) _ a hne its.toArray, st, truth_ints hi, fun h' tk keep => fin its h' tk _ hi keep⟩
  · obtain ⟨its, rv, ht, _⟩ := I.tuple sq
    have hi := rv.ints
    have hne : a ≠ s.heap.objs.size := Nat.ne_of_lt ht.lt
    have ht' : (s.heap.push { cls := .type "tuple_iterator", data := .fields #[.ref a, .int 0 0] }).IsTuple a its.toArray := ht.push _
    refine call_any_walk (PyProof.Rows.iter_tuple ht ?_)
    exact ⟨_, _, _, _, _, _, _, rfl, Walks.tuple (A := X.A.in1) (I.ok.hd hc) _ a hne its.toArray, ⟨⟨_, Heap.get?_push_size _ rfl, rfl, rfl⟩, ht'⟩, truth_ints hi, fun h' tk keep => fin its h' tk _ hi keep⟩
theorem rc_anyI {K : PySem.W.Frag} {d : D} {ns : List Int} (sq : Seq d ns) : RC K (rAnyI K) [d] (.v (.bool (ns.any (· != 0)))) := rc1 fun v F H Q s dv q => by
  rcases sq with rfl | rfl
  · cases dv with
    | tup h1 h2 =>
      rw [da_ints h2] at h1
      exact ⟨_, ns, rfl, .inr (st_ex s h1), q _ F H (Fz.refl s) (.bl _)⟩
  · cases dv with
    | lst h1 h2 =>
      rw [da_ints h2] at h1
      exact ⟨_, ns, rfl, .inl (sl_ex s h1), q _ F H (Fz.refl s) (.bl _)⟩
section
variable {X : Cx} {W : WX} {F0 H0 : Hp} {Γ Γ1 : List S} {a b e : Expr} {d x : D} {ns : List Int} {pos np : Pos} {i : Int} {ds : List D}
theorem je_anyS (sq : Seq d ns) (hc : X.calm = true) (hm : X.mg "any" = none) (h : JE X W F0 H0 Γ e (.v d)) (hg : Gl X "any" := by rfl) (s1 : starEach [e] X.env = (false, eval e X.env) :: starEach [] X.env := by rfl) : JE X W F0 H0 Γ (.Call (.Name "any" np) [e] [] pos) (.v (.bool (ns.any (· != 0)))) :=
  je_cb (cr_anyI hc) (rc_anyI sq) (by first | trivial | exact (fun _ h => nomatch h)) hm (by decide +kernel) (ja_cons h ja_nil s1) hg (by decide) (by decide) s1
theorem je_ixS {k : Nat} (sq : Seq d ns) (hi : i = (k : Int)) (hk : k < ns.length) (ha : JE X W F0 H0 Γ a (.v d)) (hb : JE X W F0 H0 Γ b (.v (.int i))) (hs : PlainIx b := by exact fun _ _ => rfl) : JE X W F0 H0 Γ (.Subscript a b pos) (.v (.int (ns.getD k 0))) := by
  rcases sq with rfl | rfl
  · exact je_ixT (at_ints hi hk) ha hb hs
  · exact je_ixL (at_ints hi hk) ha hb hs
theorem je_inL (hu : X.A.units + 65 < cLine) (h1 : SeqAt.shaped x = true) (h2 : SeqAt.shaped (.list ds) = true) (ha : JE X W F0 H0 Γ a (.v x)) (hb : JE X W F0 H0 Γ b (.v (.list ds))) (hm : behindInMarks .In b = false := by rfl) : JE X W F0 H0 Γ (.Compare a [.In] [b] pos) (.v (.bool (ds.any fun z => PyData.eqv z x))) :=
  je_cmp (op_inD hu) (rd_inD h1 h2) ha hb hm
end
section
variable {X : Cx} {W : WX} {F0 H0 : Hp} {Γ Γ1 : List S} {body su1 su2 : List Stmt} {b1 b2 : Stmt} {n x1 x2 : Str} {i : Nat} {p1 p2 q1 q2 pos : Pos} {C1 C2 c : Addr} {so : SO} {y : D}
/-- two clauses with a name; nothing is raised -/
theorem js_two (c1 : Names X x1 (.ref C1)) (c2 : Names X x2 (.ref C2)) (tk : L2.Takes X W) (hN : X.N.Nodup) (hcl : so.clean)
    (hb : ∀ (W' : WX) (pn : List (Addr × Obj)) (xe : Value → Shared → Prop), L2.Takes (X.tr pn xe) W' → PassesOwn (model X.prog X.w) X.A X.env xe → JSs (X.tr pn xe) W' F0 H0 Γ body so)
    (hi : X.N[i]? = some n := by rfl) (hs : X.stack = X.env :: X.outer := by rfl) (hf : X.env.frame = some X.env.locals := by rfl) (hln : X.env.kindOf n = some .local := by rfl) :
    JS X W F0 H0 Γ (.Try body [.ExceptHandler (some (.Name x1 p1)) (some n) (b1 :: su1) q1, .ExceptHandler (some (.Name x2 p2)) (some n) (b2 :: su2) q2] [] [] pos) so :=
  ps_imp (ps_clauses (i := i) (tb := fun W' => tS X.K W' F0 H0 Γ so) hs hf hN hi hln tk hb (.cons (q := (.ref C1, fun _ _ _ => tNever)) c1 (fun _ _ _ _ _ _ _ => pss_never) (.cons (q := (.ref C2, fun _ _ _ => tNever)) c2 (fun _ _ _ _ _ _ _ => pss_never) .nil))) fun D' σ H ⟨F, ok, q⟩ => ⟨F, ok, pso_clean hcl q⟩
abbrev tsOf (X : Cx) (F0 H0 : Hp) (Γ1 : List S) (i : Nat) (c : Addr) (y : D) : Addr → Value → Option Addr → TS := fun a cls d D' σ H => cls = .ref c ∧ d = none ∧ tS X.K WF F0 H0 (Γ1.set i (.r (.ref a))) (.rt y) D' σ H
/-- the first clause takes it -/
theorem js_twoX1 (c1 : Names X x1 (.ref C1)) (c2 : Names X x2 (.ref C2)) (tk : L2.Takes X W) (hN : X.N.Nodup) (ex : PySem.W.exmOne X.K (.ref c) (.ref C1) = some true)
    (hb : ∀ (W' : WX) (pn : List (Addr × Obj)) (xe : Value → Shared → Prop), L2.Takes (X.tr pn xe) W' → PassesOwn (model X.prog X.w) X.A X.env xe → JSs (X.tr pn xe) W' F0 H0 Γ body (.x c Γ1))
    (hsu : ∀ (a : Addr) (oe : Obj) (pn : List (Addr × Obj)), Zc (.ref c) none oe → (∃ vs, oe.data = .fields vs) → JSs (X.suite a ((a, oe) :: pn)) WF F0 H0 (Γ1.set i (.r (.ref a))) (b1 :: su1) (.rt y))
    (hi : X.N[i]? = some n := by rfl) (hs : X.stack = X.env :: X.outer := by rfl) (hf : X.env.frame = some X.env.locals := by rfl) (hln : X.env.kindOf n = some .local := by rfl) :
    JS X W F0 H0 Γ (.Try body [.ExceptHandler (some (.Name x1 p1)) (some n) (b1 :: su1) q1, .ExceptHandler (some (.Name x2 p2)) (some n) (b2 :: su2) q2] [] [] pos) (.rt y) :=
  ps_imp (ps_clauses (i := i) (tb := fun W' => tS X.K W' F0 H0 Γ (.x c Γ1)) hs hf hN hi hln tk hb (.cons (q := (.ref C1, tsOf X F0 H0 Γ1 i c y)) c1 (fun a oe cls d pn hz hfl => ⟨fun pins s σ H D' I ⟨e1, e2, t⟩ => by
    subst e1 e2
    exact (hsu a oe pn hz hfl).run pins s σ H D' I t⟩) (.cons (q := (.ref C2, fun _ _ _ => tNever)) c2 (fun _ _ _ _ _ _ _ => pss_never) .nil)))
    fun D' σ H ⟨F, ok, q⟩ => ⟨F, ok, fun σ' F' H' e ok' => ⟨true, ex, fun _ a _ => ⟨rfl, rfl, F', ok'.setR i _, fun v F2 H2 e2 z d => q v F2 H2 (e.trans e2) z d⟩, fun z => Bool.noConfusion z⟩⟩
/-- the second one takes it -/
theorem js_twoX2 (c1 : Names X x1 (.ref C1)) (c2 : Names X x2 (.ref C2)) (tk : L2.Takes X W) (hN : X.N.Nodup) (ex1 : PySem.W.exmOne X.K (.ref c) (.ref C1) = some false) (ex : PySem.W.exmOne X.K (.ref c) (.ref C2) = some true)
    (hb : ∀ (W' : WX) (pn : List (Addr × Obj)) (xe : Value → Shared → Prop), L2.Takes (X.tr pn xe) W' → PassesOwn (model X.prog X.w) X.A X.env xe → JSs (X.tr pn xe) W' F0 H0 Γ body (.x c Γ1))
    (hsu : ∀ (a : Addr) (oe : Obj) (pn : List (Addr × Obj)), Zc (.ref c) none oe → (∃ vs, oe.data = .fields vs) → JSs (X.suite a ((a, oe) :: pn)) WF F0 H0 (Γ1.set i (.r (.ref a))) (b2 :: su2) (.rt y))
    (hi : X.N[i]? = some n := by rfl) (hs : X.stack = X.env :: X.outer := by rfl) (hf : X.env.frame = some X.env.locals := by rfl) (hln : X.env.kindOf n = some .local := by rfl) :
    JS X W F0 H0 Γ (.Try body [.ExceptHandler (some (.Name x1 p1)) (some n) (b1 :: su1) q1, .ExceptHandler (some (.Name x2 p2)) (some n) (b2 :: su2) q2] [] [] pos) (.rt y) :=
  ps_imp (ps_clauses (i := i) (tb := fun W' => tS X.K W' F0 H0 Γ (.x c Γ1)) hs hf hN hi hln tk hb (.cons (q := (.ref C1, fun _ _ _ => tNever)) c1 (fun _ _ _ _ _ _ _ => pss_never) (.cons (q := (.ref C2, tsOf X F0 H0 Γ1 i c y)) c2 (fun a oe cls d pn hz hfl => ⟨fun pins s σ H D' I ⟨e1, e2, t⟩ => by
    subst e1 e2
    exact (hsu a oe pn hz hfl).run pins s σ H D' I t⟩) .nil)))
    fun D' σ H ⟨F, ok, q⟩ => ⟨F, ok, fun σ' F' H' e ok' => ⟨false, ex1, fun z => Bool.noConfusion z, fun _ => ⟨true, ex, fun _ a _ => ⟨rfl, rfl, F', ok'.setR i _, fun v F2 H2 e2 z d => q v F2 H2 (e.trans e2) z d⟩, fun z => Bool.noConfusion z⟩⟩⟩
end
/-! ### k00 -/
def zeroB (ns : List Int) : Bool := !ns.any (· != 0)
def wholeB (ns : List Int) : Bool := decide (ns.getD 0 0 % 2 = 0)
def toldZ (k : Nat) (ns : List Int) : D := match k with
  | 0 => if isNum ns = true then .none else .str "number"
  | 1 => if isNum ns = true then (if zeroB ns = true then .str "question" else .none) else .str "number"
  | 2 => if isNum ns = true then .bool (wholeB ns) else .str "number"
  | _ => if ns.length = 4 then ti (ns.map fun p => 2 * p) else .str "number"
end TB

namespace TB
open PySem L2 PySem.Spec PyProof.Rows
/-! ### list + list, the first one any list that is read -/
def rCatL (K : PySem.W.Frag) : L2.R2 := fun x y H Q => ∃ l b xs zs, x = .ref l ∧ y = .ref b ∧ SqL K H l xs ∧ SqL K H b zs ∧ xs.length + zs.length ≤ sizeLine ∧ ∀ p, H p = none → Q (.ref p) (upd H p (.lst (xs ++ zs)))
theorem op_catL {X : Cx} : OpR X (binaryOp .Add) (rCatL X.K) := by
  intro pins s σ H x y v u Q I rx ry h
  obtain ⟨l, b, xs, zs, rfl, rfl, h1, h2, hz, q⟩ := h
  cases rx
  cases ry
  obtain ⟨as, r1, ⟨⟨k1, d1, t1, s1⟩, n1, e1, c1, f1, g1⟩, _⟩ := I.list h1
  obtain ⟨bs, r2, ⟨⟨k2, d2, t2, s2⟩, n2, e2, c2, f2, g2⟩, _⟩ := I.list h2
  have l1 := r1.length
  have l2 := r2.length
  simp only at c1 f1 g1 c2 f2 g2
  subst c1 f1 g1 c2 f2 g2
  have ea : as.toArray ++ bs.toArray = (as ++ bs).toArray := by simp
  have fits : as.toArray.size + bs.toArray.size ≤ sizeLine := by
    rw [List.size_toArray, List.size_toArray]
    omega
  have go := list_addW l b as.toArray bs.toArray n1 n2 none none s1 s2 fits
  refine concat_meets ⟨_, e1, rfl⟩ ⟨_, e2, rfl⟩ noFill_list_add seq_list_add
    PySem.F.slot_list_add PySem.F.entry_list_add (PySem.F.args_list_add_2 _ _) go ⟨e1, e2, ?_⟩
  rw [ea]
  exact ⟨.ref _, _, I.lnew (t' := s.toks) (r1.append r2) (by rw [List.length_append]; omega), rfl, q _ I.fresh⟩
section
variable {X : Cx} {W : WX} {F0 H0 : Hp} {Γ : List S} {a b : Expr} {ds es : List D} {x y : D} {pos : Pos}
theorem je_catLO (hl : ds.length + es.length ≤ 100000) (ha : JE X W F0 H0 Γ a (.v (.list ds))) (hb : JE X W F0 H0 Γ b (.v (.list es))) : JE X W F0 H0 Γ (.BinOp a .Add b pos) (.o (ds ++ es)) :=
  je_binO op_catL (fun v u F H Q s d1 d2 q => by
    cases d1 with
    | lst g1 g2 =>
      cases d2 with
      | lst h1 h2 => exact ⟨_, _, _, _, rfl, rfl, sl_ex s g1, sl_ex s h1, by rw [da_len g2, da_len h2]; exact Nat.le_trans hl (by decide), po_lst s (da_app g2 h2) q⟩) ha hb
end
section
variable {X : Cx} {W : WX} {F0 H0 : Hp} {Γ : List S} {elt it : Expr} {n y : Str} {py py2 pos spos : Pos} {scope : Scope}
theorem js_setLcR (j : Nat) (i : Nat) {lo : Int} {m : Nat} {f : Nat → D} (hc : X.calm = true) (hN : X.N.Nodup) (hi : JI X F0 H0 Γ (.Name n py) it (rngD lo m)) (ok : BlkOk X.N X.env.scope scope [(n, i)]) (hl : m < 100000)
    (hsw : swapsWith (.ListComp elt [⟨.Name n py, it, [], 0⟩] scope pos) (some (.Name y py2)) spos.line X.env = pure true)
    (hg : ∀ (s : Shared) (H : Hp) (C : Addr) (cl : List (Str × Addr)) (fp : List Addr), PG (Bk X s H scope C cl fp) (.Name n py) (gName i))
    (he : ∀ k : Nat, k < m → ∀ (s : Shared) (H : Hp) (C : Addr) (cl : List (Str × Addr)) (fp : List Addr), JE (Bk X s H scope C cl fp) WF F0 H0 (Γ.set i (.d (.int (lo + (k : Nat))))) elt (.v (f k))) (hy : X.N[j]? = some y := by rfl) (hyl : X.env.scope.names.lookup y = some .local := by rfl) (hs : ∀ x, foldedSetIterable it X.env x = pure x := by intro _; rfl) :
    JS X W F0 H0 Γ (.Assign [.Name y py2] (.ListComp elt [⟨.Name n py, it, [], 0⟩] scope pos) spos) (.nx (Γ.set j (.own ((List.range m).map f)))) := by
  have q := js_setLc (W := W) (pos := pos) j i (f := fun d => f (ofI d - lo).toNat) hc hN hi ok (by rw [rngD_len]; exact hl) hsw hg (fun d hd s H C cl fp => by
    unfold rngD at hd
    obtain ⟨k, hk, rfl⟩ := List.mem_map.mp hd
    have e : (ofI (.int (lo + (k : Nat))) - lo).toNat = k := by
      show (lo + (k : Nat) - lo).toNat = k
      omega
    show JE _ _ _ _ _ _ (.v (f (ofI (.int (lo + (k : Nat))) - lo).toNat))
    rw [e]
    exact he k (List.mem_range.mp hk) s H C cl fp) hy hyl hs
  have e2 : (rngD lo m).map (fun d => f (ofI d - lo).toNat) = (List.range m).map f := by
    unfold rngD
    rw [List.map_map]
    refine List.map_congr_left fun k _ => ?_
    show f (lo + (k : Nat) - lo).toNat = f k
    congr 1
    omega
  rw [e2] at q
  exact q
end
theorem zero_eq {ns : List Int} (h : isNum ns = true) : decide (ns = [0, 0, 0, 0]) = zeroB ns := by
  obtain ⟨p, q, r, s, rfl, _⟩ := num_cases h
  unfold zeroB
  by_cases h1 : p = 0 <;> by_cases h2 : q = 0 <;> by_cases h3 : r = 0 <;> by_cases h4 : s = 0 <;> simp [h1, h2, h3, h4]
def oddD (d : D) : Bool := decide (ofI d % 2 = 1)
theorem due_ok {ns : List Int} (h : ns.length = 4) : (([.int 0, .int 4] : List D).any fun z => PyData.eqv z (.int (((((ns.map PyData.int).filter oddD).map id).length : Nat) : Int))) = isNum ns := by
  obtain ⟨a, b, c, d, rfl⟩ := four h
  have hn := isNum4 a b c d
  have e : ∀ x : Int, oddD (.int x) = decide (x % 2 = 1) := fun _ => rfl
  rw [List.map_id]
  have ha : a % 2 = 0 ∨ a % 2 = 1 := by omega
  have hb : b % 2 = 0 ∨ b % 2 = 1 := by omega
  have hc : c % 2 = 0 ∨ c % 2 = 1 := by omega
  have hd : d % 2 = 0 ∨ d % 2 = 1 := by omega
  unfold Par at hn
  cases hv : isNum [a, b, c, d] with
  | true =>
    have := hn.mp hv
    rcases ha with h1 | h1 <;> rcases hb with h2 | h2 <;> rcases hc with h3 | h3 <;> rcases hd with h4 | h4 <;> first | omega | (simp only [List.map_cons, List.map_nil, List.filter_cons, List.filter_nil, e, h1, h2, h3, h4]; first | rfl | simp [PyData.eqv])
  | false =>
    have : ¬ (b % 2 = a % 2 ∧ c % 2 = a % 2 ∧ d % 2 = a % 2) := fun z => by rw [hn.mpr z] at hv; cases hv
    rcases ha with h1 | h1 <;> rcases hb with h2 | h2 <;> rcases hc with h3 | h3 <;> rcases hd with h4 | h4 <;> first | omega | (simp only [List.map_cons, List.map_nil, List.filter_cons, List.filter_nil, e, h1, h2, h3, h4]; first | rfl | simp [PyData.eqv])
theorem num_dbl {ns : List Int} (h : ns.length = 4) : isNum (ns.map fun p => 2 * p) = true := by
  obtain ⟨a, b, c, d, rfl⟩ := four h
  exact isNum_of (a := 2 * a) (b := 2 * b) (c := 2 * c) (d := 2 * d) ⟨by omega, by omega, by omega⟩
theorem num_short {ns : List Int} (h : ns.length ≠ 4) : isNum ns = false := by
  unfold isNum
  rw [decide_eq_false (by omega), Bool.false_and]
def badZ (a b c d : Int) : List (List Int) := [[a, b, c], [a, b, c, d, a], [], [a], [a, b, c, d + 1], [1 + a, b, c, d]]
theorem badZ_num {a b c d : Int} (k : Par a b c d) : ∀ x ∈ badZ a b c d, isNum x = false ∧ x.length < 1000 := by
  intro x hx
  unfold badZ at hx
  obtain ⟨k1, k2, k3⟩ := k
  have no : ∀ {p q r s : Int}, ¬ Par p q r s → isNum [p, q, r, s] = false := fun h => by
    cases hv : isNum _ with
    | true => exact absurd ((isNum4 _ _ _ _).mp hv) h
    | false => rfl
  simp only [List.mem_cons, List.not_mem_nil, or_false] at hx
  rcases hx with rfl | rfl | rfl | rfl | rfl | rfl
  · exact ⟨num_short (by show ¬ (3 = 4); decide), by show 3 < 1000; decide⟩
  · exact ⟨num_short (by show ¬ (5 = 4); decide), by show 5 < 1000; decide⟩
  · exact ⟨num_short (by decide), by decide⟩
  · exact ⟨num_short (by show ¬ (1 = 4); decide), by show 1 < 1000; decide⟩
  · exact ⟨no fun ⟨z1, z2, z3⟩ => by omega, by show 4 < 1000; decide⟩
  · exact ⟨no fun ⟨z1, z2, z3⟩ => by omega, by show 4 < 1000; decide⟩
theorem toldZ_bad {k : Nat} {ns : List Int} (hk : k < 3) (h : isNum ns = false) : toldZ k ns = .str "number" := by
  have : k = 0 ∨ k = 1 ∨ k = 2 := by omega
  rcases this with rfl | rfl | rfl <;> (unfold toldZ; rw [h]; rfl)
theorem sh_q : SeqAt.shaped (.str "question") = true := by decide +kernel
theorem sh_toldZ (k : Nat) (ns : List Int) : SeqAt.shaped (toldZ k ns) = true := by
  unfold toldZ
  split <;> split <;> first | exact sh_none | exact sh_num | exact sh_bool _ | exact sh_ti _ | (split <;> first | exact sh_q | exact sh_none)
end TB

namespace TB
open PySem L2 PySem.Spec PyProof.Rows
/-! ### sorted, of a list of tuples of integers -/
theorem da_perm {K : PySem.W.Frag} {F : Hp} : ∀ {ys vs : List V}, ys.Perm vs → ∀ {xs : List (List Int)}, DpAll K F vs (xs.map ti) → ∃ L : List (List Int), L.Perm xs ∧ DpAll K F ys (L.map ti) := fun {ys vs} p => by
  induction p with
  | nil => exact fun {xs} d => ⟨xs, .refl _, d⟩
  | cons x p ih =>
    intro xs d
    cases xs with
    | nil => cases d
    | cons z zs =>
      cases d with
      | cons d1 d2 =>
        obtain ⟨L, h1, h2⟩ := ih d2
        exact ⟨z :: L, h1.cons z, .cons d1 h2⟩
  | swap x y l =>
    intro xs d
    cases xs with
    | nil => cases d
    | cons z zs =>
      cases d with
      | cons d1 d2 =>
        cases zs with
        | nil => cases d2
        | cons t ts =>
          cases d2 with
          | cons d3 d4 => exact ⟨t :: z :: ts, .swap .., .cons d3 (.cons d1 d4)⟩
  | trans p q ih1 ih2 =>
    intro xs d
    obtain ⟨L, h1, h2⟩ := ih2 d
    obtain ⟨M, h3, h4⟩ := ih1 h2
    exact ⟨M, h3.trans h1, h4⟩
theorem tup_of {K : PySem.W.Frag} {F H : Hp} {v : V} {x : List Int} (s : Ex F H) (d : Dp K F v (ti x)) : TupI K H v x := by
  cases d with
  | tup h1 h2 =>
    rw [da_ints h2] at h1
    exact ⟨_, rfl, st_ex s h1⟩
theorem da_mem {K : PySem.W.Frag} {F : Hp} : ∀ {vs : List V} {xs : List (List Int)}, DpAll K F vs (xs.map ti) → ∀ v ∈ vs, ∃ x ∈ xs, Dp K F v (ti x)
  | [], _, _, v, hv => absurd hv List.not_mem_nil
  | u :: us, [], d, v, hv => by cases d
  | u :: us, x :: xs, .cons d1 d2, v, hv => by
    rcases List.mem_cons.mp hv with rfl | hv
    · exact ⟨x, List.mem_cons_self, d1⟩
    · obtain ⟨y, h1, h2⟩ := da_mem d2 v hv
      exact ⟨y, List.mem_cons_of_mem _ h1, h2⟩
theorem da_mem' {K : PySem.W.Frag} {F : Hp} : ∀ {vs : List V} {xs : List (List Int)}, DpAll K F vs (xs.map ti) → ∀ x ∈ xs, ∃ v ∈ vs, Dp K F v (ti x)
  | _, [], _, x, hx => absurd hx List.not_mem_nil
  | [], y :: ys, d, x, hx => by cases d
  | u :: us, y :: ys, .cons d1 d2, x, hx => by
    rcases List.mem_cons.mp hx with rfl | hx
    · exact ⟨u, List.mem_cons_self, d1⟩
    · obtain ⟨v, h1, h2⟩ := da_mem' d2 x hx
      exact ⟨v, List.mem_cons_of_mem _ h1, h2⟩
theorem da_pw {K : PySem.W.Frag} {F H : Hp} {B : Int} (s : Ex F H) : ∀ {ys : List V} {L : List (List Int)}, DpAll K F ys (L.map ti) → ys.Pairwise (fun x y => ∀ n m, TupI K H x n → TupI K H y m → TS.code B n ≤ TS.code B m) → L.Pairwise (fun n m => TS.code B n ≤ TS.code B m)
  | _, [], _, _ => .nil
  | [], x :: xs, d, _ => by cases d
  | u :: us, x :: xs, .cons d1 d2, .cons p1 p2 => by
    refine .cons (fun m hm => ?_) (da_pw s d2 p2)
    obtain ⟨v, h1, h2⟩ := da_mem' d2 m hm
    exact p1 v h1 x m (tup_of s d1) (tup_of s h2)
/-- one list alone is ascending -/
theorem sort_uniq {α : Type} {r : α → Int} : ∀ {ys L : List α}, L.Perm ys → ys.Pairwise (fun a b => r a < r b) → L.Pairwise (fun a b => r a ≤ r b) → L = ys
  | [], L, p, _, _ => p.eq_nil
  | y :: ys, [], p, _, _ => absurd p.symm.eq_nil (List.cons_ne_nil _ _)
  | y :: ys, l :: ls, p, .cons h1 h2, .cons g1 g2 => by
    have hl : l ∈ y :: ys := p.mem_iff.mp List.mem_cons_self
    have hy : y ∈ l :: ls := p.mem_iff.mpr List.mem_cons_self
    have e : l = y := by
      rcases List.mem_cons.mp hl with e | m
      · exact e
      · rcases List.mem_cons.mp hy with e | m2
        · exact e.symm
        · have a := h1 l m
          have b := g1 y m2
          omega
    subst e
    rw [sort_uniq (List.Perm.cons_inv p) h2 g2]
theorem rc_sortT {K : PySem.W.Frag} {d : Nat} {B : Int} {xs ys : List (List Int)} (h64 : xs.length < 64) (hx : ∀ x ∈ xs, x.length = d ∧ TS.Bd B x) (hp : ys.Perm xs) (hs : ys.Pairwise (fun a b => TS.code B a < TS.code B b)) :
    RC K (rSortU K d B) [.list (xs.map ti)] (.o (ys.map ti)) := rc1 fun v F H Q s dv q => by
  cases dv with
  | lst h1 h2 =>
    refine ⟨_, _, rfl, sl_ex s h1, ?_, fun u hu => ?_, fun us p hperm hpw hn => ?_⟩
    · rw [da_len h2, List.length_map]
      exact h64
    · obtain ⟨x, hm, dx⟩ := da_mem h2 u hu
      exact ⟨x, tup_of s dx, hx x hm⟩
    · obtain ⟨L, hL, dL⟩ := da_perm hperm h2
      have := sort_uniq (hL.trans hp.symm) hs (da_pw s dL hpw)
      rw [this] at dL
      exact po_lst s dL q p hn
section
variable {X : Cx} {W : WX} {F0 H0 : Hp} {Γ : List S} {e : Expr} {pos np : Pos}
theorem je_sortT {d : Nat} {B : Int} {xs ys : List (List Int)} (hd : 1 ≤ d) (h64 : xs.length < 64) (hx : ∀ x ∈ xs, x.length = d ∧ TS.Bd B x) (hp : ys.Perm xs) (hs : ys.Pairwise (fun a b => TS.code B a < TS.code B b))
    (hm : X.mg "sorted" = none) (h : JE X W F0 H0 Γ e (.v (.list (xs.map ti)))) (hg : Gl X "sorted" := by rfl) (s1 : starEach [e] X.env = (false, eval e X.env) :: starEach [] X.env := by rfl) : JE X W F0 H0 Γ (.Call (.Name "sorted" np) [e] [] pos) (.o (ys.map ti)) :=
  pe_imp (pe_callB (cr_sortT hd) hg hm (by decide +kernel) (ja_cons h ja_nil s1) (by decide) (by decide) s1 rfl) fun σ H Q h => by
    obtain ⟨F, ok, q⟩ := po_of (F := H) (by trivial) h
    exact ⟨F, ok, fun vs F1 H1 z1 d1 => rc_sortT h64 hx hp hs vs F1 H1 Q z1.s d1 (po_mono z1 q)⟩
end
end TB

namespace TB
open PySem L2 PySem.Spec PyProof.Rows
/-! ### an own list: isinstance, !=, pop -/
section
variable {X : Cx} {W : WX} {F0 H0 : Hp} {Γ : List S} {b : Expr} {ds : List D} {y : D} {pos np : Pos} {n : Str}
theorem je_own_isi (k : Nat) {T : String} {t : Str} {r : Bool} {np2 q2 : Pos} (g : Γ[k]? = some (.own ds)) (hk : kitB "list" T = some r) (hm : X.mg "isinstance" = none) (hm2 : X.mg t = none) (hb : bootBuiltins t = some (.type T))
    (hN : X.N[k]? = some n := by rfl) (hv : Vis X.env.scope n := by first | exact Or.inl rfl | exact Or.inr (Or.inl rfl) | exact Or.inr (Or.inr rfl)) (hd : (n == ("__debug__" : Str)) = false := by decide) (hcd : (n == ("__classdict__" : Str)) = false := by decide)
    (hg : Gl X "isinstance" := by rfl) (hg2 : Gl X t := by rfl) (hn : t ≠ "__name__" := by decide) (hdb : (t == ("__debug__" : Str)) = false := by decide)
    (s2 : starEach [.Name n q2, .Name t np2] X.env = (false, eval (.Name n q2) X.env) :: starEach [.Name t np2] X.env := by rfl) (s1 : starEach [.Name t np2] X.env = (false, eval (.Name t np2) X.env) :: starEach [] X.env := by rfl) (hpl : (backTo pos (starEach [.Name t np2] X.env)).any (·.1) = false := by rfl) :
    JE X W F0 H0 Γ (.Call (.Name "isinstance" np) [.Name n q2, .Name t np2] [] pos) (.v (.bool r)) :=
  pe_imp (pe_callB call_isi hg hm (by decide +kernel) (pa_cons (pe_var hN hv hd hcd) (pa_cons (pe_bltn (v := .ty T) hg2 hm2 hb rfl hn hdb) pa_nil s1) s2) (by decide) (by decide) s2 hpl) fun σ H Q ⟨F, ok, q⟩ => by
    obtain ⟨p, xs, e1, e2, e3, e4, e5⟩ := ok.own g
    exact ⟨_, e1, _, .ty T, .type "list", .type T, r, rfl, .ty T, .base (.lst e2), kit_ty hk, q _ F H (Fz.refl ok.fh) (.bl r)⟩
theorem jt_own_ne (k : Nat) {q2 : Pos} (g : Γ[k]? = some (.own ds)) (hu : X.A.units + 64 < cLine) (h1 : SeqAt.shaped (.list ds) = true) (h2 : SeqAt.shaped y = true) (hb : JE X WF F0 H0 Γ b (.v y))
    (hN : X.N[k]? = some n := by rfl) (hv : Vis X.env.scope n := by first | exact Or.inl rfl | exact Or.inr (Or.inl rfl) | exact Or.inr (Or.inr rfl)) (hd : (n == ("__debug__" : Str)) = false := by decide) (hcd : (n == ("__classdict__" : Str)) = false := by decide) :
    JT X F0 H0 Γ (.Compare (.Name n q2) [.NotEq] [b] pos) (!PyData.eqv (.list ds) y) :=
  pt_imp (pt_cmpR (op_neD hu) (pe_var hN hv hd hcd) hb (nomark _)) fun σ H Q ⟨F, ok, q⟩ => by
    obtain ⟨p, xs, e1, e2, e3, e4, e5⟩ := ok.own g
    refine ⟨_, e1, F, ok, fun u F2 H2 z2 d2 => ⟨_, _, Dp.lst (SqL.of (z2.h _ _ e2)) (da_ex (z2.f.trans z2.s) _ _ e5), dp_ex z2.s _ _ d2, h1, h2, _, rfl, q F2 H2 z2⟩⟩
theorem js_pop (i : Nat) {ds : List D} {d : D} {apos cpos : Pos} (g : Γ[i]? = some (.own (ds ++ [d])))
    (hN : X.N[i]? = some n := by rfl) (hv : Vis X.env.scope n := by first | exact Or.inl rfl | exact Or.inr (Or.inl rfl) | exact Or.inr (Or.inr rfl)) (hd : (n == ("__debug__" : Str)) = false := by decide) (hcd : (n == ("__classdict__" : Str)) = false := by decide)
    (h1 : attributeBase (.Name n np) "pop" X.env (eval (.Name n np) X.env) = eval (.Name n np) X.env := by rfl)
    (hs : swapsWith (.Call (.Attribute (.Name n np) "pop" apos) [] [] cpos) none pos.line X.env = pure false := by rfl)
    (h3 : (apos.endLine == cpos.line) = true := by rfl) : JS X W F0 H0 Γ (.Expr (.Call (.Attribute (.Name n np) "pop" apos) [] [] cpos) pos) (.nx (Γ.set i (.own ds))) := by
  refine ps_imp (ps_expr (pe_bm0 PySem.F.plainAttrs_list PySem.F.slot_list_pop PySem.F.type_list_pop mt_pop (pe_var hN hv hd hcd) h1 h3) hs) fun D' σ H ⟨F, ok, q⟩ => ?_
  obtain ⟨p, xs, e1, e2, e3, e4, e5⟩ := ok.own g
  have hl : xs.length = ds.length + 1 := by
    rw [da_len e5, List.length_append]
    rfl
  have cut := da_take ds.length e5
  rw [List.take_left' rfl] at cut
  have e6 : xs.dropLast = xs.take ds.length := by
    rw [List.dropLast_eq_take, hl]
    rfl
  have hy : xs[xs.length - 1]? = some (xs[xs.length - 1]'(by omega)) := List.getElem?_eq_getElem (by omega)
  refine ⟨_, e1, .inl ⟨rfl, _, SqL.of e2⟩, p, xs, _, rfl, rfl, e2, hy, ?_⟩
  rw [e6]
  exact q σ F _ (Ex.refl _) (ok.write g e1 e3 e4 cut)
end
end TB

namespace TB
open PySem L2 PySem.Spec PyProof.Rows
/-! ### the 24 units -/
def unitsL : List (List Int) := [[-2, 0, 0, 0], [-1, -1, -1, -1], [-1, -1, -1, 1], [-1, -1, 1, -1], [-1, -1, 1, 1], [-1, 1, -1, -1], [-1, 1, -1, 1], [-1, 1, 1, -1], [-1, 1, 1, 1], [0, -2, 0, 0], [0, 0, -2, 0], [0, 0, 0, -2],
  [0, 0, 0, 2], [0, 0, 2, 0], [0, 2, 0, 0], [1, -1, -1, -1], [1, -1, -1, 1], [1, -1, 1, -1], [1, -1, 1, 1], [1, 1, -1, -1], [1, 1, -1, 1], [1, 1, 1, -1], [1, 1, 1, 1], [2, 0, 0, 0]]
theorem at_tis {xs : List (List Int)} {i : Nat} {z : Int} (hz : z = (i : Int)) (h : i < xs.length) : atI (xs.map ti) z = some (ti (xs.getD i [])) := by
  subst hz
  refine atI_nat ?_
  rw [List.getElem?_map, List.getElem?_eq_getElem h, List.getD_eq_getElem?_getD, List.getElem?_eq_getElem h]
  rfl
theorem any_tis (xs : List (List Int)) (x : List Int) : ((xs.map ti).any fun z => PyData.eqv z (ti x)) = decide (x ∈ xs) := by
  induction xs with
  | nil => rfl
  | cons y ys ih =>
    rw [List.map_cons, List.any_cons, ih, eqv_ti]
    by_cases e : y = x
    · subst e
      simp
    · have e2 : ¬ x = y := fun z => e z.symm
      simp [e, e2]
theorem units_G : ∀ x ∈ unitsL, G 10 x := fun x hx => by
  have h : isNum x = true ∧ ∀ y ∈ x, y.natAbs < 2 ^ 2 := (by decide +kernel : ∀ x ∈ unitsL, isNum x = true ∧ ∀ y ∈ x, y.natAbs < 2 ^ 2) x hx
  exact ⟨h.1, fun y hy => (show Bt 2 y from h.2 y hy).mono (by decide)⟩
theorem units_mul : ∀ a ∈ unitsL, ∀ b ∈ unitsL, mulL a b ∈ unitsL ∧ normL (mulL a b) = 1 := by decide +kernel
theorem units_conj : ∀ a ∈ unitsL, mulL a (conjL a) = [2, 0, 0, 0] := by decide +kernel
theorem units_sorted : unitsL.Pairwise (fun a b => TS.code 4 a < TS.code 4 b) := by decide +kernel
theorem units_permR : ∀ a ∈ unitsL, unitsL.Perm (unitsL.map fun u => mulL a u) := by decide +kernel
theorem units_permL : ∀ a ∈ unitsL, unitsL.Perm (unitsL.map fun u => mulL u a) := by decide +kernel
theorem small_sq {a s : Int} (h : a * a ≤ s) (hs : s ≤ 4) : -2 ≤ a ∧ a ≤ 2 := by
  constructor
  · by_cases z : -2 ≤ a
    · exact z
    · have := Int.mul_le_mul_of_nonneg_left (show 3 ≤ -a by omega) (show 0 ≤ -a by omega)
      have e : -a * -a = a * a := by grind
      omega
  · by_cases z : a ≤ 2
    · exact z
    · have := Int.mul_le_mul_of_nonneg_left (show 3 ≤ a by omega) (show 0 ≤ a by omega)
      omega
theorem units_box : ∀ a ∈ ([-2, -1, 0, 1, 2] : List Int), ∀ b ∈ ([-2, -1, 0, 1, 2] : List Int), ∀ c ∈ ([-2, -1, 0, 1, 2] : List Int), ∀ d ∈ ([-2, -1, 0, 1, 2] : List Int), isNum [a, b, c, d] = true → normL [a, b, c, d] = 1 → [a, b, c, d] ∈ unitsL := by decide +kernel
theorem sq_nn (a : Int) : 0 ≤ a * a := by
  by_cases z : 0 ≤ a
  · exact Int.mul_nonneg z z
  · have := Int.mul_nonneg (show 0 ≤ -a by omega) (show 0 ≤ -a by omega)
    have e : -a * -a = a * a := by grind
    omega
theorem unit_iff {x : List Int} (h : isNum x = true) : decide (normL x = 1) = decide (x ∈ unitsL) := by
  obtain ⟨a, b, c, d, rfl, k⟩ := num_cases h
  have key : normL [a, b, c, d] = 1 ↔ [a, b, c, d] ∈ unitsL := by
    constructor
    · intro e
      have n := norm_pr k
      rw [e] at n
      have pa := sq_nn a; have pb := sq_nn b; have pc := sq_nn c; have pd := sq_nn d
      have qa := small_sq (a := a) (s := 4) (by omega) (by decide)
      have qb := small_sq (a := b) (s := 4) (by omega) (by decide)
      have qc := small_sq (a := c) (s := 4) (by omega) (by decide)
      have qd := small_sq (a := d) (s := 4) (by omega) (by decide)
      have box : ∀ z : Int, -2 ≤ z ∧ z ≤ 2 → z ∈ ([-2, -1, 0, 1, 2] : List Int) := fun z hz => by
        have : z = -2 ∨ z = -1 ∨ z = 0 ∨ z = 1 ∨ z = 2 := by omega
        simpa using this
      exact units_box a (box a qa) b (box b qb) c (box c qc) d (box d qd) h e
    · intro m
      exact (by decide +kernel : ∀ x ∈ unitsL, normL x = 1) _ m
  by_cases e : normL [a, b, c, d] = 1
  · rw [decide_eq_true e, decide_eq_true (key.mp e)]
  · rw [decide_eq_false e, decide_eq_false fun z => e (key.mpr z)]
end TB

namespace TB
open PySem L2 PySem.Spec PyProof.Rows
/-! ### sorted of tuples of any integers; max of data -/
def leL (p q : List Int) : Bool := decide (p ≤ q)
def sortLL (ls : List (List Int)) : List (List Int) := ls.mergeSort leL
theorem alike_ti (x y : List Int) : PySem.W.alike (ti x) (ti y) = true := by
  show PySem.W.alike (.tuple _) (.tuple _) = true
  simp only [PySem.W.alike]
  exact PySem.W.alike_ints x y
theorem lt_ti (x y : List Int) : PySem.W.dataLt (ti x) (ti y) = decide (x < y) := by
  unfold ti
  rw [PySem.W.dataLt_tuple]
  exact PySem.W.dataLt_ints x y
theorem le_ti : PySem.W.dataLe false ti = leL := by
  funext p q
  show (!PySem.W.dataLt (ti q) (ti p)) = decide (p ≤ q)
  rw [lt_ti]
  by_cases h : q < p
  · have h' : ¬ p ≤ q := fun r => List.not_lt.mpr r h
    rw [decide_eq_true h, decide_eq_false h']
    rfl
  · rw [decide_eq_false h, decide_eq_true (List.not_lt.mp h)]
    rfl
def TR (K : PySem.W.Frag) (H : Hp) (u : Value) (l : List Int) : Prop := ∃ t, u = Value.ref t ∧ Dp K H (.ref t) (ti l)
theorem tr_of {K : PySem.W.Frag} {H : Hp} : ∀ {xs : List V} {its : List Value} {ls : List (List Int)}, Vals xs its → DpAll K H xs (ls.map ti) → PySem.W.EachIs (TR K H) its ls
  | _, _, [], r, d => by
    cases d
    cases r
    exact .nil
  | _, _, l :: ls, r, d => by
    cases d with
    | cons d1 d2 =>
      cases r with
      | cons r1 r2 =>
        refine .cons ?_ (tr_of r2 d2)
        cases d1 with
        | tup h1 h2 =>
          cases r1
          exact ⟨_, rfl, .tup h1 h2⟩
theorem tr_back {K : PySem.W.Frag} {H : Hp} : ∀ {out : List Value} {ls : List (List Int)}, PySem.W.EachIs (TR K H) out ls → Vals (out.map bkV) out ∧ DpAll K H (out.map bkV) (ls.map ti)
  | _, _, .nil => ⟨.nil, .nil⟩
  | _, _, .cons ⟨t, e, d⟩ r => by
    subst e
    obtain ⟨h1, h2⟩ := tr_back r
    exact ⟨.cons (show RelV (.ref t) (.ref t) from rfl) h1, .cons d h2⟩
def rSortTT (K : PySem.W.Frag) : List V → Hp → VK → Prop := fun vs H Q => ∃ (F : Hp) (a : Addr) (xs : List V) (ls : List (List Int)), Ex F H ∧ vs = [V.ref a] ∧ SqL K H a xs ∧ DpAll K F xs (ls.map ti) ∧ (∀ l ∈ ls, l ≠ []) ∧
  ∀ (ys : List V) (p : Addr), DpAll K F ys ((sortLL ls).map ti) → H p = none → Q (.ref p) (upd H p (.lst ys))
theorem cr_sortTT {X : Cx} (hu : X.A.units + 64 < cLine) : CallR X (.builtin "sorted") (rSortTT X.K) := by
  intro pins s σ H vs us Q I r h
  obtain ⟨F, a, xs, ls, ex, rfl, hs, hd, hne, q⟩ := h
  obtain ⟨its, rv, hL, hz⟩ := I.list hs
  rw [Vals.ref1 r]
  have hE := tr_of rv hd
  have hlen := hE.length
  have hxl := rv.length
  refine PySem.W.sorted_data (enc := ti) (R := TR X.K F) hL.isList hE (hE.mono fun u l ⟨t, e, d⟩ => by
    subst e
    exact Dp.reads I _ _ _ (dp_ex ex _ _ d) rfl) (PySem.W.AllAlike.of alike_ti) (.inl fun d hd => ?_) (by omega) (fun b _ => ?_) fun out ho e2 => ?_
  · obtain ⟨l, hl, rfl⟩ := List.mem_map.mp hd
    cases l with
    | nil => exact absurd rfl (hne _ hl)
    | cons x r => exact ⟨_, _, rfl⟩
  · have e1 : (ti b).depth = 1 := by
      show PyData.depth (.tuple _) = 1
      rw [PyData.depth, PySem.W.depth_ints]
    rw [e1]
    omega
  · rw [le_ti] at e2
    obtain ⟨b1, b2⟩ := tr_back e2
    obtain ⟨ep, he'⟩ := PyProof.Rows.sortedAll_at s.heap its (List.toArray out)
    have hlen2 : (out.map bkV).length ≤ sizeLine := by
      rw [List.length_map]
      omega
    exact ⟨.ref _, upd H (s.heap.objs.size + 1) (.lst (out.map bkV)), I.laid (t' := s.toks) (fun _ _ => PyProof.Rows.sortedAll_old) (Nat.le_succ _) ⟨hlen2, out, ep, b1, by simpa using he'⟩, rfl, q _ _ b2 (I.hok.fresh (Nat.le_succ _))⟩
section
variable {X : Cx} {W : WX} {F0 H0 : Hp} {Γ : List S} {e : Expr} {pos np : Pos}
theorem rc_sortTT {K : PySem.W.Frag} {ls : List (List Int)} (hne : ∀ l ∈ ls, l ≠ []) : RC K (rSortTT K) [.list (ls.map ti)] (.o ((sortLL ls).map ti)) := rc1 fun v F H Q s dv q => by
  cases dv with
  | lst h1 h2 => exact ⟨F, _, _, ls, s, rfl, sl_ex s h1, h2, hne, fun ys p d hp => po_lst s d q p hp⟩
theorem je_sortTT {ls : List (List Int)} (hu : X.A.units + 64 < cLine) (hne : ∀ l ∈ ls, l ≠ []) (hm : X.mg "sorted" = none) (h : JE X W F0 H0 Γ e (.v (.list (ls.map ti)))) (hg : Gl X "sorted" := by rfl) (s1 : starEach [e] X.env = (false, eval e X.env) :: starEach [] X.env := by rfl) : JE X W F0 H0 Γ (.Call (.Name "sorted" np) [e] [] pos) (.o ((sortLL ls).map ti)) :=
  pe_imp (pe_callB (cr_sortTT hu) hg hm (by decide +kernel) (ja_cons h ja_nil s1) (by decide) (by decide) s1 rfl) fun σ H Q h => by
    obtain ⟨F, ok, q⟩ := po_of (F := H) (by trivial) h
    exact ⟨F, ok, fun vs F1 H1 z1 d1 => rc_sortTT hne vs F1 H1 Q z1.s d1 (po_mono z1 q)⟩
end
/-! max of a list of data -/
theorem vals_at : ∀ {xs : List V} {us : List Value} {i : Nat} {u : Value}, Vals xs us → us[i]? = some u → ∃ x, xs[i]? = some x ∧ RelV x u := fun {xs us i u} r e => by
  cases q : xs[i]? with
  | none => rw [r.none_of q] at e; cases e
  | some x =>
    obtain ⟨u', h1, h2⟩ := r.get q
    rw [h1] at e
    cases e
    exact ⟨x, rfl, h2⟩
def rMaxDD (K : PySem.W.Frag) : List V → Hp → VK → Prop := fun vs H Q => ∃ (F : Hp) (a : Addr) (xs : List V) (d : D) (ds : List D), Ex F H ∧ vs = [V.ref a] ∧ SqL K H a xs ∧ DpAll K F xs (d :: ds) ∧ PySem.W.AlikeAll (d :: ds) ∧ PyData.depthAll (d :: ds) ≤ 60 ∧
  ∀ v : V, Dp K F v (PySem.W.maxD d ds) → Q v H
theorem cr_maxDD {X : Cx} (hc : X.calm = true) (hu : X.A.units + 64 < cLine) : CallR X (.builtin "max") (rMaxDD X.K) := by
  intro pins s σ H vs us Q I r h
  obtain ⟨F, a, xs, d, ds, ex, rfl, hs, hd, hal, hdp, q⟩ := h
  obtain ⟨its, rv, hL, hz⟩ := I.list hs
  rw [Vals.ref1 r]
  obtain ⟨as, hr⟩ := Dp.readsAll I (d :: ds) xs its (da_ex ex _ _ hd) rv
  refine PySem.W.max_list_data (I.ok.hd hc) hL.isList (by simpa using hr) hal (by omega) fun i v h' tk bs hv r' hk => ?_
  have hv' : its[i]? = some v := by simpa using hv
  obtain ⟨x, hx, rx⟩ := vals_at rv hv'
  obtain ⟨e, he, de⟩ := da_get' hd hx
  obtain ⟨cs, r1⟩ := Dp.reads I e x v (dp_ex ex _ _ de) rx
  have r2 := PyProof.Rows.reads_det (fun b o e _ => hk b o e) r1 r'
  rw [← r2.1] at de
  exact ⟨x, H, I.kept hk, rx, q x de⟩
section
variable {X : Cx} {W : WX} {F0 H0 : Hp} {Γ : List S} {e : Expr} {pos np : Pos}
theorem je_maxDD {d : D} {ds : List D} (hc : X.calm = true) (hu : X.A.units + 64 < cLine) (hal : PySem.W.AlikeAll (d :: ds)) (hdp : PyData.depthAll (d :: ds) ≤ 60) (hm : X.mg "max" = none) (h : JE X W F0 H0 Γ e (.v (.list (d :: ds)))) (hg : Gl X "max" := by rfl) (s1 : starEach [e] X.env = (false, eval e X.env) :: starEach [] X.env := by rfl) : JE X W F0 H0 Γ (.Call (.Name "max" np) [e] [] pos) (.v (PySem.W.maxD d ds)) :=
  pe_imp (pe_callB (cr_maxDD hc hu) hg hm (by decide +kernel) (ja_cons h ja_nil s1) (by decide) (by decide) s1 rfl) fun σ H Q ⟨F, ok, q⟩ => ⟨F, ok, fun vs F1 H1 z1 d1 => by
    cases d1 with
    | cons a1 a2 =>
      cases a2
      cases a1 with
      | lst h1 h2 => exact ⟨F1, _, _, d, ds, z1.s, rfl, sl_ex z1.s h1, h2, hal, hdp, fun v dv => q v F1 H1 z1 dv⟩⟩
end
end TB

namespace TB
open PySem L2 PySem.Spec PyProof.Rows
/-! ### the order of lists of integers; what sorted and max give -/
theorem ll_trans {a b c : List Int} (h : a ≤ b) (g : b ≤ c) : a ≤ c := List.le_trans h g
theorem ll_anti {a b : List Int} (h : a ≤ b) (g : b ≤ a) : a = b := List.le_antisymm h g
theorem ll_total (a b : List Int) : a ≤ b ∨ b ≤ a := List.le_total a b
theorem lt_tr {a b c : List Int} (h : a < b) (g : b < c) : a < c := List.lt_trans h g
theorem leL_tot : PySem.W.TotalLe leL := ⟨fun a b c h g => decide_eq_true (ll_trans (of_decide_eq_true h) (of_decide_eq_true g)), fun a b => (ll_total a b).imp (fun h => decide_eq_true h) fun h => decide_eq_true h⟩
theorem sort_pw (ls : List (List Int)) : (sortLL ls).Pairwise (fun a b => a ≤ b) := (PySem.W.sort_pairwise leL_tot ls).imp fun h => of_decide_eq_true h
theorem sort_perm (ls : List (List Int)) : (sortLL ls).Perm ls := List.mergeSort_perm ls leL
theorem asc_uniq : ∀ {xs ys : List (List Int)}, xs.Perm ys → xs.Pairwise (fun a b => a ≤ b) → ys.Pairwise (fun a b => a ≤ b) → xs = ys
  | [], _, p, _, _ => p.symm.eq_nil.symm
  | x :: xs, [], p, _, _ => absurd p.eq_nil (List.cons_ne_nil _ _)
  | x :: xs, y :: ys, p, .cons h1 h2, .cons g1 g2 => by
    have e : x = y := by
      rcases List.mem_cons.mp (p.mem_iff.mp List.mem_cons_self) with e | m
      · exact e
      · rcases List.mem_cons.mp (p.mem_iff.mpr List.mem_cons_self) with e | m2
        · exact e.symm
        · exact ll_anti (h1 y m2) (g1 x m)
    subst e
    rw [asc_uniq (List.Perm.cons_inv p) h2 g2]
theorem sort_congr {xs ys : List (List Int)} (p : xs.Perm ys) : sortLL xs = sortLL ys := asc_uniq ((sort_perm xs).trans (p.trans (sort_perm ys).symm)) (sort_pw xs) (sort_pw ys)
theorem sort_id {xs : List (List Int)} (h : xs.Pairwise (fun a b => a ≤ b)) : sortLL xs = xs := asc_uniq (sort_perm xs) (sort_pw xs) h
theorem sort_to {xs ys : List (List Int)} (p : ys.Perm xs) (h : ys.Pairwise (fun a b => a ≤ b)) : sortLL xs = ys := (sort_congr p.symm).trans (sort_id h)
/-- the greatest: m stands for it, none is greater -/
theorem max_spec {β : Type} (enc : β → D) (irr : ∀ a, PySem.W.dataLt (enc a) (enc a) = false) (asy : ∀ a b, PySem.W.dataLt (enc a) (enc b) = true → PySem.W.dataLt (enc b) (enc a) = false)
    (ntr : ∀ a b c, PySem.W.dataLt (enc a) (enc b) = false → PySem.W.dataLt (enc b) (enc c) = false → PySem.W.dataLt (enc a) (enc c) = false) :
    ∀ (xs : List β) (x : β), ∃ m ∈ x :: xs, PySem.W.maxD (enc x) (xs.map enc) = enc m ∧ ∀ y ∈ x :: xs, PySem.W.dataLt (enc m) (enc y) = false := by
  intro xs
  induction xs with
  | nil => exact fun x => ⟨x, List.mem_cons_self, rfl, fun y hy => by
      rw [List.mem_singleton] at hy
      subst hy
      exact irr _⟩
  | cons z zs ih =>
    intro x
    cases hb : PySem.W.dataLt (enc x) (enc z) with
    | true =>
      obtain ⟨m, h1, h2, h3⟩ := ih z
      refine ⟨m, List.mem_cons_of_mem _ h1, ?_, fun y hy => ?_⟩
      · rw [← h2]
        unfold PySem.W.maxD
        rw [List.map_cons, List.foldl_cons, hb]
        rfl
      · rcases List.mem_cons.mp hy with rfl | hy
        · exact ntr _ _ _ (h3 z List.mem_cons_self) (asy _ _ hb)
        · exact h3 y hy
    | false =>
      obtain ⟨m, h1, h2, h3⟩ := ih x
      refine ⟨m, ?_, ?_, fun y hy => ?_⟩
      · rcases List.mem_cons.mp h1 with rfl | h
        · exact List.mem_cons_self
        · exact List.mem_cons_of_mem _ (List.mem_cons_of_mem _ h)
      · rw [← h2]
        unfold PySem.W.maxD
        rw [List.map_cons, List.foldl_cons, hb]
        rfl
      · rcases List.mem_cons.mp hy with rfl | hy
        · exact h3 _ List.mem_cons_self
        · rcases List.mem_cons.mp hy with rfl | hy
          · exact ntr _ _ _ (h3 x List.mem_cons_self) hb
          · exact h3 y (List.mem_cons_of_mem _ hy)
theorem ll_asy {a b : List Int} (h : a < b) : ¬ b < a := List.lt_asymm h
theorem nlt_le {a b : List Int} (h : ¬ a < b) : b ≤ a := List.not_lt.mp h
theorem le_nlt {a b : List Int} (h : b ≤ a) : ¬ a < b := fun r => List.not_lt.mpr h r
/-- the greatest of some lists, by its properties -/
theorem max_ti (xs : List (List Int)) (x : List Int) : ∃ m ∈ x :: xs, PySem.W.maxD (ti x) (xs.map ti) = ti m ∧ ∀ y ∈ x :: xs, y ≤ m := by
  obtain ⟨m, h1, h2, h3⟩ := max_spec ti (fun a => by rw [lt_ti]; exact decide_eq_false (List.lt_irrefl _)) (fun a b h => by
    rw [lt_ti] at h ⊢
    exact decide_eq_false (ll_asy (of_decide_eq_true h))) (fun a b c h g => by
    rw [lt_ti] at h g ⊢
    exact decide_eq_false (le_nlt (ll_trans (nlt_le (of_decide_eq_false g)) (nlt_le (of_decide_eq_false h))))) xs x
  exact ⟨m, h1, h2, fun y hy => nlt_le (by
    have := h3 y hy
    rw [lt_ti] at this
    exact of_decide_eq_false this)⟩
/-- two tuples in a tuple -/
def pd (f : List Int → List Int) (u : List Int) : D := .tuple [ti (f u), ti u]
theorem eqv_ti' (x y : List Int) : PyData.eqv (ti x) (ti y) = decide (x = y) := eqv_ti x y
theorem lt_pd (f : List Int → List Int) (u v : List Int) : PySem.W.dataLt (pd f u) (pd f v) = if f u = f v then decide (u < v) else decide (f u < f v) := by
  unfold pd
  rw [PySem.W.dataLt_pair (alike_ti _ _) (alike_ti _ _), eqv_ti', eqv_ti', lt_ti, lt_ti]
  by_cases e : f u = f v
  · rw [if_pos (decide_eq_true e), if_pos e]
    by_cases e2 : u = v
    · subst e2
      rw [if_pos (decide_eq_true rfl)]
      exact (decide_eq_false (List.lt_irrefl _)).symm
    · rw [if_neg (by rw [decide_eq_false e2]; exact Bool.false_ne_true)]
  · rw [if_neg (by rw [decide_eq_false e]; exact Bool.false_ne_true), if_neg e]
theorem max_pd (f : List Int → List Int) (xs : List (List Int)) (x : List Int) : ∃ m ∈ x :: xs, PySem.W.maxD (pd f x) (xs.map (pd f)) = pd f m ∧ ∀ y ∈ x :: xs, f y ≤ f m := by
  have nl : ∀ a b, PySem.W.dataLt (pd f a) (pd f b) = false → f b ≤ f a ∧ (f a = f b → b ≤ a) := fun a b h => by
    rw [lt_pd] at h
    by_cases e : f a = f b
    · rw [if_pos e] at h
      exact ⟨by rw [e]; exact List.le_refl _, fun _ => nlt_le (of_decide_eq_false h)⟩
    · rw [if_neg e] at h
      exact ⟨nlt_le (of_decide_eq_false h), fun z => absurd z e⟩
  obtain ⟨m, h1, h2, h3⟩ := max_spec (pd f) (fun a => by rw [lt_pd, if_pos rfl]; exact decide_eq_false (List.lt_irrefl _)) (fun a b h => by
    rw [lt_pd] at h ⊢
    by_cases e : f a = f b
    · rw [if_pos e] at h
      rw [if_pos e.symm]
      exact decide_eq_false (ll_asy (of_decide_eq_true h))
    · rw [if_neg e] at h
      rw [if_neg fun z => e z.symm]
      exact decide_eq_false (ll_asy (of_decide_eq_true h))) (fun a b c h g => by
    obtain ⟨a1, a2⟩ := nl _ _ h
    obtain ⟨b1, b2⟩ := nl _ _ g
    rw [lt_pd]
    by_cases e : f a = f c
    · rw [if_pos e]
      have ab : f a = f b := ll_anti (by rw [e]; exact b1) a1
      have bc : f b = f c := by rw [← ab]; exact e
      exact decide_eq_false (le_nlt (ll_trans (b2 bc) (a2 ab)))
    · rw [if_neg e]
      exact decide_eq_false (le_nlt (ll_trans b1 a1))) xs x
  exact ⟨m, h1, h2, fun y hy => (nl _ _ (h3 y hy)).1⟩
theorem alike_all_ti (xs : List (List Int)) : PySem.W.AlikeAll (xs.map ti) := by
  constructor
  · intro x hx y hy
    obtain ⟨a, _, rfl⟩ := List.mem_map.mp hx
    obtain ⟨b, _, rfl⟩ := List.mem_map.mp hy
    exact alike_ti a b
  · intro x hx
    obtain ⟨a, _, rfl⟩ := List.mem_map.mp hx
    exact fun e => by cases e
theorem alike_all_pd (f : List Int → List Int) (xs : List (List Int)) : PySem.W.AlikeAll (xs.map (pd f)) := by
  constructor
  · intro x hx y hy
    obtain ⟨a, _, rfl⟩ := List.mem_map.mp hx
    obtain ⟨b, _, rfl⟩ := List.mem_map.mp hy
    show PySem.W.alike (.tuple [_, _]) (.tuple [_, _]) = true
    simp only [PySem.W.alike, PySem.W.alikeAll, PySem.W.alike_ints, Bool.and_self]
  · intro x hx
    obtain ⟨a, _, rfl⟩ := List.mem_map.mp hx
    exact fun e => by cases e
theorem dep_ti (x : List Int) : (ti x).depth = 1 := by
  show PyData.depth (.tuple _) = 1
  rw [PyData.depth, PySem.W.depth_ints]
theorem dep_all {enc : List Int → D} {n : Nat} (h : ∀ x, (enc x).depth ≤ n) : ∀ xs : List (List Int), PyData.depthAll (xs.map enc) ≤ n
  | [] => Nat.zero_le _
  | x :: xs => by
    rw [List.map_cons, PyData.depthAll]
    have := h x
    have := dep_all h xs
    omega
theorem dep_pd (f : List Int → List Int) (u : List Int) : (pd f u).depth ≤ 2 := by
  show PyData.depth (.tuple [_, _]) ≤ 2
  simp only [PyData.depth, PyData.depthAll, PySem.W.depth_ints]
  exact Nat.le_refl _
end TB

namespace TB
open PySem L2 PySem.Spec PyProof.Rows
section
variable {X : Cx} {W : WX} {F0 H0 : Hp} {Γ : List S} {a b : Expr} {ds : List D} {x : D} {pos : Pos}
theorem jt_inL (hu : X.A.units + 65 < cLine) (h1 : SeqAt.shaped x = true) (h2 : SeqAt.shaped (.list ds) = true) (ha : JE X WF F0 H0 Γ a (.v x)) (hb : JE X WF F0 H0 Γ b (.v (.list ds))) (hm : behindInMarks .In b = false := by rfl) : JT X F0 H0 Γ (.Compare a [.In] [b] pos) (ds.any fun z => PyData.eqv z x) :=
  jt_cmp (op_inD hu) (rd_inD h1 h2) ha hb hm
theorem jt_notInL (hu : X.A.units + 65 < cLine) (h1 : SeqAt.shaped x = true) (h2 : SeqAt.shaped (.list ds) = true) (ha : JE X WF F0 H0 Γ a (.v x)) (hb : JE X WF F0 H0 Γ b (.v (.list ds))) (hm : behindInMarks .NotIn b = false := by rfl) : JT X F0 H0 Γ (.Compare a [.NotIn] [b] pos) (!ds.any fun z => PyData.eqv z x) :=
  jt_cmp (op_notInD hu) (rd_notInD h1 h2) ha hb hm
end
/-! a constant of the module: a tuple of tuples of integers -/
inductive KAll (K : PySem.W.Frag) : List Addr → List (List Int) → Prop
  | nil : KAll K [] []
  | cons {a : Addr} {as : List Addr} {x : List Int} {xs : List (List Int)} : (∀ F, Dp K F (.ref a) (ti x)) → KAll K as xs → KAll K (a :: as) (x :: xs)
theorem kall_len {K : PySem.W.Frag} : ∀ {as : List Addr} {xs : List (List Int)}, KAll K as xs → as.length = xs.length
  | _, _, .nil => rfl
  | _, _, .cons _ t => congrArg (· + 1) (kall_len t)
theorem kall_da {K : PySem.W.Frag} (F : Hp) : ∀ {as : List Addr} {xs : List (List Int)}, KAll K as xs → DpAll K F (as.map V.ref) (xs.map ti)
  | _, _, .nil => .nil
  | _, _, .cons h t => .cons (h F) (kall_da F t)
theorem vals_refs : ∀ as : List Addr, Vals (as.map V.ref) (as.map Value.ref)
  | [] => .nil
  | a :: as => .cons (show RelV (.ref a) (.ref a) from rfl) (vals_refs as)
theorem dp_kT {K : PySem.W.Frag} {a : Addr} {od : Option Addr} {as : List Addr} {xs : List (List Int)} {n : Nat} {sl : Array (Option Value)} (h : K.lookup a = some ⟨.type "tuple", od, .seq (as.map Value.ref).toArray n, sl⟩) (hl : as.length ≤ 100) (k : KAll K as xs) : ∀ F, Dp K F (.ref a) (.tuple (xs.map ti)) := fun F =>
  .tup (xs := as.map V.ref) (.inr ⟨_, _, _, h, rfl, rfl, (by
    have e : (as.map Value.ref).toArray.size = as.length := by simp
    have s : (100 : Nat) ≤ sizeLine := by decide
    omega), by simpa using vals_refs as⟩) (kall_da F k)
/-! lists of tuples of integers, compared -/
theorem eqv_tis : ∀ xs ys : List (List Int), PyData.eqvAll (xs.map ti) (ys.map ti) = decide (xs = ys)
  | [], [] => by simp [PyData.eqvAll]
  | [], y :: ys => by simp [PyData.eqvAll]
  | x :: xs, [] => by simp [PyData.eqvAll]
  | x :: xs, y :: ys => by
    rw [List.map_cons, List.map_cons, PyData.eqvAll, eqv_ti, eqv_tis xs ys]
    by_cases h : x = y <;> simp [h]
theorem eqv_ltis (xs ys : List (List Int)) : PyData.eqv (.list (xs.map ti)) (.list (ys.map ti)) = decide (xs = ys) := by
  rw [PyData.eqv, eqv_tis]
/-! the law's own units -/
def halfV (k : Nat) : List Int := [1 - 2 * ((0 + (k : Int)) / 8), 1 - 2 * ((0 + (k : Int)) / 4 % 2), 1 - 2 * ((0 + (k : Int)) / 2 % 2), 1 - 2 * ((0 + (k : Int)) % 2)]
def axV (k : Nat) : List Int := ([0, 0, 0, 0] : List Int).set k 2
def halfs (k : Nat) : List (List Int) := (List.range k).map halfV
def axs (k : Nat) : List (List Int) := halfs 16 ++ (List.range k).flatMap fun k => [axV k, (axV k).map fun p => 0 - p]
theorem halfs_succ (k : Nat) : halfs (k + 1) = halfs k ++ [halfV k] := by
  unfold halfs
  rw [List.range_succ, List.map_append]
  rfl
theorem axs_succ (k : Nat) : axs (k + 1) = axs k ++ [axV k, (axV k).map fun p => 0 - p] := by
  unfold axs
  rw [List.range_succ, List.flatMap_append, List.append_assoc]
  rfl
theorem axs_perm : unitsL.Perm (axs 4) := by decide +kernel
theorem units_asc : unitsL.Pairwise (fun a b => a ≤ b) := by decide +kernel
theorem axs_sort : sortLL (axs 4) = unitsL := sort_to axs_perm units_asc
theorem axs_ne : ∀ l ∈ axs 4, l ≠ [] := by decide +kernel
theorem axs_len {k : Nat} (h : k ≤ 4) : (axs k).length ≤ 24 := by
  have : ∀ k : Fin 5, (axs k.val).length ≤ 24 := by decide +kernel
  exact this ⟨k, by omega⟩
theorem units_ne : ∀ l ∈ unitsL, l ≠ [] := by decide +kernel
/-! a small number that is drawn -/
def mostV (ns : List Int) (p : Nat) : Int := ([3, 7, 21] : List Int).getD (ns.getD p 0 / 2 % 3).toNat 0
def smallV (ns : List Int) (p : Nat) : List Int := (List.range 4).map fun k => 2 * (ns.getD (p + 1 + k) 0 % (mostV ns p + 1) - mostV ns p / 2) + ns.getD p 0 % 2
theorem mostV_in (ns : List Int) (p : Nat) : 3 ≤ mostV ns p ∧ mostV ns p ≤ 21 := by
  have : ∀ j : Fin 3, 3 ≤ ([3, 7, 21] : List Int).getD j.val 0 ∧ ([3, 7, 21] : List Int).getD j.val 0 ≤ 21 := by decide
  exact this ⟨(ns.getD p 0 / 2 % 3).toNat, by omega⟩
theorem smallV_G (ns : List Int) (p : Nat) : G 10 (smallV ns p) := by
  constructor
  · show isNum [_, _, _, _] = true
    refine isNum_of ⟨?_, ?_, ?_⟩ <;> (dsimp only; omega)
  · intro x hx
    unfold smallV at hx
    obtain ⟨k, _, rfl⟩ := List.mem_map.mp hx
    have h1 := mostV_in ns p
    have h2 := Int.emod_nonneg (ns.getD (p + 1 + k) 0) (show mostV ns p + 1 ≠ 0 by omega)
    have h3 := Int.emod_lt_of_pos (ns.getD (p + 1 + k) 0) (show 0 < mostV ns p + 1 by omega)
    unfold Bt
    omega
def R_units : List D → Out → Prop := fun ds o => ds = [] ∧ o = .o (unitsL.map ti)
def R_law_small : List D → Out → Prop := fun ds o => ∃ (ns : List Int) (p : Nat) (z : Int), ds = [li ns, .int z] ∧ z = (p : Int) ∧ In9 ns ∧ p + 5 ≤ ns.length ∧ o = .v (ti (smallV ns p))
end TB
namespace TB
theorem num_ne {x : List Int} (h : isNum x = true) : x ≠ [] := by
  obtain ⟨a, b, c, d, rfl, _⟩ := num_cases h
  exact List.cons_ne_nil _ _
end TB

namespace TB
open PySem L2 PySem.Spec PyProof.Rows
abbrev ClU := Bool × Value × (Addr → Value → Option Addr → TS)
/-- clauses with a name or without -/
def wMixed (K : PySem.W.Frag) (i : Nat) (O : WX) (D : Ends) : List ClU → WX
  | [] => O
  | q :: l => fun k d σ H => ∃ b, PySem.W.exmOne K k q.2.1 = some b
      ∧ (b = true → ∀ a, H a = none → q.2.2 a k d (onlyRt D) (match q.1 with | true => σ.set i (some (.ref a)) | false => σ) H)
      ∧ (b = false → wMixed K i O D l k d σ H)
inductive Mixed (X : Cx) (n : Str) : List ExceptHandler → List ClU → Prop
  | nil : Mixed X n [] []
  | cons {x : Str} {C : Value} {ts : Addr → Value → Option Addr → TS} {b₀ : Stmt} {suite : List Stmt} {p p' : Pos} {es : List ExceptHandler} {l : List ClU} (nm : Names X x C)
      (su : ∀ (a : Addr) (oe : Obj) (k : Value) (d : Option Addr) (pn : List (Addr × Obj)), Zc k d oe → (∃ vs, oe.data = .fields vs) →
        PSs (X.suite a ((a, oe) :: pn)) (b₀ :: suite) (ts a k d))
      (t : Mixed X n es l) : Mixed X n (.ExceptHandler (some (.Name x p)) (some n) (b₀ :: suite) p' :: es) ((true, C, ts) :: l)
  | bare {x : Str} {C : Value} {ts : Addr → Value → Option Addr → TS} {b₀ : Stmt} {suite : List Stmt} {p p' : Pos} {es : List ExceptHandler} {l : List ClU} (nm : Names X x C)
      (su : ∀ (a : Addr) (oe : Obj) (k : Value) (d : Option Addr) (pn : List (Addr × Obj)), Zc k d oe → (∃ vs, oe.data = .fields vs) →
        PSs (X.suite a ((a, oe) :: pn)) (b₀ :: suite) (ts a k d))
      (t : Mixed X n es l) : Mixed X n (.ExceptHandler (some (.Name x p)) none (b₀ :: suite) p' :: es) ((false, C, ts) :: l)
section
variable {X : Cx} {n : Str} {i : Nat} {body : List Stmt} {e₀ : ExceptHandler} {es : List ExceptHandler} {l : List ClU} {pos : Pos} {tb : WX → TS} {O : WX}
theorem ps_mixed (st : X.stack = X.env :: X.outer) (fr : X.env.frame = some X.env.locals) (nd : X.N.Nodup) (hi : X.N[i]? = some n) (kl : X.env.kindOf n = some .local) (tk : L2.Takes X O)
    (hb : ∀ (W : WX) (pn : List (Addr × Obj)) (xe : Value → Shared → Prop), L2.Takes (X.tr pn xe) W →
      PassesOwn (model X.prog X.w) X.A X.env xe → PSs (X.tr pn xe) body (tb W))
    (cl : Mixed X n (e₀ :: es) l) : PS X (.Try body (e₀ :: es) [] [] pos) (fun D σ H => tb (wMixed X.K i O D l) D σ H) := by
  refine ⟨fun pins s σ H D I wish => ?_⟩
  have ok := I.ok
  have loc : Loc X.env.scope n := .inl kl
  have hfr : X.A.frames = some (X.env :: X.outer) := by
    rw [ok.frames, st]
  refine wpAny_Try_except (wpAny_mono ((hb (wMixed X.K i O D l) (X.pn ++ pins) _
    (fun u s1 caught => ?_) PassesOwn.looking).run [] s σ H D (I.toTry _) wish) (fun fl s1 out => ?_) (fun _ _ left => left))
  · obtain ⟨a, B, s0, _, σ1, H1, k, d, rfl, J0, nb, up, sk, na, os, ag, wi⟩ := caught
    have J : Inv X pins σ1 H1 s0 := J0.ofTry ok
    have sk2 : Sky B (X.env :: X.outer) a (Zc k d) X.env.locals s1.heap := by
      rw [← st]
      exact sk
    show wpAny (model X.prog X.w) X.A (noteFrame (.ref a) X.env) _ _ _
    refine Sky.land Zc.steady hfr fr sk2 fun hA lA uA => ?_
    have JA : Inv X pins σ1 H1 { s1 with heap := hA } := J.landed nb lA.1 (up.trans uA) os ag
    obtain ⟨oA, vA, eA, zA, dA⟩ := lA.there
    have out : a ∉ frs (X.env :: X.outer) := fun m => by
      obtain ⟨_, o2, e2, no⟩ := lA.2.2.1.mem m
      cases eA.symm.trans e2
      exact no _ dA
    have nL : a ≠ X.env.locals := fun z =>
      out (List.mem_filterMap.mpr ⟨X.env, List.mem_cons_self, by rw [fr, z]⟩)
    have nF : a ∉ X.fs := fun m => by
      obtain ⟨e, he, w⟩ := List.mem_filterMap.mp m
      exact out (List.mem_filterMap.mpr ⟨e, List.mem_cons_of_mem _ he, w⟩)
    have SA := JA.suite eA dA na nL nF
    clear hb
    generalize e₀ :: es = hs at cl ⊢
    clear wish
    induction cl with
    | nil =>
      refine wpAny_handleBy_nil ?_
      obtain ⟨_, _, _, oe, vs, T, _, _, he, _, hd, h1, _⟩ := id lA
      unfold PySem.passOn
      refine wpAny_bind (wpAny_field he hd h1 ?_)
      rw [if_neg (show ¬ ((Value.ref T == Value.none) = true) from by simp)]
      have fin : wpAny (model X.prog X.w) X.A (setFlight (.ref a) X.env.frame)
          (fun _ s4 => wpAny (model X.prog X.w) X.A (throw (.ref a) : Sem Flow) (SP X pins D) X.xe s4) X.xe { s1 with heap := hA } := by
        rw [fr]
        refine HandSPX.setFlight_upZ lA fun h4 sk4 u4 => wpAny_throw (tk _ _ ?_)
        refine ⟨a, B, s0, pins, σ1, H1, k, d, rfl, J, nb, (up.trans uA).trans u4, ?_, na, os, ag, wi⟩
        exact .inr (.inr (by rw [st]; exact sk4))
      first
        | exact wpAny_bind (wpAny_pure (wpAny_bind fin))
        | exact wpAny_bind fin
    | @cons x C ts b₀ suite p p' es2 l2 nm su t ih =>
      obtain ⟨b, hx, yes, no⟩ := wi
      refine wpAny_handleBy_cons (codeAny_handlers_test ?_) (by intro z; cases z)
      have LT : PySem.W.Looks (model X.prog X.w) hA (typeOf (.ref a)) k := fun A Q E s keep fin =>
        wpAny_typeOf_ref (keep _ _ eA) (by rw [zA.1]; exact fin)
      have LM := PySem.W.exm_one (M := model X.prog X.w) JA.kIn LT hx
      have asks : ∀ {Q : Value → Shared → Prop} {E : Value → Shared → Prop}, Q C { s1 with heap := hA } →
          wpAny (model X.prog X.w) (X.A.mark (some (.ref a))) (eval (.Name x p) X.env) Q E { s1 with heap := hA } := fun fin => by
        obtain ⟨g, db, m | ⟨m, v, z⟩⟩ := nm
        · exact ld_glob (X := X.suite a ((a, oA) :: (X.pn ++ pins))) SA g m fin db
        · exact ld_blt (X := X.suite a ((a, oA) :: (X.pn ++ pins))) SA g m v fin z db
      refine asks (LM.here ?_)
      cases b with
      | false =>
        show wpAny _ X.A (handleBy (.ref a) X.env es2) _ _ _
        exact ih (no rfl)
      | true =>
        refine codeAny_handlers_suite_as (HandSPX.lands_againZ lA fun hB lB uB => ?_)
        have JB : Inv X pins σ1 H1 { s1 with heap := hB } := J.landed nb lB.1 ((up.trans uA).trans uB) os ag
        obtain ⟨oB, vB, eB, zB, dB⟩ := lB.there
        refine store_ok (X := X.suite a ((a, oB) :: (X.pn ++ pins))) (v := .ref a) (JB.suite eB dB na nL nF) nd hi loc rfl (fun s5 S5 => ?_) (.inr kl)
        refine wpAny_mono ((su a oB k d (X.pn ++ pins) zB ⟨_, dB⟩).run [] s5 _ H1 (onlyRt D) S5 (yes rfl a na)) (fun fl s6 end6 => ?_) (fun _ _ z => z.elim)
        cases fl with
        | next => exact (end6.choose_spec.choose_spec.2 : False).elim
        | brk => exact (end6.choose_spec.choose_spec.2 : False).elim
        | cont => exact (end6.choose_spec.choose_spec.2 : False).elim
        | ret u =>
          obtain ⟨v6, σ6, H6, S6, r6, w6⟩ := end6
          exact gone_ok (S6.unsuite ok) nd hi kl fun s7 J7 => ⟨_, _, _, J7, r6, w6⟩
    | @bare x C ts b₀ suite p p' es2 l2 nm su t ih =>
      obtain ⟨b, hx, yes, no⟩ := wi
      refine wpAny_handleBy_cons (codeAny_handlers_test ?_) (by intro z; cases z)
      have LT : PySem.W.Looks (model X.prog X.w) hA (typeOf (.ref a)) k := fun A Q E s keep fin =>
        wpAny_typeOf_ref (keep _ _ eA) (by rw [zA.1]; exact fin)
      have LM := PySem.W.exm_one (M := model X.prog X.w) JA.kIn LT hx
      have asks : ∀ {Q : Value → Shared → Prop} {E : Value → Shared → Prop}, Q C { s1 with heap := hA } →
          wpAny (model X.prog X.w) (X.A.mark (some (.ref a))) (eval (.Name x p) X.env) Q E { s1 with heap := hA } := fun fin => by
        obtain ⟨g, db, m | ⟨m, v, z⟩⟩ := nm
        · exact ld_glob (X := X.suite a ((a, oA) :: (X.pn ++ pins))) SA g m fin db
        · exact ld_blt (X := X.suite a ((a, oA) :: (X.pn ++ pins))) SA g m v fin z db
      refine asks (LM.here ?_)
      cases b with
      | false =>
        show wpAny _ X.A (handleBy (.ref a) X.env es2) _ _ _
        exact ih (no rfl)
      | true =>
        refine codeAny_handlers_suite (HandSPX.lands_againZ lA fun hB lB uB => ?_)
        have JB : Inv X pins σ1 H1 { s1 with heap := hB } := J.landed nb lB.1 ((up.trans uA).trans uB) os ag
        obtain ⟨oB, vB, eB, zB, dB⟩ := lB.there
        refine wpAny_mono ((su a oB k d (X.pn ++ pins) zB ⟨_, dB⟩).run [] _ _ H1 (onlyRt D) (JB.suite eB dB na nL nF) (yes rfl a na)) (fun fl s6 end6 => ?_) (fun _ _ z => z.elim)
        cases fl with
        | next => exact (end6.choose_spec.choose_spec.2 : False).elim
        | brk => exact (end6.choose_spec.choose_spec.2 : False).elim
        | cont => exact (end6.choose_spec.choose_spec.2 : False).elim
        | ret u =>
          obtain ⟨v6, σ6, H6, S6, r6, w6⟩ := end6
          exact ⟨_, _, _, S6.unsuite ok, r6, w6⟩
  · cases fl with
    | next =>
      obtain ⟨σ', H', J, w⟩ := out
      exact wpAny_execs_nil ⟨σ', H', J.ofTry ok, w⟩
    | brk => exact out.elim fun σ' z => z.elim fun H' z => ⟨σ', H', z.1.ofTry ok, z.2⟩
    | cont => exact out.elim fun σ' z => z.elim fun H' z => ⟨σ', H', z.1.ofTry ok, z.2⟩
    | ret u =>
      obtain ⟨v, σ', H', J, r, w⟩ := out
      exact ⟨v, σ', H', J.ofTry ok, r, w⟩
end
section
variable {X : Cx} {W : WX} {F0 H0 : Hp} {Γ Γ1 : List S} {body su1 su2 : List Stmt} {b1 b2 : Stmt} {n x1 x2 : Str} {i : Nat} {p1 p2 q1 q2 pos : Pos} {C1 C2 c : Addr} {so : SO} {y : D}
/-- except C1 as n: .. except C2: ..; nothing is raised -/
theorem js_mix (c1 : Names X x1 (.ref C1)) (c2 : Names X x2 (.ref C2)) (tk : L2.Takes X W) (hN : X.N.Nodup) (hcl : so.clean)
    (hb : ∀ (W' : WX) (pn : List (Addr × Obj)) (xe : Value → Shared → Prop), L2.Takes (X.tr pn xe) W' → PassesOwn (model X.prog X.w) X.A X.env xe → JSs (X.tr pn xe) W' F0 H0 Γ body so)
    (hi : X.N[i]? = some n := by rfl) (hs : X.stack = X.env :: X.outer := by rfl) (hf : X.env.frame = some X.env.locals := by rfl) (hln : X.env.kindOf n = some .local := by rfl) :
    JS X W F0 H0 Γ (.Try body [.ExceptHandler (some (.Name x1 p1)) (some n) (b1 :: su1) q1, .ExceptHandler (some (.Name x2 p2)) none (b2 :: su2) q2] [] [] pos) so :=
  ps_imp (ps_mixed (i := i) (tb := fun W' => tS X.K W' F0 H0 Γ so) hs hf hN hi hln tk hb (.cons (C := .ref C1) (ts := fun _ _ _ => tNever) c1 (fun _ _ _ _ _ _ _ => pss_never) (.bare (C := .ref C2) (ts := fun _ _ _ => tNever) c2 (fun _ _ _ _ _ _ _ => pss_never) .nil))) fun D' σ H ⟨F, ok, q⟩ => ⟨F, ok, pso_clean hcl q⟩
theorem js_mixX1 (c1 : Names X x1 (.ref C1)) (c2 : Names X x2 (.ref C2)) (tk : L2.Takes X W) (hN : X.N.Nodup) (ex : PySem.W.exmOne X.K (.ref c) (.ref C1) = some true)
    (hb : ∀ (W' : WX) (pn : List (Addr × Obj)) (xe : Value → Shared → Prop), L2.Takes (X.tr pn xe) W' → PassesOwn (model X.prog X.w) X.A X.env xe → JSs (X.tr pn xe) W' F0 H0 Γ body (.x c Γ1))
    (hsu : ∀ (a : Addr) (oe : Obj) (pn : List (Addr × Obj)), Zc (.ref c) none oe → (∃ vs, oe.data = .fields vs) → JSs (X.suite a ((a, oe) :: pn)) WF F0 H0 (Γ1.set i (.r (.ref a))) (b1 :: su1) (.rt y))
    (hi : X.N[i]? = some n := by rfl) (hs : X.stack = X.env :: X.outer := by rfl) (hf : X.env.frame = some X.env.locals := by rfl) (hln : X.env.kindOf n = some .local := by rfl) :
    JS X W F0 H0 Γ (.Try body [.ExceptHandler (some (.Name x1 p1)) (some n) (b1 :: su1) q1, .ExceptHandler (some (.Name x2 p2)) none (b2 :: su2) q2] [] [] pos) (.rt y) :=
  ps_imp (ps_mixed (i := i) (tb := fun W' => tS X.K W' F0 H0 Γ (.x c Γ1)) hs hf hN hi hln tk hb (.cons (C := .ref C1) (ts := tsOf X F0 H0 Γ1 i c y) c1 (fun a oe cls d pn hz hfl => ⟨fun pins s σ H D' I ⟨e1, e2, t⟩ => by
    subst e1 e2
    exact (hsu a oe pn hz hfl).run pins s σ H D' I t⟩) (.bare (C := .ref C2) (ts := fun _ _ _ => tNever) c2 (fun _ _ _ _ _ _ _ => pss_never) .nil)))
    fun D' σ H ⟨F, ok, q⟩ => ⟨F, ok, fun σ' F' H' e ok' => ⟨true, ex, fun _ a _ => ⟨rfl, rfl, F', ok'.setR i _, fun v F2 H2 e2 z d => q v F2 H2 (e.trans e2) z d⟩, fun z => Bool.noConfusion z⟩⟩
theorem js_mixX2 (c1 : Names X x1 (.ref C1)) (c2 : Names X x2 (.ref C2)) (tk : L2.Takes X W) (hN : X.N.Nodup) (ex1 : PySem.W.exmOne X.K (.ref c) (.ref C1) = some false) (ex : PySem.W.exmOne X.K (.ref c) (.ref C2) = some true)
    (hb : ∀ (W' : WX) (pn : List (Addr × Obj)) (xe : Value → Shared → Prop), L2.Takes (X.tr pn xe) W' → PassesOwn (model X.prog X.w) X.A X.env xe → JSs (X.tr pn xe) W' F0 H0 Γ body (.x c Γ1))
    (hsu : ∀ (a : Addr) (oe : Obj) (pn : List (Addr × Obj)), Zc (.ref c) none oe → (∃ vs, oe.data = .fields vs) → JSs (X.suite a ((a, oe) :: pn)) WF F0 H0 Γ1 (b2 :: su2) (.rt y))
    (hi : X.N[i]? = some n := by rfl) (hs : X.stack = X.env :: X.outer := by rfl) (hf : X.env.frame = some X.env.locals := by rfl) (hln : X.env.kindOf n = some .local := by rfl) :
    JS X W F0 H0 Γ (.Try body [.ExceptHandler (some (.Name x1 p1)) (some n) (b1 :: su1) q1, .ExceptHandler (some (.Name x2 p2)) none (b2 :: su2) q2] [] [] pos) (.rt y) :=
  ps_imp (ps_mixed (i := i) (tb := fun W' => tS X.K W' F0 H0 Γ (.x c Γ1)) hs hf hN hi hln tk hb (.cons (C := .ref C1) (ts := fun _ _ _ => tNever) c1 (fun _ _ _ _ _ _ _ => pss_never) (.bare (C := .ref C2) (ts := fun a cls d D' σ H => cls = .ref c ∧ d = none ∧ tS X.K WF F0 H0 Γ1 (.rt y) D' σ H) c2 (fun a oe cls d pn hz hfl => ⟨fun pins s σ H D' I ⟨e1, e2, t⟩ => by
    subst e1 e2
    exact (hsu a oe pn hz hfl).run pins s σ H D' I t⟩) .nil)))
    fun D' σ H ⟨F, ok, q⟩ => ⟨F, ok, fun σ' F' H' e ok' => ⟨false, ex1, fun z => Bool.noConfusion z, fun _ => ⟨true, ex, fun _ a _ => ⟨rfl, rfl, F', ok', fun v F2 H2 e2 z d => q v F2 H2 (e.trans e2) z d⟩, fun z => Bool.noConfusion z⟩⟩⟩
end
section
variable {X : Cx} {W : WX} {F0 H0 : Hp} {Γ : List S} {a b e : Expr} {x y : D} {pos np : Pos} {c : Addr}
/-- the second operand raises -/
theorem je_eqXR {i : D} (hu : X.A.units + 64 < cLine) (ha : JE X W F0 H0 Γ a (.v i)) (hb : JE X W F0 H0 Γ b (.x c)) (hm : behindInMarks .Eq b = false := by exact nomark _) : JE X W F0 H0 Γ (.Compare a [.Eq] [b] pos) (.x c) :=
  pe_imp (pe_cmpR (op_eqD hu) ha hb hm) fun σ H Q ⟨F, ok, q⟩ => ⟨F, ok, fun v F1 H1 z1 d1 => ⟨F1, ok.mono z1, fun F2 H2 z2 => q F2 H2 (z1.trans z2)⟩⟩
end
end TB

namespace TB
open PySem L2 PySem.Spec PyProof.Rows
/-! ### associates -/
def assoL (x : List Int) : List (List Int) := unitsL.map (mulL x)
def canonL (x : List Int) : List Int := (sortLL (assoL x)).getD 23 []
def leadU (x : List Int) : List Int := (unitsL.find? fun u => decide (mulL x u = canonL x)).getD []
def behindL (x : List Int) : List Int := conjL (leadU x)
theorem u_num {u : List Int} (h : u ∈ unitsL) : isNum u = true := (units_G u h).num
theorem asso_len (x : List Int) : (sortLL (assoL x)).length = 24 := by
  rw [(sort_perm _).length_eq, assoL, List.length_map]
  rfl
theorem getD_in {xs : List (List Int)} {i : Nat} (h : i < xs.length) : xs.getD i [] ∈ xs := by
  rw [List.getD_eq_getElem?_getD, List.getElem?_eq_getElem h]
  exact List.getElem_mem h
theorem asc_last {xs : List (List Int)} {n : Nat} (hl : xs.length = n + 1) (hp : xs.Pairwise (fun a b => a ≤ b)) : ∀ y ∈ xs, y ≤ xs.getD n [] := fun y hy => by
  obtain ⟨i, hi, rfl⟩ := List.getElem_of_mem hy
  rw [List.getD_eq_getElem?_getD, List.getElem?_eq_getElem (by omega)]
  show xs[i] ≤ xs[n]
  by_cases e : i = n
  · subst e
    exact List.le_refl _
  · exact (List.pairwise_iff_getElem.mp hp) i n hi (by omega) (by omega)
theorem canon_in (x : List Int) : canonL x ∈ assoL x := (sort_perm _).mem_iff.mp (getD_in (by rw [asso_len]; decide))
theorem canon_ge (x : List Int) : ∀ y ∈ assoL x, y ≤ canonL x := fun y hy => asc_last (asso_len x) (sort_pw _) y ((sort_perm _).mem_iff.mpr hy)
theorem canon_eq {x m : List Int} (h1 : m ∈ assoL x) (h2 : ∀ y ∈ assoL x, y ≤ m) : m = canonL x := ll_anti (canon_ge x m h1) (h2 _ (canon_in x))
theorem max_canon (x : List Int) : PySem.W.maxD (ti (mulL x [-2, 0, 0, 0])) (((unitsL.drop 1).map (mulL x)).map ti) = ti (canonL x) := by
  obtain ⟨m, h1, h2, h3⟩ := max_ti ((unitsL.drop 1).map (mulL x)) (mulL x [-2, 0, 0, 0])
  rw [h2, canon_eq (x := x) h1 h3]
/-- a number other than 0 may be taken away ahead -/
theorem norm0 {x : List Int} (h : isNum x = true) (h0 : normL x = 0) : zeroB x = true := by
  obtain ⟨a, b, c, d, rfl, k⟩ := num_cases h
  have n := norm_pr k
  rw [h0] at n
  have pa := sq_nn a; have pb := sq_nn b; have pc := sq_nn c; have pd := sq_nn d
  have z : ∀ y : Int, y * y = 0 → y = 0 := fun y hy => (Int.mul_eq_zero.mp hy).elim id id
  have ea := z a (by omega)
  have eb := z b (by omega)
  have ec := z c (by omega)
  have ed := z d (by omega)
  subst ea eb ec ed
  rfl
theorem times_inj {m : Int} (h : m ≠ 0) : ∀ {x y : List Int}, timesL m x = timesL m y → x = y
  | [], [], _ => rfl
  | [], _ :: _, e => by cases e
  | _ :: _, [], e => by cases e
  | a :: x, b :: y, e => by
    unfold timesL at e
    rw [List.map_cons, List.map_cons] at e
    injection e with e1 e2
    rw [Int.eq_of_mul_eq_mul_right h e1, times_inj h e2]
theorem mul_cancel {x u v : List Int} (hx : isNum x = true) (h0 : zeroB x = false) (hu : isNum u = true) (hv : isNum v = true) (e : mulL x u = mulL x v) : u = v := by
  have hc := num_conj hx
  have e1 := congrArg (mulL (conjL x)) e
  rw [← mul_asc hc hx hu, ← mul_asc hc hx hv, (mul_conj hx).2, (mul_int _ hu).1, (mul_int _ hv).1] at e1
  refine times_inj (fun z => ?_) e1
  rw [norm0 hx z] at h0
  cases h0
theorem lead_ok (x : List Int) : leadU x ∈ unitsL ∧ mulL x (leadU x) = canonL x := by
  obtain ⟨u, hu, e⟩ := List.mem_map.mp (canon_in x)
  unfold leadU
  cases q : unitsL.find? fun u => decide (mulL x u = canonL x) with
  | none => exact absurd (decide_eq_true e) (List.find?_eq_none.mp q u hu)
  | some v => exact ⟨List.mem_of_find?_eq_some q, of_decide_eq_true (List.find?_some (p := fun u => decide (mulL x u = canonL x)) q)⟩
theorem lead_eq {x u : List Int} (hx : isNum x = true) (h0 : zeroB x = false) (hu : u ∈ unitsL) (e : mulL x u = canonL x) : u = leadU x :=
  mul_cancel hx h0 (u_num hu) (u_num (lead_ok x).1) (e.trans (lead_ok x).2.symm)
theorem max_lead {x : List Int} (hx : isNum x = true) (h0 : zeroB x = false) : PySem.W.maxD (pd (mulL x) [-2, 0, 0, 0]) ((unitsL.drop 1).map (pd (mulL x))) = pd (mulL x) (leadU x) := by
  obtain ⟨m, h1, h2, h3⟩ := max_pd (mulL x) (unitsL.drop 1) [-2, 0, 0, 0]
  have hm : m ∈ unitsL := h1
  rw [h2, lead_eq hx h0 hm (canon_eq (List.mem_map_of_mem hm) fun y hy => by
    obtain ⟨u, hu, rfl⟩ := List.mem_map.mp hy
    exact h3 u hu)]
theorem units_cj : ∀ a ∈ unitsL, conjL a ∈ unitsL ∧ mulL a (conjL a) = [2, 0, 0, 0] ∧ mulL (conjL a) a = [2, 0, 0, 0] := by decide +kernel
theorem behind_u (x : List Int) : behindL x ∈ unitsL := (units_cj _ (lead_ok x).1).1
theorem mul_oneR {x : List Int} (hx : isNum x = true) : mulL x [2, 0, 0, 0] = x := by
  rw [show ([2, 0, 0, 0] : List Int) = [2 * 1, 0, 0, 0] from rfl, (mul_int 1 hx).2]
  unfold timesL
  simp
theorem behind_mul {x : List Int} (hx : isNum x = true) : mulL (canonL x) (behindL x) = x := by
  obtain ⟨h1, h2⟩ := lead_ok x
  rw [← h2, behindL, mul_asc hx (u_num h1) (u_num (units_cj _ h1).1), (units_cj _ h1).2.1, mul_oneR hx]
/-- the associates of an associate -/
theorem asso_perm {x u : List Int} (hx : isNum x = true) (hu : u ∈ unitsL) : (assoL (mulL x u)).Perm (assoL x) := by
  have e : assoL (mulL x u) = (unitsL.map (mulL u)).map (mulL x) := by
    unfold assoL
    rw [List.map_map]
    refine List.map_congr_left fun v hv => ?_
    exact mul_asc hx (u_num hu) (u_num hv)
  rw [e]
  exact ((units_permR u hu).symm).map _
theorem canon_asso {x u : List Int} (hx : isNum x = true) (hu : u ∈ unitsL) : canonL (mulL x u) = canonL x := by
  unfold canonL
  rw [sort_congr (asso_perm hx hu)]
/-- the same greatest one exactly if the lists are the same -/
theorem canon_iff {x y : List Int} (hx : isNum x = true) (hy : isNum y = true) : canonL x = canonL y ↔ sortLL (assoL y) = sortLL (assoL x) := by
  constructor
  · intro e
    obtain ⟨h1, h2⟩ := lead_ok x
    have ey : y = mulL (mulL x (leadU x)) (behindL y) := by
      rw [h2, e]
      exact (behind_mul hy).symm
    have hm := units_mul _ h1 _ (behind_u y)
    rw [ey, mul_asc hx (u_num h1) (u_num (behind_u y))]
    exact sort_congr (asso_perm hx hm.1)
  · intro e
    unfold canonL
    rw [e]
theorem asso_nodup {x : List Int} (hx : isNum x = true) (h0 : zeroB x = false) : (assoL x).Nodup := by
  have un : unitsL.Nodup := by decide +kernel
  unfold assoL
  refine List.pairwise_map.mpr (List.Pairwise.imp_of_mem (fun {a b} ha hb hne e => ?_) un)
  exact hne (mul_cancel hx h0 (u_num ha) (u_num hb) e)
theorem asso_step {x : List Int} (hx : isNum x = true) (h0 : zeroB x = false) {k : Nat} (hk : k < 23) : (sortLL (assoL x)).getD k [] ≠ (sortLL (assoL x)).getD (k + 1) [] := by
  have nd : (sortLL (assoL x)).Nodup := (sort_perm _).nodup_iff.mpr (asso_nodup hx h0)
  have hl := asso_len x
  rw [List.getD_eq_getElem?_getD, List.getD_eq_getElem?_getD, List.getElem?_eq_getElem (by omega), List.getElem?_eq_getElem (by omega)]
  exact (List.pairwise_iff_getElem.mp nd) k (k + 1) (by omega) (by omega) (by omega)
theorem G.asso {m : Nat} {x y : List Int} (g : G m x) (hy : y ∈ assoL x) : G (m + 10 + 3) y := by
  obtain ⟨u, hu, rfl⟩ := List.mem_map.mp hy
  exact g.mul (units_G u hu)
theorem G.canon {m : Nat} {x : List Int} (g : G m x) : G (m + 10 + 3) (canonL x) := g.asso (canon_in x)
theorem G.behind (x : List Int) : G 10 (behindL x) := units_G _ (behind_u x)
/-- promises of defs over a number that is not 0 -/
def RZ (c q : Addr) (g : List Int → Out) : List D → Out → Prop := fun ds o => ∃ d ns, ds = [d] ∧ Seq d ns ∧ ns.length < 1000 ∧ Sm 300000 ns ∧ o = if isNum ns = true then (if zeroB ns = true then .x q else g ns) else .x c
theorem rzg {c q : Addr} {g : List Int → Out} {m : Nat} {x : List Int} (a : G m x) (h0 : zeroB x = false) (h1 : m ≤ 300000 := by decide) : RZ c q g [ti x] (g x) := ⟨_, x, rfl, .inl rfl, num_len1000 a.num, a.sm.mono h1, by rw [if_pos a.num, if_neg (by rw [h0]; exact Bool.false_ne_true)]⟩
theorem rzgl {c q : Addr} {g : List Int → Out} {m : Nat} {x : List Int} (a : G m x) (h0 : zeroB x = false) (h1 : m ≤ 300000 := by decide) : RZ c q g [li x] (g x) := ⟨_, x, rfl, .inr rfl, num_len1000 a.num, a.sm.mono h1, by rw [if_pos a.num, if_neg (by rw [h0]; exact Bool.false_ne_true)]⟩
def RZ2 (c q : Addr) (g : List Int → List Int → D) : List D → Out → Prop := fun ds o => ∃ d e ns ms, ds = [d, e] ∧ Seq d ns ∧ Seq e ms ∧ ns.length < 1000 ∧ ms.length < 1000 ∧ Sm 300000 ns ∧ Sm 300000 ms ∧ o = if isNum ns = true ∧ isNum ms = true then (if zeroB ns = true then .x q else if zeroB ms = true then .x q else .v (g ns ms)) else .x c
end TB

namespace TB
open PySem L2 PySem.Spec PyProof.Rows
section
variable {X : Cx} {W : WX} {F0 H0 : Hp} {Γ : List S} {a b e : Expr} {ds es : List D} {pos : Pos}
theorem cut_whole {l u : Option Int} (h : HT.sIx ds.length 0 l = 0 ∧ HT.sIx ds.length ds.length u = ds.length) : cutD ds l u = ds := by
  unfold cutD
  rw [h.1, h.2, List.drop_zero, Nat.sub_zero, List.take_length]
/-- t[lo:hi], also the whole of it -/
theorem je_slTA {lo hi : Option Expr} {l u : Option Int} {p2 : Pos} (he : JE X W F0 H0 Γ e (.v (.tuple ds))) (hl : JO X F0 H0 Γ lo l) (hu : JO X F0 H0 Γ hi u) : JE X W F0 H0 Γ (.Subscript e (.Slice lo hi none p2) pos) (.v (.tuple (cutD ds l u))) :=
  pe_imp (pe_slice sl_tupA he hl hu) fun σ H Q ⟨F, ok, q⟩ => ⟨F, ok, fun v F1 H1 z1 d1 => ⟨F1, ok.mono z1, fun F2 H2 z2 => ⟨F2, (ok.mono z1).mono z2, fun F3 H3 z3 => by
    cases d1 with
    | tup g1 g2 =>
      have zz := (z1.trans z2).trans z3
      have g1' := st_ex (z2.f.trans z3.f) g1
      have g2' := da_ex (z2.f.trans z3.f) _ _ g2
      refine ⟨_, _, rfl, st_ex z3.s g1', fun hw => ?_, fun hw => po_tup z3.s (cut_da g2') fun v F' H' z d => q v F' H' (zz.trans z) d⟩
      rw [da_len g2] at hw
      refine q _ F3 H3 zz ?_
      rw [cut_whole hw]
      exact .tup g1' g2'⟩⟩⟩
/-- t + u of tuples, also empty ones -/
theorem rd_catTA {K : PySem.W.Frag} (hl : ds.length + es.length ≤ 100000) : RD K (rCatA K) (.tuple ds) (.tuple es) (.tuple (ds ++ es)) := fun v u F H Q s d1 d2 q => by
  cases d1 with
  | tup a1 a2 =>
    cases d2 with
    | tup b1 b2 =>
      have l1 := da_len a2
      have l2 := da_len b2
      refine ⟨_, _, _, _, rfl, rfl, st_ex s a1, st_ex s b1, by rw [l1, l2]; exact Nat.le_trans hl (by decide), fun z => ?_, fun _ z => ?_, fun _ _ => po_tup s (da_app a2 b2) q⟩
      · subst z
        cases a2
        exact q _ F H (Fz.refl s) (.tup b1 b2)
      · subst z
        cases b2
        refine q _ F H (Fz.refl s) ?_
        rw [List.append_nil]
        exact .tup a1 a2
theorem je_catTA (hl : ds.length + es.length ≤ 100000) (ha : JE X W F0 H0 Γ a (.v (.tuple ds))) (hb : JE X W F0 H0 Γ b (.v (.tuple es))) : JE X W F0 H0 Γ (.BinOp a .Add b pos) (.v (.tuple (ds ++ es))) := je_bin op_catA (rd_catTA hl) ha hb
end
/-! ### k05 -/
def rotL (x : List Int) (t : Nat) : List Int := x.drop t ++ x.take t
theorem rot_num {x : List Int} (h : isNum x = true) : ∀ t, t < 4 → isNum (rotL x t) = true := by
  obtain ⟨a, b, c, d, rfl, k⟩ := num_cases h
  obtain ⟨k1, k2, k3⟩ := k
  intro t ht
  have : t = 0 ∨ t = 1 ∨ t = 2 ∨ t = 3 := by omega
  rcases this with rfl | rfl | rfl | rfl
  · exact isNum_of ⟨k1, k2, k3⟩
  · exact isNum_of ⟨by omega, by omega, by omega⟩
  · exact isNum_of ⟨by omega, by omega, by omega⟩
  · exact isNum_of ⟨by omega, by omega, by omega⟩
theorem rot_zero (x : List Int) (t : Nat) : zeroB (rotL x t) = zeroB x := by
  unfold zeroB rotL
  rw [List.any_append, Bool.or_comm, ← List.any_append, List.take_append_drop]
theorem rot_G {m : Nat} {x : List Int} (g : G m x) {t : Nat} (ht : t < 4) : G m (rotL x t) := ⟨rot_num g.num t ht, fun y hy => by
  rcases List.mem_append.mp hy with h | h
  · exact g.sm y (List.mem_of_mem_drop h)
  · exact g.sm y (List.mem_of_mem_take h)⟩
theorem cut_from {x : List Int} (hl : x.length = 4) : ∀ t, t < 4 → cutD (x.map PyData.int) (some ((t : Nat) : Int)) none = (x.drop t).map .int ∧ cutD (x.map PyData.int) none (some ((t : Nat) : Int)) = (x.take t).map .int := by
  obtain ⟨a, b, c, d, rfl⟩ := four hl
  intro t ht
  have : t = 0 ∨ t = 1 ∨ t = 2 ∨ t = 3 := by omega
  rcases this with rfl | rfl | rfl | rfl <;> exact ⟨rfl, rfl⟩
/-- not 0: by the norm -/
theorem zero_norm {x : List Int} (h : isNum x = true) : zeroB x = false ↔ normL x ≠ 0 := by
  constructor
  · intro z e
    rw [norm0 h e] at z
    cases z
  · intro z
    cases q : zeroB x with
    | false => rfl
    | true =>
      refine absurd ?_ z
      have e := zero_eq h
      rw [q, decide_eq_true_eq] at e
      rw [e]
      decide
theorem mul_nz {x y : List Int} (hx : isNum x = true) (hy : isNum y = true) (h0 : zeroB x = false) (h1 : zeroB y = false) : zeroB (mulL x y) = false := by
  rw [zero_norm (num_mul hx hy), norm_mul hx hy]
  intro e
  rcases Int.mul_eq_zero.mp e with e | e
  · exact (zero_norm hx).mp h0 e
  · exact (zero_norm hy).mp h1 e
theorem units_nz : ∀ u ∈ unitsL, zeroB u = false := by decide +kernel
theorem conj_nz {x : List Int} (hx : isNum x = true) (h0 : zeroB x = false) : zeroB (conjL x) = false := by
  obtain ⟨a, b, c, d, rfl, _⟩ := num_cases hx
  revert h0
  unfold zeroB conjL
  by_cases h1 : a = 0 <;> by_cases h2 : b = 0 <;> by_cases h3 : c = 0 <;> by_cases h4 : d = 0 <;> simp [h1, h2, h3, h4]
/-- three times a number -/
theorem num_times {x : List Int} (m : Int) (h : isNum x = true) : isNum (timesL m x) = true := by
  obtain ⟨a, b, c, d, rfl, k⟩ := num_cases h
  exact isNum_of (par_mul m k)
theorem norm_timesL {x : List Int} (m : Int) (h : isNum x = true) : normL (timesL m x) = m * m * normL x := by
  rw [← (mul_int m h).1, norm_mul (num_int m) h]
  have : normL [2 * m, 0, 0, 0] = m * m := by
    have n := norm_pr (a := 2 * m) (b := 0) (c := 0) (d := 0) ⟨by omega, by omega, by omega⟩
    have e : 2 * m * (2 * m) = 4 * (m * m) := by grind
    omega
  rw [this]
theorem times_mul {x y : List Int} (m : Int) (hx : isNum x = true) (hy : isNum y = true) : mulL (timesL m x) y = timesL m (mulL x y) := by
  rw [← (mul_int m hx).1, mul_asc (num_int m) hx hy, (mul_int m (num_mul hx hy)).1]
theorem times_le {m : Int} (hm : 0 < m) : ∀ {x y : List Int}, x ≤ y → timesL m x ≤ timesL m y
  | [], y, _ => List.nil_le _
  | a :: x, [], h => absurd h (by simp)
  | a :: x, b :: y, h => by
    rw [List.cons_le_cons_iff] at h
    show a * m :: timesL m x ≤ b * m :: timesL m y
    rw [List.cons_le_cons_iff]
    rcases h with h | ⟨h, g⟩
    · exact .inl (Int.mul_lt_mul_of_pos_right h hm)
    · exact .inr ⟨by rw [h], times_le hm g⟩
theorem canon_times {x : List Int} {m : Int} (hm : 0 < m) (hx : isNum x = true) : canonL (timesL m x) = timesL m (canonL x) := by
  refine (canon_eq (x := timesL m x) ?_ fun y hy => ?_).symm
  · obtain ⟨u, hu, e⟩ := List.mem_map.mp (canon_in x)
    rw [← e, ← times_mul m hx (u_num hu)]
    exact List.mem_map_of_mem hu
  · obtain ⟨u, hu, rfl⟩ := List.mem_map.mp hy
    rw [times_mul m hx (u_num hu)]
    exact times_le hm (canon_ge x _ (List.mem_map_of_mem hu))
theorem canon_norm {x : List Int} (hx : isNum x = true) : normL (canonL x) = normL x := by
  obtain ⟨h1, h2⟩ := lead_ok x
  have n1 : ∀ u ∈ unitsL, normL u = 1 := by decide +kernel
  rw [← h2, norm_mul hx (u_num h1), n1 _ h1, Int.mul_one]
theorem times_other {x : List Int} (hx : isNum x = true) (h0 : zeroB x = false) : canonL x ≠ canonL (timesL 3 x) := fun e => by
  have n := congrArg normL e
  rw [canon_norm hx, canon_norm (num_times 3 hx), norm_timesL 3 hx] at n
  have := (zero_norm hx).mp h0
  omega
end TB
namespace TB
theorem sm_lit {x : List Int} (h : ∀ y ∈ x, y.natAbs < 2 ^ 2) : Sm 1000 x := fun y hy => (show Bt 2 y from h y hy).mono (by decide)
end TB
namespace TB
theorem ask_if {c g : Out} {b1 b2 : Bool} (h : b1 = true ∨ b2 = true) : c = if b1 = true then c else if b2 = true then c else g := by
  rcases h with h | h
  · rw [if_pos h]
  · cases b1 <;> simp [h]
end TB

namespace TB
open PySem L2 PySem.Spec PyProof.Rows PySem.Calls
/-! ### gcd of four -/
def gcd4 (a b c d : Int) : Nat := (((Nat.gcd 0 a.natAbs).gcd b.natAbs).gcd c.natAbs).gcd d.natAbs
theorem ok_gcd4 (a b c d : Value) : argsOk "math.gcd" ⟨[a, b, c, d], []⟩ := by unfold argsOk; kernel_rfl
theorem gives_gcd4 (a b c d : Int) (t1 t2 t3 t4 : Tok) : PySem.Gives (Builtin.«math.gcd» ⟨[.int a t1, .int b t2, .int c t3, .int d t4], []⟩) (.int ((gcd4 a b c d : Nat) : Int)) :=
  .of_wp fun M A E s Q h => by
    obtain ⟨p1, p2, p3, p4, p5⟩ := s
    wp_walk
    exact ⟨_, rfl, h⟩
def rGcd4 : List V → Hp → VK → Prop := fun vs H Q => ∃ a b c d : Int, vs = [.int a, .int b, .int c, .int d] ∧ Q (.int ((gcd4 a b c d : Nat) : Int)) H
theorem cr_gcd4 {X : Cx} : CallR X (.builtin "math.gcd") rGcd4 := by
  intro pins s σ H vs us Q I r h
  obtain ⟨a, b, c, d, e, q⟩ := h
  subst e
  obtain ⟨t1, t2, t3, t4, e⟩ : ∃ t1 t2 t3 t4, us = [.int a t1, .int b t2, .int c t3, .int d t4] := by
    cases r with
    | cons r1 r =>
      cases r with
      | cons r2 r =>
        cases r with
        | cons r3 r =>
          cases r with
          | cons r4 r =>
            cases r
            obtain ⟨t1, e1⟩ := r1
            obtain ⟨t2, e2⟩ := r2
            obtain ⟨t3, e3⟩ := r3
            obtain ⟨t4, e4⟩ := r4
            subst e1 e2 e3 e4
            exact ⟨t1, t2, t3, t4, rfl⟩
  subst e
  exact call_function_meets PySem.W.MGF.kind_gcd PySem.W.MGF.plain_gcd PySem.W.MGF.entry_gcd (ok_gcd4 _ _ _ _) (gives_gcd4 a b c d t1 t2 t3 t4).meets ⟨.int _, H, I.tok _, ⟨_, rfl⟩, q⟩
section
variable {X : Cx} {W : WX} {F0 H0 : Hp} {Γ : List S} {e1 e2 e3 e4 : Expr} {a b c d : Int} {pos np : Pos}
theorem rc_gcd4 {K : PySem.W.Frag} : RC K rGcd4 [.int a, .int b, .int c, .int d] (.v (.int ((gcd4 a b c d : Nat) : Int))) := fun vs F H Q s dv q => by
  cases dv with
  | cons d1 dv =>
    cases dv with
    | cons d2 dv =>
      cases dv with
      | cons d3 dv =>
        cases dv with
        | cons d4 dv =>
          cases dv
          cases d1; cases d2; cases d3; cases d4
          exact ⟨a, b, c, d, rfl, q _ F H (Fz.refl s) (.int _)⟩
theorem je_gcd4 (hm : X.mg "gcd" = some (.builtin "math.gcd")) (h1 : JE X WF F0 H0 Γ e1 (.v (.int a))) (h2 : JE X WF F0 H0 Γ e2 (.v (.int b))) (h3 : JE X WF F0 H0 Γ e3 (.v (.int c))) (h4 : JE X WF F0 H0 Γ e4 (.v (.int d))) (hg : Gl X "gcd" := by rfl)
    (s1 : starEach [e1, e2, e3, e4] X.env = (false, eval e1 X.env) :: starEach [e2, e3, e4] X.env := by rfl) (s2 : starEach [e2, e3, e4] X.env = (false, eval e2 X.env) :: starEach [e3, e4] X.env := by rfl) (s3 : starEach [e3, e4] X.env = (false, eval e3 X.env) :: starEach [e4] X.env := by rfl) (s4 : starEach [e4] X.env = (false, eval e4 X.env) :: starEach [] X.env := by rfl)
    (hpl : (backTo pos (starEach [e2, e3, e4] X.env)).any (·.1) = false := by rfl) : JE X W F0 H0 Γ (.Call (.Name "gcd" np) [e1, e2, e3, e4] [] pos) (.v (.int ((gcd4 a b c d : Nat) : Int))) :=
  pe_imp (pe_callBfun cr_gcd4 hg hm (ja_cons h1 (ja_cons h2 (ja_cons h3 (ja_cons h4 ja_nil s4) s3) s2) s1) (by decide) s1 hpl) fun σ H Q ⟨F, ok, q⟩ => ⟨F, ok, fun vs F1 H1 z1 d1 => rc_gcd4 vs F1 H1 Q z1.s d1 fun v F2 H2 z2 dv => q v F2 H2 (z1.trans z2) dv⟩
end
/-! ### content -/
theorem par_of_even {a b c d : Int} (h1 : ∃ z, a = 2 * z) (h2 : ∃ z, b = 2 * z) (h3 : ∃ z, c = 2 * z) (h4 : ∃ z, d = 2 * z) : Par a b c d := by
  obtain ⟨p, rfl⟩ := h1
  obtain ⟨q, rfl⟩ := h2
  obtain ⟨r, rfl⟩ := h3
  obtain ⟨s, rfl⟩ := h4
  exact ⟨by omega, by omega, by omega⟩
theorem gcd4_dvd (a b c d : Int) : ((gcd4 a b c d : Nat) : Int) ∣ a ∧ ((gcd4 a b c d : Nat) : Int) ∣ b ∧ ((gcd4 a b c d : Nat) : Int) ∣ c ∧ ((gcd4 a b c d : Nat) : Int) ∣ d := by
  unfold gcd4
  rw [Nat.gcd_zero_left]
  have up : ∀ {m : Nat} {z : Int}, m ∣ z.natAbs → (m : Int) ∣ z := fun h => Int.natAbs_dvd_natAbs.mp h
  have h1 := Nat.gcd_dvd_left a.natAbs b.natAbs
  have h2 := Nat.gcd_dvd_right a.natAbs b.natAbs
  have h3 := Nat.gcd_dvd_left (a.natAbs.gcd b.natAbs) c.natAbs
  have h4 := Nat.gcd_dvd_right (a.natAbs.gcd b.natAbs) c.natAbs
  have h5 := Nat.gcd_dvd_left ((a.natAbs.gcd b.natAbs).gcd c.natAbs) d.natAbs
  have h6 := Nat.gcd_dvd_right ((a.natAbs.gcd b.natAbs).gcd c.natAbs) d.natAbs
  exact ⟨up (Nat.dvd_trans h5 (Nat.dvd_trans h3 h1)), up (Nat.dvd_trans h5 (Nat.dvd_trans h3 h2)), up (Nat.dvd_trans h5 h4), up h6⟩
theorem gcd4_great {a b c d m : Int} (h1 : m ∣ a) (h2 : m ∣ b) (h3 : m ∣ c) (h4 : m ∣ d) : m ∣ ((gcd4 a b c d : Nat) : Int) := by
  unfold gcd4
  rw [Nat.gcd_zero_left]
  refine Int.natAbs_dvd_natAbs.mp ?_
  exact Nat.dvd_gcd (Nat.dvd_gcd (Nat.dvd_gcd (Int.natAbs_dvd_natAbs.mpr h1) (Int.natAbs_dvd_natAbs.mpr h2)) (Int.natAbs_dvd_natAbs.mpr h3)) (Int.natAbs_dvd_natAbs.mpr h4)
theorem gcd4_pos {a b c d : Int} (h : zeroB [a, b, c, d] = false) : 0 < ((gcd4 a b c d : Nat) : Int) := by
  by_cases z : ((gcd4 a b c d : Nat) : Int) = 0
  · obtain ⟨h1, h2, h3, h4⟩ := gcd4_dvd a b c d
    rw [z] at h1 h2 h3 h4
    have e1 := Int.zero_dvd.mp h1
    have e2 := Int.zero_dvd.mp h2
    have e3 := Int.zero_dvd.mp h3
    have e4 := Int.zero_dvd.mp h4
    subst e1 e2 e3 e4
    cases h
  · omega
def gcdL (x : List Int) : Int := match x with
  | [a, b, c, d] => ((gcd4 a b c d : Nat) : Int)
  | _ => 0
def contL (x : List Int) : Int := if isNum (x.map fun p => p / gcdL x) = true then gcdL x else gcdL x / 2
/-- m divides the number -/
def Div (m : Int) (x : List Int) : Prop := ∃ y, isNum y = true ∧ x = timesL m y
theorem div_iff {x : List Int} (hx : isNum x = true) (h0 : zeroB x = false) {m : Int} (hm : 0 < m) : 0 < contL x ∧ (Div m x ↔ m ∣ contL x) := by
  obtain ⟨a, b, c, d, rfl, k⟩ := num_cases hx
  have hg := gcd4_pos h0
  obtain ⟨⟨a', ea⟩, ⟨b', eb⟩, ⟨c', ec⟩, ⟨d', ed⟩⟩ := gcd4_dvd a b c d
  have great : ∀ m : Int, m ∣ a → m ∣ b → m ∣ c → m ∣ d → m ∣ ((gcd4 a b c d : Nat) : Int) := fun m h1 h2 h3 h4 => gcd4_great h1 h2 h3 h4
  have hgl : gcdL [a, b, c, d] = ((gcd4 a b c d : Nat) : Int) := rfl
  unfold contL
  rw [hgl]
  generalize ((gcd4 a b c d : Nat) : Int) = g at *
  have g0 : g ≠ 0 := by omega
  have em : ([a, b, c, d] : List Int).map (fun p => p / g) = [a', b', c', d'] := by
    show [a / g, b / g, c / g, d / g] = _
    rw [ea, eb, ec, ed, Int.mul_ediv_cancel_left _ g0, Int.mul_ediv_cancel_left _ g0, Int.mul_ediv_cancel_left _ g0, Int.mul_ediv_cancel_left _ g0]
  rw [em]
  have dv : ∀ {y : List Int}, isNum y = true → [a, b, c, d] = timesL m y → ∃ n, g = m * n ∧ y = timesL n [a', b', c', d'] := fun {y} hy e => by
    obtain ⟨p, q, r, s, rfl, _⟩ := num_cases hy
    have e' : [a, b, c, d] = [p * m, q * m, r * m, s * m] := e
    injection e' with e1 e'
    injection e' with e2 e'
    injection e' with e3 e'
    injection e' with e4 _
    obtain ⟨n, hn⟩ := great m ⟨p, by rw [e1, Int.mul_comm]⟩ ⟨q, by rw [e2, Int.mul_comm]⟩ ⟨r, by rw [e3, Int.mul_comm]⟩ ⟨s, by rw [e4, Int.mul_comm]⟩
    refine ⟨n, hn, ?_⟩
    have one : ∀ {p z z' : Int}, z = p * m → z = g * z' → p = z' * n := fun {p z z'} h1 h2 => by
      refine Int.eq_of_mul_eq_mul_right (show m ≠ 0 by omega) ?_
      rw [← h1, h2, hn]
      grind
    show [p, q, r, s] = [a' * n, b' * n, c' * n, d' * n]
    rw [one e1 ea, one e2 eb, one e3 ec, one e4 ed]
  by_cases hn : isNum [a', b', c', d'] = true
  · rw [if_pos hn]
    refine ⟨hg, fun ⟨y, hy, e⟩ => ?_, fun ⟨n, e⟩ => ⟨timesL n [a', b', c', d'], num_times n hn, ?_⟩⟩
    · obtain ⟨n, h1, _⟩ := dv hy e
      exact ⟨n, h1⟩
    · show _ = [a' * n * m, b' * n * m, c' * n * m, d' * n * m]
      have sw : ∀ z : Int, g * z = z * n * m := fun z => by rw [e]; grind
      rw [ea, eb, ec, ed, sw, sw, sw, sw]
  · rw [if_neg hn]
    have nk : ¬ Par a' b' c' d' := fun h => hn (isNum_of h)
    obtain ⟨k1, k2, k3⟩ := k
    have hev : g % 2 = 0 := by
      rcases Int.emod_two_eq g with h | h
      · exact h
      · refine absurd ?_ nk
        have od : ∀ {z z' : Int}, z = g * z' → z % 2 = z' % 2 := fun {z z'} e => by
          rw [e, Int.mul_emod, h, Int.one_mul, Int.emod_emod]
        rw [od ea, od eb] at k1
        rw [od ea, od ec] at k2
        rw [od ea, od ed] at k3
        exact ⟨k1, k2, k3⟩
    obtain ⟨h, eh⟩ : ∃ h, g = 2 * h := ⟨g / 2, by omega⟩
    have e2 : g / 2 = h := by omega
    rw [e2]
    refine ⟨by omega, fun ⟨y, hy, e⟩ => ?_, fun ⟨n, e⟩ => ⟨timesL (2 * n) [a', b', c', d'], ?_, ?_⟩⟩
    · obtain ⟨n, h1, h2⟩ := dv hy e
      have hne : n % 2 = 0 := by
        rcases Int.emod_two_eq n with h | h
        · exact h
        · refine absurd ?_ nk
          rw [h2] at hy
          obtain ⟨p1, p2, p3⟩ := (isNum4 (a' * n) (b' * n) (c' * n) (d' * n)).mp hy
          have od : ∀ z : Int, (z * n) % 2 = z % 2 := fun z => by rw [Int.mul_emod, h, Int.mul_one, Int.emod_emod]
          rw [od, od] at p1 p2 p3
          exact ⟨p1, p2, p3⟩
      obtain ⟨n', en⟩ : ∃ n', n = 2 * n' := ⟨n / 2, by omega⟩
      refine ⟨n', ?_⟩
      have : 2 * h = 2 * (m * n') := by rw [← eh, h1, en]; grind
      omega
    · show isNum [a' * (2 * n), b' * (2 * n), c' * (2 * n), d' * (2 * n)] = true
      exact isNum_of (par_of_even ⟨a' * n, by grind⟩ ⟨b' * n, by grind⟩ ⟨c' * n, by grind⟩ ⟨d' * n, by grind⟩)
    · show _ = [a' * (2 * n) * m, b' * (2 * n) * m, c' * (2 * n) * m, d' * (2 * n) * m]
      have sw : ∀ z : Int, g * z = z * (2 * n) * m := fun z => by rw [eh, e]; grind
      rw [ea, eb, ec, ed, sw, sw, sw, sw]
end TB
namespace TB
open PySem L2 PySem.Spec PyProof.Rows
section
variable {X : Cx} {W : WX} {F0 H0 : Hp} {Γ : List S} {a b : Expr} {i j : Int} {pos : Pos}
theorem je_fdivW (hc : CDivW i j) (ha : JE X W F0 H0 Γ a (.v (.int i))) (hb : JE X W F0 H0 Γ b (.v (.int j))) : JE X W F0 H0 Γ (.BinOp a .FloorDiv b pos) (.v (.int (i / j))) := je_bin op_fdivW (rd_I hc) ha hb
end
theorem log_bt {n : Nat} {x : Int} (h : Bt n x) (hn : n ≤ 8999) : x.natAbs.log2 < 9000 := by
  by_cases z : x.natAbs = 0
  · rw [z]; decide
  · exact Nat.lt_of_lt_of_le ((Nat.log2_lt z).mpr h) (by omega)
theorem gcd4_bt {a b c d : Int} {n : Nat} (h0 : zeroB [a, b, c, d] = false) (hs : Sm n [a, b, c, d]) : Bt n ((gcd4 a b c d : Nat) : Int) := by
  obtain ⟨h1, h2, h3, h4⟩ := gcd4_dvd a b c d
  have key : ∀ z : Int, z ∈ [a, b, c, d] → z ≠ 0 → ((gcd4 a b c d : Nat) : Int) ∣ z → Bt n ((gcd4 a b c d : Nat) : Int) := fun z hz h d => by
    have b := hs z hz
    have l := Nat.le_of_dvd (Int.natAbs_pos.mpr h) (Int.natAbs_dvd_natAbs.mpr d)
    unfold Bt at b ⊢
    omega
  by_cases e1 : a = 0
  · by_cases e2 : b = 0
    · by_cases e3 : c = 0
      · by_cases e4 : d = 0
        · subst e1 e2 e3 e4
          cases h0
        · exact key d (by simp) e4 h4
      · exact key c (by simp) e3 h3
    · exact key b (by simp) e2 h2
  · exact key a (by simp) e1 h1
def RZc (c q : Addr) (g : List Int → Out) : List D → Out → Prop := fun ds o => ∃ d ns, ds = [d] ∧ Seq d ns ∧ ns.length < 1000 ∧ Sm 8000 ns ∧ o = if isNum ns = true then (if zeroB ns = true then .x q else g ns) else .x c
theorem rzc {c q : Addr} {g : List Int → Out} {m : Nat} {x : List Int} (a : G m x) (h0 : zeroB x = false) (h1 : m ≤ 8000 := by decide) : RZc c q g [ti x] (g x) := ⟨_, x, rfl, .inl rfl, num_len1000 a.num, a.sm.mono h1, by rw [if_pos a.num, if_neg (by rw [h0]; exact Bool.false_ne_true)]⟩
theorem rzcl {c q : Addr} {g : List Int → Out} {m : Nat} {x : List Int} (a : G m x) (h0 : zeroB x = false) (h1 : m ≤ 8000 := by decide) : RZc c q g [li x] (g x) := ⟨_, x, rfl, .inr rfl, num_len1000 a.num, a.sm.mono h1, by rw [if_pos a.num, if_neg (by rw [h0]; exact Bool.false_ne_true)]⟩
theorem cont_pos {x : List Int} (hx : isNum x = true) (h0 : zeroB x = false) : 0 < contL x := (div_iff hx h0 (m := 1) (by decide)).1
theorem cont_div {x : List Int} (hx : isNum x = true) (h0 : zeroB x = false) : Div (contL x) x := (div_iff hx h0 (cont_pos hx h0)).2.mpr (Int.dvd_refl _)
theorem div_mul {m : Int} {x u : List Int} (hu : isNum u = true) (h : Div m x) : Div m (mulL x u) := by
  obtain ⟨y, hy, rfl⟩ := h
  exact ⟨mulL y u, num_mul hy hu, times_mul m hy hu⟩
theorem asso_nz {x u : List Int} (hx : isNum x = true) (h0 : zeroB x = false) (hu : u ∈ unitsL) : zeroB (mulL x u) = false := mul_nz hx (u_num hu) h0 (units_nz u hu)
/-- the contents of associates -/
theorem cont_asso {x u : List Int} (hx : isNum x = true) (h0 : zeroB x = false) (hu : u ∈ unitsL) : contL (mulL x u) = contL x := by
  have hm := num_mul hx (u_num hu)
  have z := asso_nz hx h0 hu
  have p1 := cont_pos hx h0
  have p2 := cont_pos hm z
  obtain ⟨c1, c2, c3⟩ := units_cj u hu
  have back : mulL (mulL x u) (conjL u) = x := by rw [mul_asc hx (u_num hu) (u_num c1), c2, mul_oneR hx]
  have d1 : contL x ∣ contL (mulL x u) := (div_iff hm z p1).2.mp (div_mul (u_num hu) (cont_div hx h0))
  have d2 : contL (mulL x u) ∣ contL x := (div_iff hx h0 p2).2.mp (by
    have := div_mul (u_num c1) (cont_div hm z)
    rw [back] at this
    exact this)
  exact Int.dvd_antisymm (by omega) (by omega) d2 d1
theorem cont_bt {x : List Int} {n : Nat} (hx : isNum x = true) (h0 : zeroB x = false) (hs : Sm n x) : Bt n (contL x) := by
  obtain ⟨a, b, c, d, rfl, _⟩ := num_cases hx
  have h := gcd4_bt h0 hs
  have p := gcd4_pos h0
  unfold contL
  split
  · exact h
  · show Bt n (((gcd4 a b c d : Nat) : Int) / 2)
    exact h.half
/-- some associate is whole -/
theorem some_whole {x : List Int} (hx : isNum x = true) : ∃ u ∈ unitsL, wholeB (mulL x u) = true := by
  obtain ⟨a, b, c, d, rfl, k⟩ := num_cases hx
  obtain ⟨k1, k2, k3⟩ := k
  by_cases ev : a % 2 = 0
  · refine ⟨[2, 0, 0, 0], by decide, ?_⟩
    rw [mul_oneR hx]
    unfold wholeB
    exact decide_eq_true ev
  · have sg : ∀ z : Int, z % 2 = 1 → ∃ w q : Int, (w = 1 ∨ w = -1) ∧ z = w + 4 * q := fun z hz => by
      rcases (show z % 4 = 1 ∨ z % 4 = 3 by omega) with h | h
      · exact ⟨1, z / 4, .inl rfl, by omega⟩
      · exact ⟨-1, (z + 1) / 4, .inr rfl, by omega⟩
    obtain ⟨e, qe, he, ea⟩ := sg a (by omega)
    obtain ⟨f, qf, hf, eb⟩ := sg b (by omega)
    obtain ⟨g, qg, hg, ec⟩ := sg c (by omega)
    obtain ⟨h, qh, hh, ed⟩ := sg d (by omega)
    refine ⟨[e, -f, -g, -h], ?_, ?_⟩
    · rcases he with rfl | rfl <;> rcases hf with rfl | rfl <;> rcases hg with rfl | rfl <;> rcases hh with rfl | rfl <;> decide
    · unfold wholeB
      refine decide_eq_true ?_
      show ((a * e - b * -f - c * -g - d * -h) / 2) % 2 = 0
      rw [ea, eb, ec, ed]
      rcases he with rfl | rfl <;> rcases hf with rfl | rfl <;> rcases hg with rfl | rfl <;> rcases hh with rfl | rfl <;> omega
end TB

namespace TB
open PySem L2 PySem.Spec PyProof.Rows
def unTi (d : D) : List Int := match d with
  | .tuple ds => ds.map ofI
  | _ => []
theorem unTi_ti (x : List Int) : unTi (ti x) = x := by
  show (x.map PyData.int).map ofI = x
  rw [List.map_map]
  exact List.map_id x
section
variable {X : Cx} {W : WX} {F0 H0 : Hp} {Γ : List S} {elt it c : Expr} {n : Str} {py pos : Pos} {scope : Scope} {xs : List (List Int)}
theorem je_lcTIf (i : Nat) {f : List Int → D} {p : List Int → Bool} (hc : X.calm = true) (hN : X.N.Nodup) (hi : JI X F0 H0 Γ (.Name n py) it (xs.map ti)) (ok : BlkOk X.N X.env.scope scope [(n, i)]) (hl : xs.length < 100000)
    (hg : ∀ (s : Shared) (H : Hp) (C : Addr) (cl : List (Str × Addr)) (fp : List Addr), PG (Bk X s H scope C cl fp) (.Name n py) (gName i))
    (ht : ∀ x : List Int, x ∈ xs → ∀ (s : Shared) (H : Hp) (C : Addr) (cl : List (Str × Addr)) (fp : List Addr), JT (Bk X s H scope C cl fp) F0 H0 (Γ.set i (.d (ti x))) c (p x))
    (he : ∀ x : List Int, x ∈ xs → p x = true → ∀ (s : Shared) (H : Hp) (C : Addr) (cl : List (Str × Addr)) (fp : List Addr), JE (Bk X s H scope C cl fp) WF F0 H0 (Γ.set i (.d (ti x))) elt (.v (f x))) (hs : ∀ x, foldedSetIterable it X.env x = pure x := by intro _; rfl) :
    JE X W F0 H0 Γ (.ListComp elt [⟨.Name n py, it, [c], 0⟩] scope pos) (.o ((xs.filter p).map f)) := by
  have q := je_lcIf (W := W) (pos := pos) i (f := fun d => f (unTi d)) (p := fun d => p (unTi d)) hc hN hi ok (by rw [List.length_map]; exact hl) hg (fun d hd s H C cl fp => by
    obtain ⟨x, hx, rfl⟩ := List.mem_map.mp hd
    rw [unTi_ti]
    exact ht x hx s H C cl fp) (fun d hd hp s H C cl fp => by
    obtain ⟨x, hx, rfl⟩ := List.mem_map.mp hd
    rw [unTi_ti] at hp ⊢
    exact he x hx hp s H C cl fp) hs
  rw [List.filter_map, List.map_map] at q
  have e1 : ((fun d => f (unTi d)) ∘ ti) = f := funext fun x => by show f (unTi (ti x)) = f x; rw [unTi_ti]
  have e2 : ((fun d => p (unTi d)) ∘ ti) = p := funext fun x => by show p (unTi (ti x)) = p x; rw [unTi_ti]
  rw [e1, e2] at q
  exact q
end
/-- a slice of a list of tuples -/
def cutT (xs : List (List Int)) (lo hi : Option Int) : List (List Int) := (xs.drop (HT.sIx xs.length 0 lo)).take (HT.sIx xs.length xs.length hi - HT.sIx xs.length 0 lo)
theorem cutD_ti (xs : List (List Int)) (lo hi : Option Int) : cutD (xs.map ti) lo hi = (cutT xs lo hi).map ti := by
  unfold cutD cutT
  rw [List.length_map, ← List.map_drop, ← List.map_take]
theorem cutT_mem {xs : List (List Int)} {lo hi : Option Int} {x : List Int} (h : x ∈ cutT xs lo hi) : x ∈ xs := List.mem_of_mem_drop (List.mem_of_mem_take h)
theorem cutT_len (xs : List (List Int)) (lo hi : Option Int) : (cutT xs lo hi).length ≤ xs.length := by
  unfold cutT
  rw [List.length_take, List.length_drop]
  omega
/-! ### k10 -/
def keptD (x : List Int) : D := .list [.int (normL x), .int (contL x), .bool (decide (contL x = 1)), ti (canonL x)]
theorem sh_kept (x : List Int) : SeqAt.shaped (keptD x) = true := by
  have g := lay_ints (canonL x)
  have g2 := g.2
  unfold keptD
  simp only [SeqAt.shaped, PyData.canLay0, PyData.canLayAll0, PyData.depth, PyData.depthAll, g.1, Bool.true_and, Bool.and_self]
  exact decide_eq_true (by omega)
theorem units_n1 : ∀ u ∈ unitsL, normL u = 1 := by decide +kernel
theorem kept_asso {x y : List Int} (hx : isNum x = true) (h0 : zeroB x = false) (hy : y ∈ assoL x) : keptD y = keptD x := by
  obtain ⟨u, hu, rfl⟩ := List.mem_map.mp hy
  unfold keptD
  rw [norm_mul hx (u_num hu), units_n1 u hu, Int.mul_one, cont_asso hx h0 hu, canon_asso hx hu]
theorem sort_mem {x y : List Int} (h : y ∈ sortLL (assoL x)) : y ∈ assoL x := (sort_perm _).mem_iff.mp h
theorem behind_canon {x : List Int} (hx : isNum x = true) (h0 : zeroB x = false) : behindL (canonL x) = [2, 0, 0, 0] := by
  obtain ⟨h1, h2⟩ := lead_ok x
  have hc : isNum (canonL x) = true := by rw [← h2]; exact num_mul hx (u_num h1)
  have hz : zeroB (canonL x) = false := by rw [← h2]; exact asso_nz hx h0 h1
  have e : ([2, 0, 0, 0] : List Int) = leadU (canonL x) := lead_eq hc hz (by decide) (by
    rw [mul_oneR hc]
    exact (show canonL (canonL x) = canonL x by rw [← h2, canon_asso hx h1, h2]).symm)
  unfold behindL
  rw [← e]
  rfl
theorem canon_canon {x : List Int} (hx : isNum x = true) : canonL (canonL x) = canonL x := by
  obtain ⟨h1, h2⟩ := lead_ok x
  rw [← h2, canon_asso hx h1, h2]
theorem canon_nz {x : List Int} (hx : isNum x = true) (h0 : zeroB x = false) : zeroB (canonL x) = false := by
  obtain ⟨h1, h2⟩ := lead_ok x
  rw [← h2]
  exact asso_nz hx h0 h1
theorem canon_left {o x y : List Int} (ho : isNum o = true) (hx : isNum x = true) (hy : y ∈ assoL x) : canonL (mulL o y) = canonL (mulL o x) := by
  obtain ⟨u, hu, rfl⟩ := List.mem_map.mp hy
  rw [← mul_asc ho hx (u_num hu), canon_asso (num_mul ho hx) hu]
theorem whole_some {x : List Int} (hx : isNum x = true) : ((sortLL (assoL x)).filter wholeB).length ≠ 0 := by
  obtain ⟨u, hu, h⟩ := some_whole hx
  intro e
  have m : mulL x u ∈ (sortLL (assoL x)).filter wholeB := List.mem_filter.mpr ⟨(sort_perm _).mem_iff.mpr (List.mem_map_of_mem hu), h⟩
  rw [List.length_eq_zero_iff.mp e] at m
  exact absurd m List.not_mem_nil
end TB

namespace TB
open PySem L2 PySem.Spec PyProof.Rows
/-! ### k06 -/
def quoL (m : Int) (x : List Int) : List Int := x.map fun p => p / m
def divB (m : Int) (x : List Int) : Bool := x.all (fun p => decide (p % m = 0)) && isNum (quoL m x)
theorem quo_times {m : Int} (hm : 0 < m) {x : List Int} (h : ∀ p ∈ x, p % m = 0) : timesL m (quoL m x) = x := by
  unfold timesL quoL
  rw [List.map_map]
  conv => rhs; rw [← List.map_id x]
  refine List.map_congr_left fun p hp => ?_
  show p / m * m = p
  have := h p hp
  have := Int.mul_ediv_add_emod p m
  rw [Int.mul_comm]
  omega
theorem quo_of_times {m : Int} (hm : 0 < m) (y : List Int) : quoL m (timesL m y) = y := by
  unfold timesL quoL
  rw [List.map_map]
  conv => rhs; rw [← List.map_id y]
  refine List.map_congr_left fun p _ => ?_
  exact Int.mul_ediv_cancel p (by omega)
theorem divB_iff {m : Int} (hm : 0 < m) {x : List Int} : divB m x = true ↔ Div m x := by
  unfold divB
  rw [Bool.and_eq_true, List.all_eq_true]
  constructor
  · rintro ⟨h1, h2⟩
    exact ⟨quoL m x, h2, (quo_times hm fun p hp => of_decide_eq_true (h1 p hp)).symm⟩
  · rintro ⟨y, hy, rfl⟩
    refine ⟨fun p hp => ?_, by rw [quo_of_times hm]; exact hy⟩
    obtain ⟨q, _, rfl⟩ := List.mem_map.mp hp
    exact decide_eq_true (Int.mul_emod_left q m)
theorem divB_eq {x : List Int} (hx : isNum x = true) (h0 : zeroB x = false) {m : Int} (hm : 0 < m) : divB m x = decide (contL x % m = 0) := by
  have h := (div_iff hx h0 hm).2
  rw [← divB_iff hm] at h
  cases q : divB m x with
  | true => exact (decide_eq_true (Int.emod_eq_zero_of_dvd (h.mp q))).symm
  | false =>
    refine (decide_eq_false fun z => ?_).symm
    rw [h.mpr (Int.dvd_of_emod_eq_zero z)] at q
    cases q
theorem cont_self {x : List Int} (hx : isNum x = true) (h0 : zeroB x = false) : divB (contL x) x = true := (divB_iff (cont_pos hx h0)).mpr (cont_div hx h0)
theorem cont_more {x : List Int} (hx : isNum x = true) (h0 : zeroB x = false) {p : Int} (hp : 2 ≤ p) : divB (p * contL x) x = false := by
  have c := cont_pos hx h0
  have hm : 0 < p * contL x := Int.mul_pos (by omega) c
  cases q : divB (p * contL x) x with
  | false => rfl
  | true =>
    have d := (div_iff hx h0 hm).2.mp ((divB_iff hm).mp q)
    have := Int.le_of_dvd c d
    have : 2 * contL x ≤ p * contL x := Int.mul_le_mul_of_nonneg_right hp (by omega)
    omega
def partL (x : List Int) : List Int := quoL (contL x) x
theorem part_num {x : List Int} (hx : isNum x = true) (h0 : zeroB x = false) : isNum (partL x) = true ∧ x = timesL (contL x) (partL x) := by
  obtain ⟨y, hy, e⟩ := cont_div hx h0
  have q : partL x = y := by
    show quoL (contL x) x = y
    conv => lhs; arg 2; rw [e]
    exact quo_of_times (cont_pos hx h0) y
  rw [q]
  exact ⟨hy, e⟩
theorem times_zero {m : Int} {y : List Int} (h : zeroB y = true) (hy : isNum y = true) : zeroB (timesL m y) = true := by
  have e := zero_eq hy
  rw [h, decide_eq_true_eq] at e
  subst e
  show (!([0 * m, 0 * m, 0 * m, 0 * m] : List Int).any (· != 0)) = true
  rw [Int.zero_mul]
  rfl
theorem part_nz {x : List Int} (hx : isNum x = true) (h0 : zeroB x = false) : zeroB (partL x) = false := by
  obtain ⟨hy, e⟩ := part_num hx h0
  cases q : zeroB (partL x) with
  | false => rfl
  | true =>
    have := times_zero (m := contL x) q hy
    rw [← e, h0] at this
    cases this
theorem times_times (m n : Int) (x : List Int) : timesL m (timesL n x) = timesL (n * m) x := by
  unfold timesL
  rw [List.map_map]
  refine List.map_congr_left fun p _ => ?_
  show p * n * m = p * (n * m)
  rw [Int.mul_assoc]
theorem part_cont {x : List Int} (hx : isNum x = true) (h0 : zeroB x = false) : contL (partL x) = 1 := by
  obtain ⟨hy, e⟩ := part_num hx h0
  have hz := part_nz hx h0
  have c1 := cont_pos hx h0
  have c2 := cont_pos hy hz
  obtain ⟨w, hw, e2⟩ := cont_div hy hz
  have hm : 0 < contL (partL x) * contL x := Int.mul_pos c2 c1
  have d : contL (partL x) * contL x ∣ contL x := (div_iff hx h0 hm).2.mp ⟨w, hw, by
    conv => lhs; rw [e, e2]
    exact times_times _ _ _⟩
  have := Int.le_of_dvd c1 d
  by_cases z : contL (partL x) = 1
  · exact z
  · have : 2 * contL x ≤ contL (partL x) * contL x := Int.mul_le_mul_of_nonneg_right (by omega) (by omega)
    omega
theorem Div.le {x : List Int} (hx : isNum x = true) (h0 : zeroB x = false) {m : Int} (hm : 0 < m) (h : Div m x) : m ≤ contL x ∧ contL x % m = 0 := by
  have d := (div_iff hx h0 hm).2.mp h
  exact ⟨Int.le_of_dvd (cont_pos hx h0) d, Int.emod_eq_zero_of_dvd d⟩
def R_law_divides : List D → Out → Prop := fun ds o => ∃ (m : Int) (x : List Int), ds = [.int m, ti x] ∧ 0 < m ∧ Bt 8500 m ∧ x.length = 4 ∧ o = .v (.bool (divB m x))
theorem odd_count (m : Int) (x : List Int) : ((((x.map PyData.int).filter fun d => decide (ofI d / m % 2 = 1)).map id).length) = (((((quoL m x).map PyData.int).filter oddD).map id).length) := by
  unfold quoL
  rw [List.map_id, List.map_id, List.map_map, List.filter_map, List.filter_map, List.length_map, List.length_map]
  rfl
theorem sm_quo {m : Int} {n : Nat} (hm : 0 < m) {x : List Int} (h : Sm n x) : Sm n (quoL m x) := by
  intro y hy
  obtain ⟨p, hp, rfl⟩ := List.mem_map.mp hy
  have b := h p hp
  unfold Bt at b ⊢
  have : (p / m).natAbs ≤ p.natAbs := by
    rcases Int.le_total 0 p with h | h
    · have h1 := Int.ediv_nonneg h (show 0 ≤ m by omega)
      have h2 := Int.ediv_le_self m h
      omega
    · have h1 : p / m ≤ 0 := by
        by_cases z : p = 0
        · subst z; simp
        · exact Int.le_of_lt (Int.ediv_neg_of_neg_of_pos (by omega) hm)
      have h2 : p ≤ p / m := by
        have e := Int.mul_ediv_add_emod p m
        have r := Int.emod_lt_of_pos p hm
        have r2 := Int.emod_nonneg p (show m ≠ 0 by omega)
        have : m * (p / m) ≤ 1 * (p / m) := Int.mul_le_mul_of_nonpos_right (show 1 ≤ m by omega) h1
        by_cases z : p ≤ p / m
        · exact z
        · have : p / m + 1 ≤ p := by omega
          have k : m * (p / m + 1) ≤ 1 * (p / m + 1) ∨ p / m + 1 > 0 := by
            by_cases w : p / m + 1 > 0
            · exact .inr w
            · exact .inl (Int.mul_le_mul_of_nonpos_right (show 1 ≤ m by omega) (by omega))
          have k2 : m * (p / m + 1) = m * (p / m) + m := by rw [Int.mul_add, Int.mul_one]
          rcases k with k | k <;> omega
      omega
  omega
end TB

namespace TB
open PySem L2 PySem.Spec PyProof.Rows
/-! ### max(a, b) of data -/
section
variable {prog : Program} {w : World} {A : Around} {E : Value → Shared → Prop} {s : Shared}
theorem max2_walk {u v : Value} {Q : Value → Shared → Prop}
    (h : wpAny (model prog w) A.in1 (pyIter (.ref s.heap.objs.size)) (fun r s2 => ∃ J fs ws G n P S H c, r = .ref J ∧ WalksS prog w A.in1 J fs ws G n P S ∧ S 0 s2 ∧ (∀ b ∈ fs, b < s2.heap.objs.size) ∧ 0 < n ∧ (∀ b o, H.get? b = some o → b ∉ ws) ∧ (∀ b o, H.get? b = some o → s2.heap.get? b = some o) ∧ CmpIn prog w A.in1 .Gt H P c ∧
        ∀ x s3, P (argBest c (n - 1)) x → Moved ws G s2 s3 → Q x s3) E { s with heap := s.heap.push { cls := .type "tuple", data := .seq #[u, v] } }) :
    wpAny (model prog w) A (call (.builtin "max") [u, v]) Q E s := by
  have nm : (toString "max" ++ toString ".loop" : String) = "max.loop" := by decide
  refine call_function_tree F.kind_max F.plain_max F.entry_max (F.args_max2 _ _) ?_
  show wpAny _ A.in1 (Builtin.Builtins.bindParams "max" ["key", "default"] 0 ⟨[], []⟩ >>= _) _ _ s
  refine wpAny_bind (wpAny_of_eq (h := (rfl :
    Builtin.Builtins.bindParams "max" ["key", "default"] 0 ⟨[], []⟩
      = pure [none, none])) ?_)
  show wpAny _ A.in1 (newTuple [u, v] >>= _) _ _ s
  refine wpAny_bind (wpAny_newObj_type ?_)
  refine wpAny_bind (wpAny_mono h (fun r s2 g => ?_) fun _ _ e => e)
  obtain ⟨J, fs, ws, G, n, P, S, H, c, rfl, W, h0, hf, hn, hw, hk, hc, hq⟩ := g
  refine wpAny_bind (wpAny_newObj_type ?_)
  have fr : s2.heap.objs.size ∉ fs := fun m => Nat.lt_irrefl _ (hf _ m)
  rw [nm]
  refine wpAny_pure ⟨plainId_quiet F.plain_max_loop _, ?_⟩
  refine PySem.codeAny_max_loop_firstH W H hw c hc s2.heap.objs.size fr (fresh_in hk) _ hn
    (fun b o e => Heap.get?_push_of_some _ (hk b o e))
    (W.frame 0 s2 _ s2.toks h0 (Nat.le_refl _) fun b _ o e => Heap.get?_push_of_some _ e)
    (Heap.get?_push_size _ rfl) fun x s3 hP hm => ?_
  exact hq x s3 hP (PySem.Moved.drop_new (tk := s2.toks) hm (Nat.le_refl _))
theorem max2_data {u v : Value} {x y : D} {Q : Value → Shared → Prop} {as bs : List Addr} (hh : A.handled = none) (h1 : Reads s.heap u x as) (h2 : Reads s.heap v y bs) (hal : PySem.W.AlikeAll [x, y]) (hu : A.units + 1 + PyData.depthAll [x, y] < cLine)
    (h : ∀ h' tk, (∀ b o, s.heap.get? b = some o → h'.get? b = some o) → Q (if PySem.W.dataLt x y = true then v else u) { s with heap := h', toks := tk }) : wpAny (model prog w) A (call (.builtin "max") [u, v]) Q E s := by
  have hT : (s.heap.push { cls := .type "tuple", data := .seq #[u, v] }).IsTuple s.heap.objs.size #[u, v] := ⟨_, Heap.get?_push_size _ rfl, rfl, 0, rfl⟩
  have old : ∀ b o, s.heap.get? b = some o → (s.heap.push { cls := .type "tuple", data := .seq #[u, v] }).get? b = some o := fun b o e => Heap.get?_push_of_some _ e
  have hr : ReadsAll (s.heap.push { cls := .type "tuple", data := .seq #[u, v] }) (#[u, v] : Array Value).toList [x, y] (as ++ (bs ++ [])) := .cons (PyProof.Rows.Reads.keeps old h1) (.cons (PyProof.Rows.Reads.keeps old h2) .nil)
  refine max2_walk (PySem.W.iter_tupleW (A := A.in1) (s := { s with heap := s.heap.push { cls := .type "tuple", data := .seq #[u, v] } }) hh hT fun s2 e W st hf hw hk => ?_)
  refine ⟨_, _, _, _, _, _, _, _, _, rfl, W, st, hf, (by show 0 < 2; decide), hw, hk, PySem.W.cmpIn_gt (A := A.in1) (s := { s with heap := s.heap.push { cls := .type "tuple", data := .seq #[u, v] } }) hr hal (by show A.units + 1 + _ < _; exact hu), fun z s3 hP hm => ?_⟩
  obtain ⟨h', tk, rfl, hk'⟩ := PySem.W.moved_old e rfl hm
  have hz : z = if PySem.W.dataLt x y = true then v else u := by
    have hP' : (#[u, v] : Array Value)[argBest (fun i j => PySem.W.dataLt ([x, y].getD j .none) ([x, y].getD i .none)) 1]? = some z := hP
    cases c : PySem.W.dataLt x y with
    | true =>
      have e1 : argBest (fun i j => PySem.W.dataLt ([x, y].getD j .none) ([x, y].getD i .none)) 1 = 1 := by simp [argBest, c]
      rw [e1] at hP'
      exact (Option.some.inj hP').symm
    | false =>
      have e1 : argBest (fun i j => PySem.W.dataLt ([x, y].getD j .none) ([x, y].getD i .none)) 1 = 0 := by simp [argBest, c]
      rw [e1] at hP'
      exact (Option.some.inj hP').symm
  rw [hz]
  exact h h' tk fun b o e => hk' b o (old b o e)
end
def rMax2D (K : PySem.W.Frag) : List V → Hp → VK → Prop := fun vs H Q => ∃ (F : Hp) (v u : V) (x y : D), Ex F H ∧ vs = [v, u] ∧ Dp K F v x ∧ Dp K F u y ∧ PySem.W.AlikeAll [x, y] ∧ PyData.depthAll [x, y] ≤ 60 ∧ Q (if PySem.W.dataLt x y = true then u else v) H
theorem cr_max2D {X : Cx} (hc : X.calm = true) (hu : X.A.units + 64 < cLine) : CallR X (.builtin "max") (rMax2D X.K) := by
  intro pins s σ H vs us Q I r h
  obtain ⟨F, v, u, x, y, ex, rfl, d1, d2, hal, hdp, q⟩ := h
  obtain ⟨a, b, rfl, r1, r2⟩ := Vals.two r
  obtain ⟨as, g1⟩ := Dp.reads I x v a (dp_ex ex _ _ d1) r1
  obtain ⟨bs, g2⟩ := Dp.reads I y u b (dp_ex ex _ _ d2) r2
  refine max2_data (I.ok.hd hc) g1 g2 hal (by omega) fun h' tk hk => ⟨_, H, I.kept hk, ?_, q⟩
  cases PySem.W.dataLt x y with
  | true => exact r2
  | false => exact r1
section
variable {X : Cx} {W : WX} {F0 H0 : Hp} {Γ : List S} {a b : Expr} {pos np : Pos}
theorem je_max2T {x y : List Int} (hc : X.calm = true) (hu : X.A.units + 64 < cLine) (hm : X.mg "max" = none) (ha : JE X WF F0 H0 Γ a (.v (ti x))) (hb : JE X WF F0 H0 Γ b (.v (ti y))) (hg : Gl X "max" := by rfl) (s2 : starEach [a, b] X.env = (false, eval a X.env) :: starEach [b] X.env := by rfl) (s1 : starEach [b] X.env = (false, eval b X.env) :: starEach [] X.env := by rfl)
    (hpl : (backTo pos (starEach [b] X.env)).any (·.1) = false := by rfl) : JE X W F0 H0 Γ (.Call (.Name "max" np) [a, b] [] pos) (.v (ti (if x < y then y else x))) :=
  pe_imp (pe_callB (cr_max2D hc hu) hg hm (by decide +kernel) (ja_cons ha (ja_cons hb ja_nil s1) s2) (by decide) (by decide) s2 hpl) fun σ H Q ⟨F, ok, q⟩ => ⟨F, ok, fun vs F1 H1 z1 d1 => by
    cases d1 with
    | cons a1 d1 =>
      cases d1 with
      | cons a2 d1 =>
        cases d1
        refine ⟨F1, _, _, ti x, ti y, z1.s, rfl, a1, a2, alike_all_ti [x, y], Nat.le_trans (dep_all (enc := ti) (n := 1) (fun x => Nat.le_of_eq (dep_ti x)) [x, y]) (by decide), ?_⟩
        refine q _ F1 H1 z1 ?_
        rw [lt_ti]
        by_cases c : x < y
        · rw [if_pos (decide_eq_true c), if_pos c]
          exact a2
        · rw [if_neg (by rw [decide_eq_false c]; exact Bool.false_ne_true), if_neg c]
          exact a1⟩
end
end TB

namespace TB
open PySem L2 PySem.Spec PyProof.Rows
/-! ### dividing -/
def evenL (n : Int) (p : List Int) : List Int := p.map fun z => 2 * ((z + n) / (2 * n))
def oddL (n : Int) (p : List Int) : List Int := p.map fun z => 2 * (z / (2 * n)) + 1
def farL (n : Int) (p q : List Int) : Int := ((p.zip q).map fun z => (z.1 - z.2 * n) * (z.1 - z.2 * n)).sum
def nearL (n : Int) (p : List Int) : List Int :=
  if farL n p (evenL n p) = farL n p (oddL n p) then (if evenL n p < oddL n p then oddL n p else evenL n p)
  else if farL n p (evenL n p) < farL n p (oddL n p) then evenL n p else oddL n p
theorem even_num {n : Int} {p : List Int} (h : p.length = 4) : isNum (evenL n p) = true := by
  obtain ⟨a, b, c, d, rfl⟩ := four h
  exact isNum_of (par_of_even ⟨_, rfl⟩ ⟨_, rfl⟩ ⟨_, rfl⟩ ⟨_, rfl⟩)
theorem odd_num {n : Int} {p : List Int} (h : p.length = 4) : isNum (oddL n p) = true := by
  obtain ⟨a, b, c, d, rfl⟩ := four h
  exact isNum_of ⟨by dsimp only; omega, by dsimp only; omega, by dsimp only; omega⟩
theorem near_or (n : Int) (p : List Int) : (nearL n p = evenL n p ∧ farL n p (evenL n p) ≤ farL n p (oddL n p)) ∨ (nearL n p = oddL n p ∧ farL n p (oddL n p) ≤ farL n p (evenL n p)) := by
  unfold nearL
  by_cases e : farL n p (evenL n p) = farL n p (oddL n p)
  · rw [if_pos e]
    by_cases l : evenL n p < oddL n p
    · rw [if_pos l]; exact .inr ⟨rfl, by omega⟩
    · rw [if_neg l]; exact .inl ⟨rfl, by omega⟩
  · rw [if_neg e]
    by_cases l : farL n p (evenL n p) < farL n p (oddL n p)
    · rw [if_pos l]; exact .inl ⟨rfl, by omega⟩
    · rw [if_neg l]; exact .inr ⟨rfl, by omega⟩
theorem near_num {n : Int} {p : List Int} (h : p.length = 4) : isNum (nearL n p) = true := by
  rcases near_or n p with ⟨e, _⟩ | ⟨e, _⟩
  · rw [e]; exact even_num h
  · rw [e]; exact odd_num h
/-- one part: the two distances come to at most n * n -/
theorem part_far {n z : Int} (hn : 0 < n) : (z - 2 * ((z + n) / (2 * n)) * n) * (z - 2 * ((z + n) / (2 * n)) * n) + (z - (2 * (z / (2 * n)) + 1) * n) * (z - (2 * (z / (2 * n)) + 1) * n) ≤ n * n := by
  have e1 := Int.mul_ediv_add_emod z (2 * n)
  have r1 := Int.emod_nonneg z (show 2 * n ≠ 0 by omega)
  have r2 := Int.emod_lt_of_pos z (show 0 < 2 * n by omega)
  have e2 := Int.mul_ediv_add_emod (z + n) (2 * n)
  have s1 := Int.emod_nonneg (z + n) (show 2 * n ≠ 0 by omega)
  have s2 := Int.emod_lt_of_pos (z + n) (show 0 < 2 * n by omega)
  generalize z % (2 * n) = t at *
  generalize (z + n) % (2 * n) = u at *
  generalize hA : z / (2 * n) = A at *
  generalize hB : (z + n) / (2 * n) = B at *
  have x1 : z - 2 * B * n = u - n := by
    have : 2 * n * B = 2 * B * n := by grind
    omega
  have x2 : z - (2 * A + 1) * n = t - n := by
    have : 2 * n * A = (2 * A + 1) * n - n := by grind
    omega
  rw [x1, x2]
  -- t and u differ by n
  have dif : u = t + n ∨ u = t - n := by
    have h1 : 2 * n * (B - A) = n + t - u := by
      have : 2 * n * (B - A) = 2 * n * B - 2 * n * A := by grind
      omega
    have hBA : B - A = 0 ∨ B - A = 1 := by
      by_cases c0 : B - A ≤ -1
      · have : 2 * n * (B - A) ≤ 2 * n * (-1) := Int.mul_le_mul_of_nonneg_left c0 (by omega)
        omega
      · by_cases c1 : 2 ≤ B - A
        · have : 2 * n * 2 ≤ 2 * n * (B - A) := Int.mul_le_mul_of_nonneg_left c1 (by omega)
          omega
        · omega
    rcases hBA with h | h
    · rw [h] at h1; omega
    · rw [h] at h1; omega
  have sq : ∀ y : Int, 0 ≤ y → y ≤ n → y * y + (n - y) * (n - y) ≤ n * n := fun y h0 h1 => by
    have : 0 ≤ y * (n - y) := Int.mul_nonneg h0 (by omega)
    have e : y * y + (n - y) * (n - y) = n * n - 2 * (y * (n - y)) := by grind
    omega
  rcases dif with h | h
  · have := sq t r1 (by omega)
    have e : (u - n) * (u - n) + (t - n) * (t - n) = t * t + (n - t) * (n - t) := by rw [h]; grind
    omega
  · have := sq (t - n) (by omega) (by omega)
    have e : (u - n) * (u - n) + (t - n) * (t - n) = (t - n) * (t - n) + (n - (t - n)) * (n - (t - n)) := by rw [h]; grind
    omega
theorem near_far {n : Int} (hn : 0 < n) {p : List Int} (h : p.length = 4) : farL n p (nearL n p) ≤ 2 * (n * n) := by
  have key : farL n p (evenL n p) + farL n p (oddL n p) ≤ 4 * (n * n) := by
    obtain ⟨a, b, c, d, rfl⟩ := four h
    have ha := part_far (z := a) hn
    have hb := part_far (z := b) hn
    have hc := part_far (z := c) hn
    have hd := part_far (z := d) hn
    unfold farL evenL oddL
    simp only [List.map_cons, List.map_nil, List.zip_cons_cons, List.zip_nil_right, List.sum_cons, List.sum_nil]
    omega
  rcases near_or n p with ⟨e, l⟩ | ⟨e, l⟩
  · rw [e]; omega
  · rw [e]; omega
def quoLft (a b : List Int) : List Int := nearL (normL b) (mulL (conjL b) a)
def quoRgt (a b : List Int) : List Int := nearL (normL b) (mulL a (conjL b))
def remLft (a b : List Int) : List Int := subL a (mulL b (quoLft a b))
def remRgt (a b : List Int) : List Int := subL a (mulL (quoRgt a b) b)
theorem num_sub {x y : List Int} (hx : isNum x = true) (hy : isNum y = true) : isNum (subL x y) = true := by
  obtain ⟨a, b, c, d, rfl, k1, k2, k3⟩ := num_cases hx
  obtain ⟨e, f, g, h, rfl, l1, l2, l3⟩ := num_cases hy
  exact isNum_of (a := a - e) (b := b - f) (c := c - g) (d := d - h) ⟨by omega, by omega, by omega⟩
theorem mul_subr {x y z : List Int} (hx : isNum x = true) (hy : isNum y = true) (hz : isNum z = true) : mulL x (subL y z) = subL (mulL x y) (mulL x z) := by
  obtain ⟨a, b, c, d, rfl, kx⟩ := num_cases hx
  obtain ⟨e, f, g, h, rfl, ky⟩ := num_cases hy
  obtain ⟨i, j, k, l, rfl, kz⟩ := num_cases hz
  obtain ⟨p, q, r, s, ⟨p1, p2, p3, p4⟩, _, ep⟩ := mul_pr kx ky
  obtain ⟨P, Q, R, S', ⟨q1, q2, q3, q4⟩, _, eq⟩ := mul_pr kx kz
  have kd : Par (e - i) (f - j) (g - k) (h - l) := by
    obtain ⟨k1, k2, k3⟩ := ky
    obtain ⟨l1, l2, l3⟩ := kz
    exact ⟨by omega, by omega, by omega⟩
  obtain ⟨A, B, C, E, ⟨r1, r2, r3, r4⟩, _, er⟩ := mul_pr kx kd
  show mulL [a, b, c, d] [e - i, f - j, g - k, h - l] = _
  rw [er, ep, eq]
  show [A, B, C, E] = [p - P, q - Q, r - R, s - S']
  have z1 : A = p - P := by grind
  have z2 : B = q - Q := by grind
  have z3 : C = r - R := by grind
  have z4 : E = s - S' := by grind
  rw [z1, z2, z3, z4]
theorem mul_subl {x y z : List Int} (hx : isNum x = true) (hy : isNum y = true) (hz : isNum z = true) : mulL (subL x y) z = subL (mulL x z) (mulL y z) := by
  obtain ⟨a, b, c, d, rfl, kx⟩ := num_cases hx
  obtain ⟨e, f, g, h, rfl, ky⟩ := num_cases hy
  obtain ⟨i, j, k, l, rfl, kz⟩ := num_cases hz
  obtain ⟨p, q, r, s, ⟨p1, p2, p3, p4⟩, _, ep⟩ := mul_pr kx kz
  obtain ⟨P, Q, R, S', ⟨q1, q2, q3, q4⟩, _, eq⟩ := mul_pr ky kz
  have kd : Par (a - e) (b - f) (c - g) (d - h) := by
    obtain ⟨k1, k2, k3⟩ := kx
    obtain ⟨l1, l2, l3⟩ := ky
    exact ⟨by omega, by omega, by omega⟩
  obtain ⟨A, B, C, E, ⟨r1, r2, r3, r4⟩, _, er⟩ := mul_pr kd kz
  show mulL [a - e, b - f, c - g, d - h] [i, j, k, l] = _
  rw [er, ep, eq]
  show [A, B, C, E] = [p - P, q - Q, r - R, s - S']
  have z1 : A = p - P := by grind
  have z2 : B = q - Q := by grind
  have z3 : C = r - R := by grind
  have z4 : E = s - S' := by grind
  rw [z1, z2, z3, z4]
theorem norm_conj {x : List Int} (hx : isNum x = true) : normL (conjL x) = normL x := by
  obtain ⟨a, b, c, d, rfl, k⟩ := num_cases hx
  have kc : Par a (-b) (-c) (-d) := by obtain ⟨k1, k2, k3⟩ := k; exact ⟨by omega, by omega, by omega⟩
  have n1 := norm_pr k
  have n2 := norm_pr kc
  show normL [a, -b, -c, -d] = _
  have : -b * -b = b * b := by grind
  have : -c * -c = c * c := by grind
  have : -d * -d = d * d := by grind
  omega
theorem norm_pos {x : List Int} (hx : isNum x = true) (h : zeroB x = false) : 0 < normL x := by
  have := norm_nn hx
  have := (zero_norm hx).mp h
  omega
theorem norm_far {n : Int} {p q : List Int} (hp : isNum p = true) (hq : isNum q = true) : 4 * normL (subL p (timesL n q)) = farL n p q := by
  obtain ⟨a, b, c, d, rfl, k1, k2, k3⟩ := num_cases hp
  obtain ⟨e, f, g, h, rfl, l⟩ := num_cases hq
  have kn := par_mul n l
  obtain ⟨l1, l2, l3⟩ := kn
  have := norm_pr (a := a - e * n) (b := b - f * n) (c := c - g * n) (d := d - h * n) ⟨by omega, by omega, by omega⟩
  show 4 * normL [a - e * n, b - f * n, c - g * n, d - h * n] = _
  rw [this]
  unfold farL
  simp only [List.map_cons, List.map_nil, List.zip_cons_cons, List.zip_nil_right, List.sum_cons, List.sum_nil]
  omega
/-- the norm of the remainder is at most half of the divisor's -/
theorem rem_lft {a b : List Int} (ha : isNum a = true) (hb : isNum b = true) (h0 : zeroB b = false) : isNum (quoLft a b) = true ∧ isNum (remLft a b) = true ∧ 2 * normL (remLft a b) ≤ normL b := by
  have n0 := norm_pos hb h0
  have hc := num_conj hb
  have hp := num_mul hc ha
  have hq : isNum (quoLft a b) = true := near_num (num_len hp)
  have hr : isNum (remLft a b) = true := num_sub ha (num_mul hb hq)
  refine ⟨hq, hr, ?_⟩
  have e : mulL (conjL b) (remLft a b) = subL (mulL (conjL b) a) (timesL (normL b) (quoLft a b)) := by
    unfold remLft
    rw [mul_subr hc ha (num_mul hb hq), ← mul_asc hc hb hq, (mul_conj hb).2, (mul_int _ hq).1]
  have f := near_far n0 (p := mulL (conjL b) a) (num_len hp)
  have g := norm_far (n := normL b) hp hq
  rw [← e, norm_mul hc hr, norm_conj hb] at g
  have f' : farL (normL b) (mulL (conjL b) a) (quoLft a b) ≤ 2 * (normL b * normL b) := f
  generalize normL (remLft a b) = r at *
  generalize normL b = n at *
  by_cases z : 2 * r ≤ n
  · exact z
  · have : n * (n + 1) ≤ n * (2 * r) := Int.mul_le_mul_of_nonneg_left (by omega) (by omega)
    have e1 : n * (2 * r) = 2 * (n * r) := by grind
    have e2 : n * (n + 1) = n * n + n := by grind
    omega
theorem rem_rgt {a b : List Int} (ha : isNum a = true) (hb : isNum b = true) (h0 : zeroB b = false) : isNum (quoRgt a b) = true ∧ isNum (remRgt a b) = true ∧ 2 * normL (remRgt a b) ≤ normL b := by
  have n0 := norm_pos hb h0
  have hc := num_conj hb
  have hp := num_mul ha hc
  have hq : isNum (quoRgt a b) = true := near_num (num_len hp)
  have hr : isNum (remRgt a b) = true := num_sub ha (num_mul hq hb)
  refine ⟨hq, hr, ?_⟩
  have e : mulL (remRgt a b) (conjL b) = subL (mulL a (conjL b)) (timesL (normL b) (quoRgt a b)) := by
    unfold remRgt
    rw [mul_subl ha (num_mul hq hb) hc, mul_asc hq hb hc, (mul_conj hb).1, (mul_int _ hq).2]
  have f := near_far n0 (p := mulL a (conjL b)) (num_len hp)
  have g := norm_far (n := normL b) hp hq
  rw [← e, norm_mul hr hc, norm_conj hb] at g
  have f' : farL (normL b) (mulL a (conjL b)) (quoRgt a b) ≤ 2 * (normL b * normL b) := f
  generalize normL (remRgt a b) = r at *
  generalize normL b = n at *
  by_cases z : 2 * r ≤ n
  · exact z
  · have : n * (n + 1) ≤ n * (2 * r) := Int.mul_le_mul_of_nonneg_left (by omega) (by omega)
    have e1 : r * n = n * r := Int.mul_comm _ _
    have e2 : n * (2 * r) = 2 * (n * r) := by grind
    have e3 : n * (n + 1) = n * n + n := by grind
    omega
/-! left divisors -/
def LDiv (b a : List Int) : Prop := ∃ y, isNum y = true ∧ a = mulL b y
def RDiv (b a : List Int) : Prop := ∃ y, isNum y = true ∧ a = mulL y b
theorem sub_selfZ {x : List Int} (hx : isNum x = true) : zeroB (subL x x) = true := by
  obtain ⟨a, b, c, d, rfl, _⟩ := num_cases hx
  show zeroB [a - a, b - b, c - c, d - d] = true
  rw [Int.sub_self, Int.sub_self, Int.sub_self, Int.sub_self]
  rfl
theorem sub_zero {x y : List Int} (hx : isNum x = true) (hy : isNum y = true) (h : zeroB (subL x y) = true) : x = y := by
  have e := zero_eq (num_sub hx hy)
  rw [h, decide_eq_true_eq] at e
  obtain ⟨a, b, c, d, rfl, _⟩ := num_cases hx
  obtain ⟨p, q, r, s, rfl, _⟩ := num_cases hy
  have e' : [a - p, b - q, c - r, d - s] = [0, 0, 0, 0] := e
  injection e' with e1 e'
  injection e' with e2 e'
  injection e' with e3 e'
  injection e' with e4 _
  rw [show a = p by omega, show b = q by omega, show c = r by omega, show d = s by omega]
theorem small_zero {x : List Int} {n : Int} (hx : isNum x = true) (hn : 0 < n) (h : 2 * (n * normL x) ≤ n) : zeroB x = true := by
  cases q : zeroB x with
  | true => rfl
  | false =>
    have := norm_pos hx q
    have : n * 1 ≤ n * normL x := Int.mul_le_mul_of_nonneg_left (by omega) (by omega)
    omega
theorem ldiv_iff {a b : List Int} (ha : isNum a = true) (hb : isNum b = true) (h0 : zeroB b = false) : zeroB (remLft a b) = true ↔ LDiv b a := by
  obtain ⟨hq, hr, hn⟩ := rem_lft ha hb h0
  constructor
  · intro z
    exact ⟨_, hq, sub_zero ha (num_mul hb hq) z⟩
  · rintro ⟨y, hy, e⟩
    have e2 : remLft a b = mulL b (subL y (quoLft a b)) := by
      rw [mul_subr hb hy hq, ← e]
      rfl
    have hs := num_sub hy hq
    rw [e2] at hn ⊢
    rw [norm_mul hb hs] at hn
    have z := small_zero hs (norm_pos hb h0) hn
    have ez := zero_eq hs
    rw [z, decide_eq_true_eq] at ez
    have := sub_zero hy hq z
    rw [this]
    have e3 : mulL b (subL (quoLft a b) (quoLft a b)) = subL (mulL b (quoLft a b)) (mulL b (quoLft a b)) := mul_subr hb hq hq
    rw [e3]
    exact sub_selfZ (num_mul hb hq)
theorem rdiv_iff {a b : List Int} (ha : isNum a = true) (hb : isNum b = true) (h0 : zeroB b = false) : zeroB (remRgt a b) = true ↔ RDiv b a := by
  obtain ⟨hq, hr, hn⟩ := rem_rgt ha hb h0
  constructor
  · intro z
    exact ⟨_, hq, sub_zero ha (num_mul hq hb) z⟩
  · rintro ⟨y, hy, e⟩
    have e2 : remRgt a b = mulL (subL y (quoRgt a b)) b := by
      rw [mul_subl hy hq hb, ← e]
      rfl
    have hs := num_sub hy hq
    rw [e2] at hn ⊢
    rw [norm_mul hs hb, Int.mul_comm (normL _)] at hn
    have z := small_zero hs (norm_pos hb h0) hn
    have := sub_zero hy hq z
    rw [this]
    have e3 : mulL (subL (quoRgt a b) (quoRgt a b)) b = subL (mulL (quoRgt a b) b) (mulL (quoRgt a b) b) := mul_subl hq hq hb
    rw [e3]
    exact sub_selfZ (num_mul hq hb)
end TB

namespace TB
open PySem L2 PySem.Spec PyProof.Rows
/-! ### errors on the way -/
section
variable {X : Cx} {W : WX} {F0 H0 : Hp} {Γ : List S} {a b e tg : Expr} {es : List Expr} {x : D} {pos np : Pos} {c : Addr}
abbrev JAX (X : Cx) (W : WX) (F0 H0 : Hp) (Γ : List S) (es : List Expr) (c : Addr) : Prop := PA X es (fun σ H _ => ∃ F, Ok X.K F0 H0 F σ H Γ ∧ ∀ F' H', Fz F H F' H' → W (.ref c) none σ H')
theorem jax_head (ha : JE X W F0 H0 Γ e (.x c)) (hs : starEach (e :: es) X.env = (false, eval e X.env) :: starEach es X.env := by rfl) : JAX X W F0 H0 Γ (e :: es) c :=
  pa_imp (pa_cons ha (⟨fun _ _ _ _ _ _ _ h => h.elim⟩ : PA X es fun _ _ _ => False) hs) fun σ H Q ⟨F, ok, q⟩ => ⟨F, ok, q⟩
theorem jax_tail (ha : JE X WF F0 H0 Γ e (.v x)) (hr : JAX X W F0 H0 Γ es c) (hs : starEach (e :: es) X.env = (false, eval e X.env) :: starEach es X.env := by rfl) : JAX X W F0 H0 Γ (e :: es) c :=
  pa_imp (pa_cons ha hr hs) fun σ H Q ⟨F, ok, q⟩ => ⟨F, ok, fun v F1 H1 z1 d1 => ⟨F1, ok.mono z1, fun F2 H2 z2 => q F2 H2 (z1.trans z2)⟩⟩
/-- f(..), an argument raises -/
theorem je_callAX {k : Nat} {n : Str} {ps : List Str} {R : List D → Out → Prop} (C : Cal X.prog X.w X.K X.mg X.base k n ps R) (hr : Room k X.A) (tk : L2.Takes X W) (ha : JAX X W F0 H0 Γ (e :: es) c)
    (hg : Gl X n := by rfl) (hdb : (n == ("__debug__" : Str)) = false := by decide) (he : starEach (e :: es) X.env = (false, eval e X.env) :: starEach es X.env := by rfl) (hpl : (backTo pos (starEach es X.env)).any (·.1) = false := by rfl) : JE X W F0 H0 Γ (.Call (.Name n np) (e :: es) [] pos) (.x c) := by
  obtain ⟨f, fd, G, hm, hk, hb⟩ := C.ex
  exact pe_imp (pe_callS G hr hg hm hk hb (fun σ => passAt tk σ) ha hdb he hpl) fun σ H Q ⟨F, ok, q⟩ => ⟨F, ok, q⟩
theorem js_asgX (he : JE X W F0 H0 Γ e (.x c)) (hs : swapsWithSole [tg] e pos.line X.env = pure false := by rfl) (hw : swappedStores [tg] e X.env = pure none := by rfl) (h1 : (assignEach [tg] X.env).map (·.2) = [assign tg X.env] := by rfl) : JS X W F0 H0 Γ (.Assign [tg] e pos) (.x c Γ) :=
  ps_imp (ps_asg he (⟨fun _ _ _ _ _ _ _ _ _ h => h.elim⟩ : PG X tg fun _ _ _ _ => False) hs hw h1) fun D' σ H ⟨F, ok, q⟩ => ⟨F, ok, fun F' H' z => q σ F' H' z.f (ok.mono z)⟩
theorem je_notN (ha : JE X W F0 H0 Γ a (.v x)) (hb : JE X W F0 H0 Γ b (.v .none)) : JE X W F0 H0 Γ (.Compare a [.IsNot] [b] pos) (.v (.bool (notNone x))) := je_cmp op_notN rd_notN' ha hb (nomark _)
theorem je_notNX (ha : JE X W F0 H0 Γ a (.x c)) (hm : behindInMarks .IsNot b = false := by exact nomark _) : JE X W F0 H0 Γ (.Compare a [.IsNot] [b] pos) (.x c) :=
  pe_imp (pe_cmpR op_notN ha (tb := fun _ _ _ => False) ⟨fun _ _ _ _ _ _ h => h.elim⟩ hm) fun σ H Q ⟨F, ok, q⟩ => ⟨F, ok, q⟩
end
/-! ### greatest common left divisors -/
def LGcd (a b g : List Int) : Prop := isNum g = true ∧ zeroB g = false ∧ LDiv g a ∧ LDiv g b ∧ ∃ x y, isNum x = true ∧ isNum y = true ∧ g = addL (mulL a x) (mulL b y)
theorem LDiv.mul {d a y : List Int} (hd : isNum d = true) (hy : isNum y = true) (h : LDiv d a) : LDiv d (mulL a y) := by
  obtain ⟨z, hz, rfl⟩ := h
  exact ⟨mulL z y, num_mul hz hy, mul_asc hd hz hy⟩
theorem LDiv.add {d a b : List Int} (hd : isNum d = true) (h : LDiv d a) (g : LDiv d b) : LDiv d (addL a b) := by
  obtain ⟨y, hy, rfl⟩ := h
  obtain ⟨z, hz, rfl⟩ := g
  exact ⟨addL y z, num_add hy hz, (mul_addr hd hy hz).symm⟩
theorem LDiv.trans {d e a : List Int} (hd : isNum d = true) (h : LDiv d e) (g : LDiv e a) : LDiv d a := by
  obtain ⟨y, hy, rfl⟩ := g
  exact h.mul hd hy
theorem gcd_great {a b g d : List Int} (h : LGcd a b g) (hd : isNum d = true) (ha : LDiv d a) (hb : LDiv d b) : LDiv d g := by
  obtain ⟨_, _, _, _, x, y, hx, hy, e⟩ := h
  rw [e]
  exact (ha.mul hd hx).add hd (hb.mul hd hy)
/-- two numbers that divide one another on the left have one canonical associate -/
theorem div_canon {g h : List Int} (hg : isNum g = true) (hh : isNum h = true) (g0 : zeroB g = false) (h1 : LDiv g h) (h2 : LDiv h g) : canonL g = canonL h := by
  obtain ⟨y, hy, e1⟩ := h1
  obtain ⟨z, hz, e2⟩ := h2
  have n1 : normL g * (normL y * normL z) = normL g := by
    have := congrArg normL e2
    rw [norm_mul hh hz, e1, norm_mul hg hy] at this
    rw [← Int.mul_assoc]
    exact this.symm
  have ng := norm_pos hg g0
  have n2 : normL y * normL z = 1 := by
    have : normL g * (normL y * normL z) = normL g * 1 := by rw [n1, Int.mul_one]
    exact Int.eq_of_mul_eq_mul_left (by omega) this
  have n3 : normL y = 1 := by
    have a1 := norm_nn hy
    have a2 := norm_nn hz
    exact Int.eq_one_of_mul_eq_one_right a1 n2
  have hu : y ∈ unitsL := by
    have := unit_iff hy
    rw [n3, decide_eq_true rfl] at this
    exact of_decide_eq_true this.symm
  rw [e1, canon_asso hg hu]
theorem gcd_canon {a b g h : List Int} (h1 : LGcd a b g) (h2 : LGcd a b h) : canonL g = canonL h :=
  div_canon h1.1 h2.1 h1.2.1 (gcd_great h2 h1.1 h1.2.2.1 h1.2.2.2.1) (gcd_great h1 h2.1 h2.2.2.1 h2.2.2.2.1)
theorem sub_addL {x y : List Int} (hx : isNum x = true) (hy : isNum y = true) : addL (subL x y) y = x := by
  obtain ⟨a, b, c, d, rfl, _⟩ := num_cases hx
  obtain ⟨e, f, g, h, rfl, _⟩ := num_cases hy
  show [a - e + e, b - f + f, c - g + g, d - h + h] = _
  rw [Int.sub_add_cancel, Int.sub_add_cancel, Int.sub_add_cancel, Int.sub_add_cancel]
/-- one step of the algorithm -/
theorem gcd_step {a b g : List Int} (ha : isNum a = true) (hb : isNum b = true) (h0 : zeroB b = false) (h : LGcd b (remLft a b) g) : LGcd a b g := by
  obtain ⟨hq, hr, _⟩ := rem_lft ha hb h0
  obtain ⟨g1, g2, g3, g4, x, y, hx, hy, e⟩ := h
  have hbq := num_mul hb hq
  have ea : a = addL (remLft a b) (mulL b (quoLft a b)) := (sub_addL ha hbq).symm
  refine ⟨g1, g2, by rw [ea]; exact g4.add g1 (g3.mul g1 hq), g3, y, subL x (mulL (quoLft a b) y), hy, num_sub hx (num_mul hq hy), ?_⟩
  have e1 : mulL (remLft a b) y = subL (mulL a y) (mulL b (mulL (quoLft a b) y)) := by
    unfold remLft
    rw [mul_subl ha hbq hy, mul_asc hb hq hy]
  have e2 := mul_subr hb hx (num_mul hq hy)
  rw [e, e1, e2]
  have n1 := num_mul hb hx
  have n2 := num_mul ha hy
  have n3 := num_mul hb (num_mul hq hy)
  generalize mulL b x = p at *
  generalize mulL a y = q at *
  generalize mulL b (mulL (quoLft a b) y) = r at *
  obtain ⟨p1, p2, p3, p4, rfl, _⟩ := num_cases n1
  obtain ⟨q1, q2, q3, q4, rfl, _⟩ := num_cases n2
  obtain ⟨r1, r2, r3, r4, rfl, _⟩ := num_cases n3
  show [p1 + (q1 - r1), p2 + (q2 - r2), p3 + (q3 - r3), p4 + (q4 - r4)] = [q1 + (p1 - r1), q2 + (p2 - r2), q3 + (p3 - r3), q4 + (p4 - r4)]
  rw [show p1 + (q1 - r1) = q1 + (p1 - r1) by omega, show p2 + (q2 - r2) = q2 + (p2 - r2) by omega, show p3 + (q3 - r3) = q3 + (p3 - r3) by omega, show p4 + (q4 - r4) = q4 + (p4 - r4) by omega]
theorem mul_zeroR {a : List Int} (ha : isNum a = true) : mulL a [0, 0, 0, 0] = [0, 0, 0, 0] := by
  obtain ⟨p, q, r, s, rfl, _⟩ := num_cases ha
  show [(p * 0 - q * 0 - r * 0 - s * 0) / 2, (p * 0 + q * 0 + r * 0 - s * 0) / 2, (p * 0 - q * 0 + r * 0 + s * 0) / 2, (p * 0 + q * 0 - r * 0 + s * 0) / 2] = _
  simp
theorem zero_is {b : List Int} (hb : isNum b = true) (h : zeroB b = true) : b = [0, 0, 0, 0] := by
  have e := zero_eq hb
  rw [h, decide_eq_true_eq] at e
  exact e
theorem gcd_end {a b : List Int} (ha : isNum a = true) (hb : isNum b = true) (h0 : zeroB a = false) (h : zeroB b = true) : LGcd a b a := by
  have e := zero_is hb h
  subst e
  refine ⟨ha, h0, ⟨[2, 0, 0, 0], by decide, (mul_oneR ha).symm⟩, ⟨[0, 0, 0, 0], by decide, (mul_zeroR ha).symm⟩, [2, 0, 0, 0], [0, 0, 0, 0], by decide, by decide, ?_⟩
  rw [mul_oneR ha]
  obtain ⟨p, q, r, s, rfl, _⟩ := num_cases ha
  show _ = [p + 0, q + 0, r + 0, s + 0]
  simp
/-- the rows of the algorithm -/
def euL : Nat → List Int → List Int → List Int × List Int
  | 0, a, b => (a, b)
  | k + 1, a, b => euL k b (remLft a b)
theorem euL_back : ∀ (k : Nat) (a b : List Int), euL (k + 1) a b = ((euL k a b).2, remLft (euL k a b).1 (euL k a b).2)
  | 0, _, _ => rfl
  | k + 1, a, b => euL_back k b (remLft a b)
theorem eu_stop : ∀ (n : Nat) (a b : List Int), isNum a = true → isNum b = true → normL b ≤ (n : Int) → (zeroB a = false ∨ zeroB b = false) →
    ∃ m, zeroB (euL m a b).2 = true ∧ (∀ k, k < m → zeroB (euL k a b).2 = false) ∧ zeroB (euL m a b).1 = false ∧ (∀ k, k ≤ m → isNum (euL k a b).1 = true ∧ isNum (euL k a b).2 = true ∧ normL (euL k a b).1 ≤ max (normL a) (normL b) ∧ normL (euL k a b).2 ≤ normL b) ∧ LGcd a b (euL m a b).1 := by
  intro n
  induction n with
  | zero =>
    intro a b ha hb hn h0
    have z : zeroB b = true := norm0 hb (by have := norm_nn hb; omega)
    have za : zeroB a = false := by rcases h0 with h | h; exact h; rw [z] at h; cases h
    exact ⟨0, z, fun k h => absurd h (by omega), za, fun k hk => by
      have : k = 0 := by omega
      subst this
      exact ⟨ha, hb, Int.le_max_left _ _, Int.le_refl _⟩, gcd_end ha hb za z⟩
  | succ n ih =>
    intro a b ha hb hn h0
    cases z : zeroB b with
    | true =>
      have za : zeroB a = false := by rcases h0 with h | h; exact h; rw [z] at h; cases h
      exact ⟨0, z, fun k h => absurd h (by omega), za, fun k hk => by
        have : k = 0 := by omega
        subst this
        exact ⟨ha, hb, Int.le_max_left _ _, Int.le_refl _⟩, gcd_end ha hb za z⟩
    | false =>
      obtain ⟨hq, hr, hn2⟩ := rem_lft ha hb z
      have np := norm_pos hb z
      have nr := norm_nn hr
      obtain ⟨m, m1, m2, m3, m4, m5⟩ := ih b (remLft a b) hb hr (by omega) (.inl z)
      refine ⟨m + 1, m1, fun k hk => ?_, m3, fun k hk => ?_, gcd_step ha hb z m5⟩
      · cases k with
        | zero => exact z
        | succ k => exact m2 k (by omega)
      · cases k with
        | zero => exact ⟨ha, hb, Int.le_max_left _ _, Int.le_refl _⟩
        | succ k =>
          obtain ⟨q1, q2, q3, q4⟩ := m4 k (by omega)
          refine ⟨q1, q2, ?_, ?_⟩
          · show normL (euL k b (remLft a b)).1 ≤ _
            omega
          · show normL (euL k b (remLft a b)).2 ≤ _
            omega
noncomputable def lgcd (a b : List Int) : List Int := canonL (Classical.epsilon fun g => LGcd a b g)
theorem lgcd_eq {a b g : List Int} (h : LGcd a b g) : canonL g = lgcd a b := gcd_canon h (Classical.epsilon_spec ⟨g, h⟩)
/-- parts of numbers with a norm -/
theorem norm_G {x : List Int} {n : Nat} (hx : isNum x = true) (h : normL x < 2 ^ (2 * n)) : G (n + 1) x := by
  refine ⟨hx, ?_⟩
  obtain ⟨a, b, c, d, rfl, k⟩ := num_cases hx
  have e := norm_pr k
  have pa := sq_nn a; have pb := sq_nn b; have pc := sq_nn c; have pd := sq_nn d
  have e2 : (2 : Int) ^ (n + 1) * 2 ^ (n + 1) = 4 * 2 ^ (2 * n) := by
    rw [← Int.pow_add, show n + 1 + (n + 1) = 2 * n + 2 by omega, Int.pow_add]
    omega
  have key : ∀ z : Int, z * z ≤ 4 * normL [a, b, c, d] → Bt (n + 1) z := fun z hz => by
    unfold Bt
    refine Classical.byContradiction fun c => ?_
    have c' : (2 : Int) ^ (n + 1) ≤ (z.natAbs : Int) := by
      have : 2 ^ (n + 1) ≤ z.natAbs := by omega
      exact_mod_cast this
    have p2 : (0 : Int) ≤ 2 ^ (n + 1) := Int.le_of_lt (Int.pow_pos (by decide))
    have := Int.mul_le_mul c' c' p2 (by omega)
    have e3 : (z.natAbs : Int) * (z.natAbs : Int) = z * z := Int.natAbs_mul_self
    omega
  intro y hy
  have hy' : y = a ∨ y = b ∨ y = c ∨ y = d := by simpa using hy
  rcases hy' with rfl | rfl | rfl | rfl
  · exact key _ (by omega)
  · exact key _ (by omega)
  · exact key _ (by omega)
  · exact key _ (by omega)
theorem G_norm {x : List Int} {m : Nat} (g : G m x) : normL x < 2 ^ (2 * (m + 2)) := by
  have b := bt_norm g.num g.sm
  have n := norm_nn g.num
  unfold Bt at b
  have l : (2 : Nat) ^ (m + m + 3) ≤ 2 ^ (2 * (m + 2)) := Nat.pow_le_pow_right (by decide) (by omega)
  have : (normL x).natAbs < 2 ^ (2 * (m + 2)) := by omega
  have e : ((2 ^ (2 * (m + 2)) : Nat) : Int) = 2 ^ (2 * (m + 2)) := by simp
  omega
end TB

namespace TB
open PySem L2 PySem.Spec PyProof.Rows
theorem quo_bt {m z : Int} {n : Nat} (hm : 0 < m) (h : Bt n z) : Bt n (z / m) := sm_quo hm (x := [z]) (n := n) (fun y hy => by rw [List.mem_singleton.mp hy]; exact h) (z / m) (List.mem_singleton.mpr rfl)
theorem two_bt : Bt 2 2 := by unfold Bt; decide
theorem near_sm {n : Int} {p : List Int} {k : Nat} (hn : 0 < n) (hb : Bt k n) (hp : Sm k p) : Sm (k + 5) (evenL n p) ∧ Sm (k + 5) (oddL n p) := by
  constructor
  · intro y hy
    obtain ⟨z, hz, rfl⟩ := List.mem_map.mp hy
    exact (two_bt.mul (quo_bt (show 0 < 2 * n by omega) ((hp z hz).add hb))).mono (by omega)
  · intro y hy
    obtain ⟨z, hz, rfl⟩ := List.mem_map.mp hy
    exact ((two_bt.mul (quo_bt (show 0 < 2 * n by omega) (hp z hz))).add (show Bt 2 1 by unfold Bt; decide)).mono (by omega)
theorem near_G {n : Int} {p : List Int} {k : Nat} (hn : 0 < n) (hb : Bt k n) (hl : p.length = 4) (hp : Sm k p) : G (k + 5) (nearL n p) := by
  refine ⟨near_num hl, ?_⟩
  obtain ⟨h1, h2⟩ := near_sm hn hb hp
  rcases near_or n p with ⟨e, _⟩ | ⟨e, _⟩
  · rw [e]; exact h1
  · rw [e]; exact h2
def R_chk (c q : Addr) : List D → Out → Prop := fun ds o => ∃ d e ns ms, ds = [d, e] ∧ Seq d ns ∧ Seq e ms ∧ ns.length < 1000 ∧ ms.length < 1000 ∧ o = if isNum ns = true ∧ isNum ms = true then (if zeroB ms = true then .x q else .v .none) else .x c
def R_pair (c q : Addr) : List D → Out → Prop := fun ds o => ∃ d e ns ms, ds = [d, e] ∧ Seq d ns ∧ Seq e ms ∧ ns.length < 1000 ∧ ms.length < 1000 ∧ o = if isNum ns = true ∧ isNum ms = true then (if zeroB ns = true ∧ zeroB ms = true then .x q else .v .none) else .x c
def R_dist : List D → Out → Prop := fun ds o => ∃ (p q : List Int) (n : Int), ds = [ti p, ti q, .int n] ∧ p.length < 1000 ∧ q.length < 1000 ∧ Sm 9000 p ∧ Sm 9000 q ∧ Bt 9000 n ∧ o = .v (.int (farL n p q))
def R_near : List D → Out → Prop := fun ds o => ∃ (p : List Int) (n : Int), ds = [ti p, .int n] ∧ p.length = 4 ∧ Sm 8000 p ∧ 0 < n ∧ Bt 8000 n ∧ o = .v (ti (nearL n p))
/-- two numbers, the second one not 0 -/
def RD2 (c q : Addr) (m : Nat) (g : List Int → List Int → D) : List D → Out → Prop := fun ds o => ∃ a b, ds = [ti a, ti b] ∧ a.length < 1000 ∧ b.length < 1000 ∧ Sm m a ∧ Sm m b ∧ o = if isNum a = true ∧ isNum b = true then (if zeroB b = true then .x q else .v (g a b)) else .x c
def RD2r (c q : Addr) (m : Nat) (g : List Int → List Int → D) : List D → Out → Prop := fun ds o => ∃ a b, ds = [ti b, ti a] ∧ a.length < 1000 ∧ b.length < 1000 ∧ Sm m a ∧ Sm m b ∧ o = if isNum a = true ∧ isNum b = true then (if zeroB b = true then .x q else .v (g a b)) else .x c
/-- two numbers, not both 0 -/
def RP2 (c q : Addr) (m : Nat) (g : List Int → List Int → D → Prop) : List D → Out → Prop := fun ds o => ∃ a b r, ds = [ti a, ti b] ∧ a.length < 1000 ∧ b.length < 1000 ∧ Sm m a ∧ Sm m b ∧ (isNum a = true → isNum b = true → ¬ (zeroB a = true ∧ zeroB b = true) → g a b r) ∧ o = if isNum a = true ∧ isNum b = true then (if zeroB a = true ∧ zeroB b = true then .x q else .v r) else .x c
theorem rd2g {c q : Addr} {m k l : Nat} {g : List Int → List Int → D} {a b : List Int} (ga : G k a) (gb : G l b) (h0 : zeroB b = false) (h1 : k ≤ m := by decide) (h2 : l ≤ m := by decide) : RD2 c q m g [ti a, ti b] (.v (g a b)) := ⟨a, b, rfl, num_len1000 ga.num, num_len1000 gb.num, ga.sm.mono h1, gb.sm.mono h2, by rw [if_pos ⟨ga.num, gb.num⟩, if_neg (by rw [h0]; exact Bool.false_ne_true)]⟩
theorem rd2rg {c q : Addr} {m k l : Nat} {g : List Int → List Int → D} {a b : List Int} (ga : G k a) (gb : G l b) (h0 : zeroB b = false) (h1 : k ≤ m := by decide) (h2 : l ≤ m := by decide) : RD2r c q m g [ti b, ti a] (.v (g a b)) := ⟨a, b, rfl, num_len1000 ga.num, num_len1000 gb.num, ga.sm.mono h1, gb.sm.mono h2, by rw [if_pos ⟨ga.num, gb.num⟩, if_neg (by rw [h0]; exact Bool.false_ne_true)]⟩
theorem any_zero (x : List Int) : x.any (· != 0) = !zeroB x := by
  unfold zeroB
  rw [Bool.not_not]
end TB
namespace TB
open PySem L2 PySem.Spec PyProof.Rows
/-! ### the draws of stage 2 -/
def scalesL : List Int := [1, 1, 1, 10 ^ (12 : Int).toNat]
def sizeB (ns : List Int) (p : Nat) : Int := ([3, 7, 20, 1009] : List Int).getD (ns.getD p 0 % 4).toNat 0
def scaleB (ns : List Int) (p : Nat) : Int := scalesL.getD (ns.getD p 0 / 4 % 4).toNat 0
def partB (ns : List Int) (p k : Nat) : Int := 2 * ((2 * ns.getD (p + 1 + k) 0 % (2 * sizeB ns p + 1) - sizeB ns p) * scaleB ns p) + ns.getD p 0 / 16 % 2
def numB (ns : List Int) (p : Nat) : List Int := (List.range 4).map (partB ns p)
def someB (ns : List Int) (p : Nat) : List Int := if zeroB (numB ns p) = true then [2, 2, 0, 0] else numB ns p
theorem sizeB_in (ns : List Int) (p : Nat) : 3 ≤ sizeB ns p ∧ sizeB ns p ≤ 1009 := by
  have : ∀ j : Fin 4, 3 ≤ ([3, 7, 20, 1009] : List Int).getD j.val 0 ∧ ([3, 7, 20, 1009] : List Int).getD j.val 0 ≤ 1009 := by decide
  exact this ⟨(ns.getD p 0 % 4).toNat, by omega⟩
theorem scaleB_in (ns : List Int) (p : Nat) : 1 ≤ scaleB ns p ∧ scaleB ns p ≤ 10 ^ 12 := by
  have : ∀ j : Fin 4, 1 ≤ scalesL.getD j.val 0 ∧ scalesL.getD j.val 0 ≤ 10 ^ 12 := by decide
  exact this ⟨(ns.getD p 0 / 4 % 4).toNat, by omega⟩
theorem numB_G {ns : List Int} (h : In9 ns) (p : Nat) : G 60 (numB ns p) := by
  constructor
  · show isNum [partB ns p 0, partB ns p 1, partB ns p 2, partB ns p 3] = true
    unfold partB
    exact isNum_of ⟨by omega, by omega, by omega⟩
  · intro x hx
    obtain ⟨k, _, rfl⟩ := List.mem_map.mp hx
    have h1 := sizeB_in ns p
    have h2 := scaleB_in ns p
    have r1 := Int.emod_nonneg (2 * ns.getD (p + 1 + k) 0) (show 2 * sizeB ns p + 1 ≠ 0 by omega)
    have r2 := Int.emod_lt_of_pos (2 * ns.getD (p + 1 + k) 0) (show 0 < 2 * sizeB ns p + 1 by omega)
    have b1 : Bt 11 (2 * ns.getD (p + 1 + k) 0 % (2 * sizeB ns p + 1) - sizeB ns p) := by unfold Bt; omega
    have b2 : Bt 40 (scaleB ns p) := by unfold Bt; omega
    have b3 : Bt 1 (ns.getD p 0 / 16 % 2) := by unfold Bt; omega
    exact ((two_bt.mul (b1.mul b2)).add b3).mono (by decide)
theorem someB_G {ns : List Int} (h : In9 ns) (p : Nat) : G 60 (someB ns p) ∧ zeroB (someB ns p) = false := by
  unfold someB
  cases hz : zeroB (numB ns p) with
  | true =>
    rw [if_pos rfl]
    exact ⟨⟨by decide, fun y hy => (show Bt 2 y from (by decide : ∀ y ∈ ([2, 2, 0, 0] : List Int), y.natAbs < 2 ^ 2) y hy).mono (by decide)⟩, by decide⟩
  | false =>
    rw [if_neg Bool.false_ne_true]
    exact ⟨numB_G h p, hz⟩
def R_law_numB : List D → Out → Prop := fun ds o => ∃ (ns : List Int) (p : Nat) (z : Int), ds = [li ns, .int z] ∧ z = (p : Int) ∧ In9 ns ∧ p + 5 ≤ ns.length ∧ o = .v (ti (numB ns p))
def R_law_someB : List D → Out → Prop := fun ds o => ∃ (ns : List Int) (p : Nat) (z : Int), ds = [li ns, .int z] ∧ z = (p : Int) ∧ In9 ns ∧ p + 5 ≤ ns.length ∧ o = .v (ti (someB ns p))
end TB

namespace TB
open PySem L2 PySem.Spec PyProof.Rows
/-! ### from the other side -/
def assoA (x : List Int) : List (List Int) := unitsL.map fun u => mulL u x
def canonA (x : List Int) : List Int := (sortLL (assoA x)).getD 23 []
def leadA (x : List Int) : List Int := (unitsL.find? fun u => decide (mulL u x = canonA x)).getD []
theorem assoA_len (x : List Int) : (sortLL (assoA x)).length = 24 := by
  rw [(sort_perm _).length_eq, assoA, List.length_map]
  rfl
theorem canonA_in (x : List Int) : canonA x ∈ assoA x := (sort_perm _).mem_iff.mp (getD_in (by rw [assoA_len]; decide))
theorem canonA_ge (x : List Int) : ∀ y ∈ assoA x, y ≤ canonA x := fun y hy => asc_last (assoA_len x) (sort_pw _) y ((sort_perm _).mem_iff.mpr hy)
theorem canonA_eq {x m : List Int} (h1 : m ∈ assoA x) (h2 : ∀ y ∈ assoA x, y ≤ m) : m = canonA x := ll_anti (canonA_ge x m h1) (h2 _ (canonA_in x))
theorem mul_cancelR {x u v : List Int} (hx : isNum x = true) (h0 : zeroB x = false) (hu : isNum u = true) (hv : isNum v = true) (e : mulL u x = mulL v x) : u = v := by
  have hc := num_conj hx
  have e1 := congrArg (fun z => mulL z (conjL x)) e
  rw [mul_asc hu hx hc, mul_asc hv hx hc, (mul_conj hx).1, (mul_int _ hu).2, (mul_int _ hv).2] at e1
  refine times_inj (fun z => ?_) e1
  rw [norm0 hx z] at h0
  cases h0
theorem leadA_ok (x : List Int) : leadA x ∈ unitsL ∧ mulL (leadA x) x = canonA x := by
  obtain ⟨u, hu, e⟩ := List.mem_map.mp (canonA_in x)
  unfold leadA
  cases q : unitsL.find? fun u => decide (mulL u x = canonA x) with
  | none => exact absurd (decide_eq_true e) (List.find?_eq_none.mp q u hu)
  | some v => exact ⟨List.mem_of_find?_eq_some q, of_decide_eq_true (List.find?_some (p := fun u => decide (mulL u x = canonA x)) q)⟩
theorem leadA_eq {x u : List Int} (hx : isNum x = true) (h0 : zeroB x = false) (hu : u ∈ unitsL) (e : mulL u x = canonA x) : u = leadA x :=
  mul_cancelR hx h0 (u_num hu) (u_num (leadA_ok x).1) (e.trans (leadA_ok x).2.symm)
theorem max_leadA {x : List Int} (hx : isNum x = true) (h0 : zeroB x = false) : PySem.W.maxD (pd (fun u => mulL u x) [-2, 0, 0, 0]) ((unitsL.drop 1).map (pd fun u => mulL u x)) = pd (fun u => mulL u x) (leadA x) := by
  obtain ⟨m, h1, h2, h3⟩ := max_pd (fun u => mulL u x) (unitsL.drop 1) [-2, 0, 0, 0]
  have hm : m ∈ unitsL := h1
  rw [h2, leadA_eq hx h0 hm (canonA_eq (List.mem_map_of_mem hm) fun y hy => by
    obtain ⟨u, hu, rfl⟩ := List.mem_map.mp hy
    exact h3 u hu)]
theorem G.canonA {m : Nat} {x : List Int} (g : G m x) : G (m + 20) (canonA x) := by
  obtain ⟨u, hu, e⟩ := List.mem_map.mp (canonA_in x)
  rw [← e]
  have := (units_G u hu).mul g
  exact ⟨this.num, this.sm.mono (by omega)⟩
theorem canonA_nz {x : List Int} (hx : isNum x = true) (h0 : zeroB x = false) : zeroB (canonA x) = false := by
  rw [← (leadA_ok x).2]
  exact mul_nz (u_num (leadA_ok x).1) hx (units_nz _ (leadA_ok x).1) h0
/-- the law's own units, in another order -/
def signsL : List Int := [-1, 1]
def lu3 (a b c : Int) : List (List Int) := [[a, b, c, -1], [a, b, c, 1]]
def lu2 (a b : Int) : List (List Int) := signsL.flatMap (lu3 a b)
def lu1 (a : Int) : List (List Int) := signsL.flatMap (lu2 a)
def twosL : List Int := [-2, 2]
def axP (k : Nat) (p : Int) : List Int := ([0, 0, 0, 0] : List Int).set k p
def lx (k : Nat) : List (List Int) := twosL.map (axP k)
def lunits : List (List Int) := signsL.flatMap lu1 ++ (List.range 4).flatMap lx
theorem take_fm {α β : Type} {f : α → List β} {xs : List α} {k : Nat} {x : α} (h : xs[k]? = some x) : (xs.take (k + 1)).flatMap f = (xs.take k).flatMap f ++ f x := by
  rw [List.take_succ, h, List.flatMap_append]
  simp
theorem take_mp {α β : Type} {f : α → β} {xs : List α} {k : Nat} {x : α} (h : xs[k]? = some x) : (xs.take (k + 1)).map f = (xs.take k).map f ++ [f x] := by
  rw [List.take_succ, h, List.map_append]
  rfl
theorem axP_eq {k : Nat} (hk : k < 4) (p : Int) : ((List.range 4).map fun (j : Nat) => PyData.int (p * (if decide ((0 : Int) + (j : Nat) = 0 + (k : Nat)) = true then 1 else 0))) = (axP k p).map .int := by
  have : k = 0 ∨ k = 1 ∨ k = 2 ∨ k = 3 := by omega
  unfold axP
  rcases this with rfl | rfl | rfl | rfl <;> simp [List.range_succ, List.range_zero]
theorem signs_get {i : Nat} {d : D} (h : (signsL.map PyData.int)[i]? = some d) : ∃ z, signsL[i]? = some z ∧ d = .int z := by
  rw [List.getElem?_map] at h
  cases q : signsL[i]? with
  | none => rw [q] at h; cases h
  | some z => rw [q] at h; exact ⟨z, rfl, (Option.some.inj h).symm⟩
theorem twos_get {i : Nat} {d : D} (h : (twosL.map PyData.int)[i]? = some d) : ∃ z, twosL[i]? = some z ∧ d = .int z := by
  rw [List.getElem?_map] at h
  cases q : twosL[i]? with
  | none => rw [q] at h; cases h
  | some z => rw [q] at h; exact ⟨z, rfl, (Option.some.inj h).symm⟩
theorem fm_len {α β : Type} {f : α → List β} {n : Nat} : ∀ (xs : List α), (∀ x, (f x).length ≤ n) → (xs.flatMap f).length ≤ xs.length * n
  | [], _ => by simp
  | x :: xs, h => by
    rw [List.flatMap_cons, List.length_append, List.length_cons, Nat.succ_mul]
    have := h x
    have := fm_len xs h
    omega
theorem lu_len (a b : Int) (k : Nat) : ((signsL.take k).flatMap (lu3 a b)).length ≤ 4 := Nat.le_trans (fm_len (n := 2) _ fun c => Nat.le_refl _) (by rw [List.length_take]; show min k 2 * 2 ≤ 4; omega)
theorem lu2_len (a : Int) (k : Nat) : ((signsL.take k).flatMap (lu2 a)).length ≤ 8 := Nat.le_trans (fm_len (n := 4) _ fun c => by show ((signsL.take 2).flatMap (lu3 a c)).length ≤ 4; exact lu_len a c 2) (by rw [List.length_take]; show min k 2 * 4 ≤ 8; omega)
theorem lu1_len (k : Nat) : ((signsL.take k).flatMap lu1).length ≤ 16 := Nat.le_trans (fm_len (n := 8) _ fun c => by show ((signsL.take 2).flatMap (lu2 c)).length ≤ 8; exact lu2_len c 2) (by rw [List.length_take]; show min k 2 * 8 ≤ 16; omega)
theorem lx_len (k : Nat) (h : k ≤ 4) : ((List.range k).flatMap lx).length ≤ 8 := Nat.le_trans (fm_len (n := 2) _ fun c => Nat.le_refl _) (by rw [List.length_range]; omega)
def R_lunits : List D → Out → Prop := fun ds o => ds = [] ∧ o = .o (lunits.map ti)
theorem lunits_perm : lunits.Perm unitsL := by decide +kernel
/-! facts about the greatest common left divisor -/
theorem gcd_ex {a b : List Int} (ha : isNum a = true) (hb : isNum b = true) (h0 : ¬ (zeroB a = true ∧ zeroB b = true)) : ∃ g, LGcd a b g := by
  have h : zeroB a = false ∨ zeroB b = false := by
    cases h1 : zeroB a with
    | false => exact .inl rfl
    | true =>
      cases h2 : zeroB b with
      | false => exact .inr rfl
      | true => exact absurd ⟨h1, h2⟩ h0
  obtain ⟨m, _, _, _, _, h5⟩ := eu_stop (normL b).toNat a b ha hb (by omega) h
  exact ⟨_, h5⟩
theorem LDiv.refl {a : List Int} (ha : isNum a = true) : LDiv a a := ⟨[2, 0, 0, 0], by decide, (mul_oneR ha).symm⟩
theorem canon_num {x : List Int} (hx : isNum x = true) : isNum (canonL x) = true := by rw [← (lead_ok x).2]; exact num_mul hx (u_num (lead_ok x).1)
theorem canon_ldiv {x : List Int} (hx : isNum x = true) : LDiv (canonL x) x ∧ LDiv x (canonL x) := by
  obtain ⟨h1, h2⟩ := lead_ok x
  exact ⟨⟨behindL x, u_num (behind_u x), (behind_mul hx).symm⟩, ⟨leadU x, u_num h1, h2.symm⟩⟩
/-- the canonical one is itself a greatest common one -/
theorem gcd_self {a b g : List Int} (h : LGcd a b g) : LGcd a b (canonL g) := by
  obtain ⟨g1, g2, g3, g4, x, y, hx, hy, e⟩ := h
  obtain ⟨l1, l2⟩ := lead_ok g
  have d := canon_ldiv g1
  refine ⟨canon_num g1, canon_nz g1 g2, d.1.trans (canon_num g1) g3, d.1.trans (canon_num g1) g4, ?_⟩
  obtain ⟨k1, k2⟩ := lead_ok g
  obtain ⟨ya, hya, ea⟩ := g3
  obtain ⟨yb, hyb, eb⟩ := g4
  have hua := u_num l1
  have ha : isNum a = true := by rw [ea]; exact num_mul g1 hya
  have hb : isNum b = true := by rw [eb]; exact num_mul g1 hyb
  refine ⟨mulL x (leadU g), mulL y (leadU g), num_mul hx hua, num_mul hy hua, ?_⟩
  rw [← mul_asc ha hx hua, ← mul_asc hb hy hua, ← mul_addl (num_mul ha hx) (num_mul hb hy) hua, ← e, l2]
theorem lgcd_spec {a b : List Int} (ha : isNum a = true) (hb : isNum b = true) (h0 : ¬ (zeroB a = true ∧ zeroB b = true)) : LGcd a b (lgcd a b) := by
  obtain ⟨g, h⟩ := gcd_ex ha hb h0
  rw [← lgcd_eq h]
  exact gcd_self h
theorem lgcd_canon {a b : List Int} (ha : isNum a = true) (hb : isNum b = true) (h0 : ¬ (zeroB a = true ∧ zeroB b = true)) : canonL (lgcd a b) = lgcd a b := by
  obtain ⟨g, h⟩ := gcd_ex ha hb h0
  rw [← lgcd_eq h, canon_canon h.1]
/-- a number ahead of both -/
theorem gcd_ahead {t a b g : List Int} (ht : isNum t = true) (h0 : zeroB t = false) (ha : isNum a = true) (hb : isNum b = true) (h : LGcd a b g) : LGcd (mulL t a) (mulL t b) (mulL t g) := by
  obtain ⟨g1, g2, ⟨p, hp, ep⟩, ⟨q, hq, eq⟩, x, y, hx, hy, e⟩ := h
  refine ⟨num_mul ht g1, mul_nz ht g1 h0 g2, ⟨p, hp, by rw [mul_asc ht g1 hp, ← ep]⟩, ⟨q, hq, by rw [mul_asc ht g1 hq, ← eq]⟩, x, y, hx, hy, ?_⟩
  rw [e, mul_addr ht (num_mul ha hx) (num_mul hb hy), mul_asc ht ha hx, mul_asc ht hb hy]
theorem LGcd.symm {a b g : List Int} (ha : isNum a = true) (hb : isNum b = true) (h : LGcd a b g) : LGcd b a g := by
  obtain ⟨g1, g2, g3, g4, x, y, hx, hy, e⟩ := h
  refine ⟨g1, g2, g4, g3, y, x, hy, hx, ?_⟩
  rw [e]
  have n1 := num_mul ha hx
  have n2 := num_mul hb hy
  generalize mulL a x = p at *
  generalize mulL b y = q at *
  obtain ⟨p1, p2, p3, p4, rfl, _⟩ := num_cases n1
  obtain ⟨q1, q2, q3, q4, rfl, _⟩ := num_cases n2
  show [p1 + q1, p2 + q2, p3 + q3, p4 + q4] = [q1 + p1, q2 + p2, q3 + p3, q4 + p4]
  rw [Int.add_comm p1, Int.add_comm p2, Int.add_comm p3, Int.add_comm p4]
theorem num_zero4 : isNum [0, 0, 0, 0] = true := by decide
theorem add_zeroR {x : List Int} (hx : isNum x = true) : addL x [0, 0, 0, 0] = x := by
  obtain ⟨p, q, r, s, rfl, _⟩ := num_cases hx
  show [p + 0, q + 0, r + 0, s + 0] = _
  simp
/-- one of the two divides the other -/
theorem gcd_of_div {a b : List Int} (ha : isNum a = true) (hb : isNum b = true) (h0 : zeroB a = false) (h : LDiv a b) : LGcd a b a := by
  refine ⟨ha, h0, LDiv.refl ha, h, [2, 0, 0, 0], [0, 0, 0, 0], by decide, by decide, ?_⟩
  rw [mul_oneR ha, mul_zeroR hb, add_zeroR ha]
theorem lgcd_G {a b : List Int} {m : Nat} (ga : G m a) (gb : G m b) (h0 : ¬ (zeroB a = true ∧ zeroB b = true)) : G (m + 30) (lgcd a b) := by
  have h : zeroB a = false ∨ zeroB b = false := by
    cases h1 : zeroB a with
    | false => exact .inl rfl
    | true =>
      cases h2 : zeroB b with
      | false => exact .inr rfl
      | true => exact absurd ⟨h1, h2⟩ h0
  obtain ⟨k, _, _, _, h4, h5⟩ := eu_stop (normL b).toNat a b ga.num gb.num (by omega) h
  obtain ⟨n1, _, n3, _⟩ := h4 k (Nat.le_refl _)
  have la := G_norm ga
  have lb := G_norm gb
  have := (norm_G n1 (n := m + 2) (by omega)).canon
  rw [← lgcd_eq h5]
  exact ⟨this.num, this.sm.mono (by omega)⟩
def RP (c q : Addr) (m : Nat) (g : List Int → List Int → D) : List D → Out → Prop := fun ds o => ∃ a b, ds = [ti a, ti b] ∧ a.length < 1000 ∧ b.length < 1000 ∧ Sm m a ∧ Sm m b ∧ o = if isNum a = true ∧ isNum b = true then (if zeroB a = true ∧ zeroB b = true then .x q else .v (g a b)) else .x c
theorem rpg {c q : Addr} {m k l : Nat} {g : List Int → List Int → D} {a b : List Int} (ga : G k a) (gb : G l b) (h0 : ¬ (zeroB a = true ∧ zeroB b = true)) (h1 : k ≤ m := by decide) (h2 : l ≤ m := by decide) : RP c q m g [ti a, ti b] (.v (g a b)) := ⟨a, b, rfl, num_len1000 ga.num, num_len1000 gb.num, ga.sm.mono h1, gb.sm.mono h2, by rw [if_pos ⟨ga.num, gb.num⟩, if_neg h0]⟩
def R_ca (c q : Addr) : List D → Out → Prop := fun ds o => ∃ ns, ds = [ti ns] ∧ ns.length < 1000 ∧ Sm 300000 ns ∧ o = if isNum ns = true then (if zeroB ns = true then .x q else .v (ti (canonA ns))) else .x c
def R_lu : List D → Out → Prop := fun ds o => ∃ ns, ds = [ti ns] ∧ Sm 300000 ns ∧ isNum ns = true ∧ zeroB ns = false ∧ o = .v (ti (leadA ns))
end TB
namespace TB
open PySem L2 PySem.Spec PyProof.Rows
theorem max_canon2 (x : List Int) : PySem.W.maxD (ti (mulL x [-1, -1, -1, -1])) (((lunits.drop 1).map (mulL x)).map ti) = ti (canonL x) := by
  obtain ⟨m, h1, h2, h3⟩ := max_ti ((lunits.drop 1).map (mulL x)) (mulL x [-1, -1, -1, -1])
  have pm : ((mulL x [-1, -1, -1, -1]) :: (lunits.drop 1).map (mulL x)).Perm (assoL x) := lunits_perm.map (mulL x)
  rw [h2, canon_eq (x := x) (pm.mem_iff.mp h1) fun y hy => h3 y (pm.mem_iff.mpr hy)]
def R_law_turned : List D → Out → Prop := fun ds o => ∃ ns, ds = [ti ns] ∧ ns.length = 4 ∧ o = .v (ti (conjL ns))
def R_law_greatest : List D → Out → Prop := fun ds o => ∃ ns, ds = [ti ns] ∧ isNum ns = true ∧ Sm 300000 ns ∧ o = .v (ti (canonL ns))
def R_law_times : List D → Out → Prop := fun ds o => ∃ ns ms : List Int, ds = [ti ns, ti ms] ∧ ns.length = 4 ∧ ms.length = 4 ∧ Sm 400000 ns ∧ Sm 400000 ms ∧ o = .v (ti (mulL ns ms))
end TB
namespace TB
open PySem L2 PySem.Spec PyProof.Rows
section
variable {X : Cx} {W : WX} {F0 H0 : Hp} {Γ : List S} {a b : Expr} {x y : D} {n1 n2 : Str} {px py pt pos pt2 : Pos} {kt k2 : Nat}
/-- a, b = x, y: two names -/
theorem js_par (i j : Nat) (hc : X.calm = true) (hN : X.N.Nodup) (ha : JE X WF F0 H0 Γ a (.v x)) (hb : JE X WF F0 H0 Γ b (.v y)) (hi : X.N[i]? = some n1 := by rfl) (hj : X.N[j]? = some n2 := by rfl) (hij : i ≠ j := by decide) (hx : X.env.scope.names.lookup n1 = some .local := by rfl) (hy : X.env.scope.names.lookup n2 = some .local := by rfl)
    (hw : swappedStores [.Tuple [.Name n1 px, .Name n2 py] kt pt] (.Tuple [a, b] k2 pt2) X.env = pure (some [n1, n2]) := by rfl) (hs : swapsWithSole [.Tuple [.Name n1 px, .Name n2 py] kt pt] (.Tuple [a, b] k2 pt2) pos.line X.env = pure false := by rfl)
    (s2 : starEach [a, b] X.env = (false, eval a X.env) :: starEach [b] X.env := by rfl) (s1 : starEach [b] X.env = (false, eval b X.env) :: starEach [] X.env := by rfl) :
    JS X W F0 H0 Γ (.Assign [.Tuple [.Name n1 px, .Name n2 py] kt pt] (.Tuple [a, b] k2 pt2) pos) (.nx ((Γ.set i (.d x)).set j (.d y))) :=
  ps_imp (ps_par hc hN hi hj hij hx hy (ja_cons ha (ja_cons hb ja_nil s1) s2) hw hs) fun D' σ H ⟨F, ok, q⟩ => ⟨F, ok, fun vs F1 H1 z1 d1 => by
    cases d1 with
    | cons a1 d1 =>
      cases d1 with
      | cons a2 d1 =>
        cases d1
        exact ⟨_, _, rfl, q _ F1 H1 z1.f (((ok.mono z1).set i a1).set j a2)⟩⟩
end
end TB
namespace TB
theorem conj_both {a b : List Int} (h1 : isNum a = true) (h2 : isNum b = true) (hz : ¬ (zeroB a = true ∧ zeroB b = true)) : ¬ (zeroB (conjL a) = true ∧ zeroB (conjL b) = true) := fun h => by
  refine hz ⟨?_, ?_⟩
  · cases q : zeroB a with
    | true => rfl
    | false =>
      have := conj_nz h1 q
      rw [h.1] at this
      cases this
  · cases q : zeroB b with
    | true => rfl
    | false =>
      have := conj_nz h2 q
      rw [h.2] at this
      cases this
end TB

namespace TB
open PySem L2 PySem.Spec PyProof.Rows
/-! ### zip of a tuple and a list, either way round -/
theorem nin2 {x p q : Nat} (h1 : x ≠ p) (h2 : x ≠ q) : x ∉ [p, q] := by simp [h1, h2]
theorem zsep {n a b : Nat} (la : a < n) (lb : b < n) : ZipSep2 (n + 4 : Nat) (n + 2 : Nat) (n + 3 : Nat) n (n + 1 : Nat) [n, a] [(n + 1 : Nat), b] where
  TIz := by show (n + 2 : Nat) ≠ n + 4; omega
  TOz := by show (n + 3 : Nat) ≠ n + 4; omega
  TITO := by show (n + 2 : Nat) ≠ n + 3; omega
  TIi1 := by show (n + 2 : Nat) ≠ n; omega
  mem1 := List.mem_cons_self
  zf1 := nin2 (by omega) (by omega)
  Tf1 := nin2 (by omega) (by omega)
  TIi2 := by show (n + 2 : Nat) ≠ n + 1; omega
  mem2 := List.mem_cons_self
  zf2 := nin2 (by omega) (by omega)
  Tf2 := nin2 (by omega) (by omega)
  sep1_2 := nin2 (by omega) (by omega)
  sep2_1 := nin2 (by omega) (by omega)
theorem five_le {n c : Nat} (h : c = n + 4 ∨ c = n + 2 ∨ c = n + 3 ∨ c = n ∨ c = n + 1) : n ≤ c := by omega
/-- what zip draws of two rows of unlike kinds -/
def ItzTL (K : PySem.W.Frag) (a b : Addr) : It where
  go := fun i H => ∃ (xs ys : List V) (x y : V), SqT K H a xs ∧ SqL K H b ys ∧ xs[i]? = some x ∧ ys[i]? = some y
  yld := fun i H v H' => ∃ T x y, v = .ref T ∧ H T = none ∧ H' = upd H T (.tup [x, y])
    ∧ (∀ xs, SqT K H a xs → xs[i]? = some x) ∧ ∀ ys, SqL K H b ys → ys[i]? = some y
  stop := fun i H => ∃ xs ys : List V, SqT K H a xs ∧ SqL K H b ys ∧ i = min xs.length ys.length
theorem turnTL {P : Program} {w : World} {K : PySem.W.Frag} {es : List Expr} {kq : Nat} {tq : Pos} {a b z p q c1 c2 : Addr}
    (S : ZipSep2 z p q c1 c2 [c1, a] [c2, b]) (na : a ≠ c1) (nb : b ≠ c2) :
    Turn P w K (.Tuple es kq tq) (ItzTL K a b) [z, p, q, c1, c2] z
      (fun i h => IsZip h z p q .none ∧ IsTupOf2 h p (.ref c1) (.ref c2) ∧ (∃ x y, IsTupOf2 h q x y) ∧ h.IsTupleIter c1 a i ∧ h.IsListIter c2 b i) where
  mem := List.mem_cons_self
  obj := fun i h st c hc => by
    obtain ⟨g1, g2, ⟨x, y, g3⟩, ⟨o1, k1, _, l1⟩, ⟨o2, k2, _, l2⟩⟩ := st
    have cs : c = z ∨ c = p ∨ c = q ∨ c = c1 ∨ c = c2 := by simpa using hc
    rcases cs with e | e | e | e | e
    · subst e; exact ⟨_, g1, fun v r => nomatch r⟩
    · subst e; exact ⟨_, g2, fun v r => nomatch r⟩
    · subst e; exact ⟨_, g3, fun v r => nomatch r⟩
    · subst e; exact ⟨o1, k1, fun v r => by rw [l1] at r; cases r⟩
    · subst e; exact ⟨o2, k2, fun v r => by rw [l2] at r; cases r⟩
  keep := fun i h h' st k => by
    obtain ⟨g1, g2, ⟨x, y, g3⟩, g4, g5⟩ := st
    refine ⟨k z (by simp) _ g1, k p (by simp) _ g2, ⟨x, y, k q (by simp) _ g3⟩, ?_, ?_⟩
    · exact g4.at fun o r => k c1 (by simp) o r
    · exact g5.at fun o r => k c2 (by simp) o r
  item := by
    intro X hP hw hK hc i pins s σ H E I fr st go
    subst hP hw hK
    obtain ⟨g1, g2, ⟨x0, y0, g3⟩, g4, g5⟩ := st
    obtain ⟨xs, ys, x, y, qx, qy, hx, hy⟩ := go
    obtain ⟨us, rx, px, _⟩ := I.tuple qx
    obtain ⟨vs, ry, py, _⟩ := I.list qy
    obtain ⟨u, hu, ru⟩ := rx.get hx
    obtain ⟨v, hv, rv⟩ := ry.get hy
    have zl : z < s.heap.objs.size := Heap.lt_size g1
    have D1 := Draws.tuple (prog := X.prog) (w := X.w) (A := X.A.in1) (I.ok.hd hc) c1 a na us.toArray
    have D2 := Draws.list (prog := X.prog) (w := X.w) (A := X.A.in1) (I.ok.hd hc) c2 b nb vs.toArray
    have li : i < us.toArray.size := by simpa using (List.getElem?_eq_some_iff.mp hu).1
    have lj : i < vs.toArray.size := by simpa using (List.getElem?_eq_some_iff.mp hv).1
    refine wpAny_pyNext_zipD2_item S D1 D2 g1 g2 g3 ⟨g4, px⟩ ⟨g5, py.isList⟩ li lj fun x1 x2 h' tk w1 w2 z' q' s1 s2 hT hs hk => ?_
    have e1 : u = x1 := by simpa [hu] using w1
    have e2 : v = x2 := by simpa [hv] using w2
    subst e1 e2
    refine ⟨_, rfl, wpAny_letOwnedTupleGo_zip (s := { s with heap := h', toks := tk }) z' fun h2 z2 sb => ?_⟩
    have far : ∀ c, c ∈ [z, p, q, c1, c2] → c < s.heap.objs.size := fun c hcm => by
      have cs : c = z ∨ c = p ∨ c = q ∨ c = c1 ∨ c = c2 := by simpa using hcm
      rcases cs with e | e | e | e | e
      · rw [e]; exact zl
      · rw [e]; exact Heap.lt_size g2
      · rw [e]; exact Heap.lt_size g3
      · rw [e]; obtain ⟨_, r, _⟩ := g4; exact Heap.lt_size r
      · rw [e]; obtain ⟨_, r, _⟩ := g5; exact Heap.lt_size r
    have hN : h2.get? s.heap.objs.size = some { cls := .type "tuple", data := .seq #[u, v] } :=
      (sb.2 _ (Nat.ne_of_gt zl)).trans hT
    have made : ObjOk X.prog X.w (upd H s.heap.objs.size (.tup [x, y])) h2 s.heap.objs.size (.tup [x, y]) :=
      ⟨(by show 2 ≤ sizeLine; decide), [u, v], .cons ru (.cons rv .nil), ⟨_, hN, rfl, _, rfl⟩⟩
    have kept : ∀ c o, c ∉ [z, p, q, c1, c2] → s.heap.get? c = some o → h2.get? c = some o := fun c o hb r => by
      have n : c ≠ z ∧ c ≠ p ∧ c ≠ q ∧ c ≠ c1 ∧ c ≠ c2 := by simpa using hb
      exact (sb.2 c n.1).trans (hk c o n.1 n.2.2.1 n.2.2.2.1 n.2.2.2.2 r)
    have J : Inv X pins σ (upd H s.heap.objs.size (.tup [x, y])) { s with heap := h2, toks := tk } :=
      I.turnedNew (t' := tk) (ch := [z, p, q, c1, c2]) kept fr (Nat.le_refl _) made
    refine ⟨.ref s.heap.objs.size, _, J, rfl, ⟨_, x, y, rfl, I.hok.fresh (Nat.le_refl _), rfl, fun l hl => ?_, fun l hl => ?_⟩, ⟨z2, ?_, ⟨u, v, ?_⟩, ?_, ?_⟩, fun c hcm => ?_⟩
    · rw [I.tuple_inj hl qx]; exact hx
    · rw [I.list_inj hl qy]; exact hy
    · exact (sb.2 _ S.TIz).trans (hk _ _ S.TIz S.TITO S.TIi1 S.TIi2 g2)
    · exact (sb.2 _ S.TOz).trans q'
    · exact s1.1.at fun o r => (sb.2 _ (Ne.symm S.zi1)).trans r
    · exact s2.1.at fun o r => (sb.2 _ (Ne.symm S.zi2)).trans r
    · rw [upd_ne (Nat.ne_of_lt (far c hcm))]
      exact (fr c hcm).1
  done := by
    intro X hP hw hK hc i pins s σ H E I fr st go
    subst hP hw hK
    obtain ⟨g1, g2, ⟨x0, y0, g3⟩, g4, g5⟩ := st
    obtain ⟨xs, ys, qx, qy, fin⟩ := go
    obtain ⟨us, rx, px, _⟩ := I.tuple qx
    obtain ⟨vs, ry, py, _⟩ := I.list qy
    have n1 := rx.length
    have n2 := ry.length
    have D1 := Draws.tuple (prog := X.prog) (w := X.w) (A := X.A.in1) (I.ok.hd hc) c1 a na us.toArray
    have D2 := Draws.list (prog := X.prog) (w := X.w) (A := X.A.in1) (I.ok.hd hc) c2 b nb vs.toArray
    have m1 : us.toArray.size = xs.length := by rw [List.size_toArray]; omega
    have m2 : vs.toArray.size = ys.length := by rw [List.size_toArray]; omega
    refine wpAny_pyNext_zipD2_end S D1 D2 g1 g2 g3 ⟨g4, px⟩ ⟨g5, py.isList⟩ (by omega) (by omega) (by omega) fun h' tk hk => ⟨rfl, ?_⟩
    refine I.turnedL (t' := tk) (ch := [z, p, q, c1, c2]) (fun c o hb r => ?_) fr
    have n : c ≠ z ∧ c ≠ p ∧ c ≠ q ∧ c ≠ c1 ∧ c ≠ c2 := by simpa using hb
    exact hk c o n.1 n.2.2.1 n.2.2.2.1 n.2.2.2.2 r
  self := fun A i s Q E st h => wpAny_pyIter_zip st.1 h
theorem pi_zipTL {X : Cx} {e e2 : Expr} {ta : TA} {p pos tpos : Pos} {es : List Expr} {kk : Nat} (hg : Gl X "zip") (hm : X.mg "zip" = none) (ha : PA X [e, e2] ta)
    (hs : starEach [e, e2] X.env = (false, eval e X.env) :: starEach [e2] X.env) (hpl : (backTo pos (starEach [e2] X.env)).any (·.1) = false) :
    PI X (.Tuple es kk tpos) (.Call (.Name "zip" p) [e, e2] [] pos) (fun σ H R => ta σ H fun vs H1 => ∃ a b xs ys, vs = [.ref a, .ref b] ∧ SqT X.K H1 a xs ∧ SqL X.K H1 b ys ∧ R (ItzTL X.K a b) H1) := by
  refine ⟨fun pins s σ H R I h => ?_⟩
  refine Call_ (ld_blt I hg hm PyProof.Rows.boot_zip (PyProof.Rows.callWith_type1 (thn (ha.run pos pins s σ H _ I h) fun us s1 ⟨vs, H1, I1, r1, q1⟩ => ?_) hs hpl))
  obtain ⟨a, b, xs, ys, ex, qx, qy, q⟩ := q1
  subst ex
  obtain ⟨ua, ub, rfl, ra, rb⟩ := Vals.two r1
  cases ra
  cases rb
  obtain ⟨us, rx, px, _⟩ := I1.tuple qx
  obtain ⟨vs, ry, py, _⟩ := I1.list qy
  have la : a < s1.heap.objs.size := (by obtain ⟨_, r, _⟩ := px; exact Heap.lt_size r)
  have lb : b < s1.heap.objs.size := py.lt
  refine zip_begins2 (begins_tuple a us.toArray) (begins_list b vs.toArray) px py.isList fun h' hz hp hq h1 h2 hsz hk => wpAny_pyIter_zip hz ?_
  have J : Inv X pins σ H1 { s1 with heap := h' } := I1.kept (t' := s1.toks) hk
  refine ⟨s1.heap.objs.size + 4, [s1.heap.objs.size + 4, s1.heap.objs.size + 2, s1.heap.objs.size + 3, s1.heap.objs.size, s1.heap.objs.size + 1], _, _, H1, rfl, J,
    turnTL (K := X.K) (a := a) (b := b) (zsep la lb) (Nat.ne_of_lt la) (Nat.ne_of_lt (Nat.lt_succ_of_lt lb)), ⟨hz, hp, ⟨_, _, hq⟩, ⟨_, h1, rfl, rfl⟩, ⟨_, h2, rfl, rfl⟩⟩, fun c hcm => ?_, q⟩
  have hle : s1.heap.objs.size ≤ c := by
    have cs : c = s1.heap.objs.size + 4 ∨ c = s1.heap.objs.size + 2 ∨ c = s1.heap.objs.size + 3 ∨ c = s1.heap.objs.size ∨ c = s1.heap.objs.size + 1 := by simpa using hcm
    exact five_le cs
  exact I1.fpOk hle (I1.hok.fresh hle)
theorem ji_zipTL {X : Cx} {F0 H0 : Hp} {Γ : List S} {a b : Expr} {es : List Expr} {np pos tp : Pos} {kk : Nat} {xs ys : List D} (hm : X.mg "zip" = none) (ha : JE X WF F0 H0 Γ a (.v (.tuple xs))) (hb : JE X WF F0 H0 Γ b (.v (.list ys))) (hg : Gl X "zip" := by rfl)
    (hs : starEach [a, b] X.env = (false, eval a X.env) :: starEach [b] X.env := by rfl) (hs2 : starEach [b] X.env = (false, eval b X.env) :: starEach [] X.env := by rfl) (hpl : (backTo pos (starEach [b] X.env)).any (·.1) = false := by rfl) :
    JI X F0 H0 Γ (.Tuple es kk tp) (.Call (.Name "zip" np) [a, b] [] pos) ((xs.zip ys).map prD) :=
  pi_imp (pi_zipTL hg hm (ja_cons ha (ja_cons hb ja_nil hs2) hs) hs hpl) fun σ H R ⟨F, ok, q⟩ => ⟨F, ok, fun vs F1 H1 z1 d1 => by
    cases d1 with
    | cons k1 k2 =>
      cases k2 with
      | cons k2 k3 =>
        cases k3
        cases k1 with
        | tup a1 a2 =>
          cases k2 with
          | lst b1 b2 =>
            refine ⟨_, _, _, _, rfl, st_ex z1.s a1, sl_ex z1.s b1, q _ F1 H1 z1 fun F2 H2 i e1 e2 => ?_⟩
            have g1 := st_ex (e1.trans e2) a1
            have g2 := sl_ex (e1.trans e2) b1
            refine ⟨fun d e => ?_, fun e => ⟨_, _, g1, g2, ?_⟩⟩
            · obtain ⟨x, y, m1, m2, rfl⟩ := zip_get e
              obtain ⟨v, v1, v2⟩ := da_get a2 m1
              obtain ⟨u, u1, u2⟩ := da_get b2 m2
              refine ⟨⟨_, _, v, u, g1, g2, v1, u1⟩, fun x' H' y' => ?_⟩
              obtain ⟨T, x2, y2, w1, w2, w3, w4, w5⟩ := y'
              subst w1 w3
              have q1 := w4 _ g1
              have q2 := w5 _ g2
              rw [v1] at q1; rw [u1] at q2
              cases q1; cases q2
              exact ⟨_, Fz.new e2 w2, .tup (SqT.of upd_same) (.cons (dp_ex (e1.trans (Fz.new e2 w2).f) _ _ v2) (.cons (dp_ex (e1.trans (Fz.new e2 w2).f) _ _ u2) .nil))⟩
            · rw [List.length_map, List.length_zip] at e
              rw [da_len a2, da_len b2]
              exact e⟩
/-- what zip draws of two rows of unlike kinds -/
def ItzLT (K : PySem.W.Frag) (a b : Addr) : It where
  go := fun i H => ∃ (xs ys : List V) (x y : V), SqL K H a xs ∧ SqT K H b ys ∧ xs[i]? = some x ∧ ys[i]? = some y
  yld := fun i H v H' => ∃ T x y, v = .ref T ∧ H T = none ∧ H' = upd H T (.tup [x, y])
    ∧ (∀ xs, SqL K H a xs → xs[i]? = some x) ∧ ∀ ys, SqT K H b ys → ys[i]? = some y
  stop := fun i H => ∃ xs ys : List V, SqL K H a xs ∧ SqT K H b ys ∧ i = min xs.length ys.length
theorem turnLT {P : Program} {w : World} {K : PySem.W.Frag} {es : List Expr} {kq : Nat} {tq : Pos} {a b z p q c1 c2 : Addr}
    (S : ZipSep2 z p q c1 c2 [c1, a] [c2, b]) (na : a ≠ c1) (nb : b ≠ c2) :
    Turn P w K (.Tuple es kq tq) (ItzLT K a b) [z, p, q, c1, c2] z
      (fun i h => IsZip h z p q .none ∧ IsTupOf2 h p (.ref c1) (.ref c2) ∧ (∃ x y, IsTupOf2 h q x y) ∧ h.IsListIter c1 a i ∧ h.IsTupleIter c2 b i) where
  mem := List.mem_cons_self
  obj := fun i h st c hc => by
    obtain ⟨g1, g2, ⟨x, y, g3⟩, ⟨o1, k1, _, l1⟩, ⟨o2, k2, _, l2⟩⟩ := st
    have cs : c = z ∨ c = p ∨ c = q ∨ c = c1 ∨ c = c2 := by simpa using hc
    rcases cs with e | e | e | e | e
    · subst e; exact ⟨_, g1, fun v r => nomatch r⟩
    · subst e; exact ⟨_, g2, fun v r => nomatch r⟩
    · subst e; exact ⟨_, g3, fun v r => nomatch r⟩
    · subst e; exact ⟨o1, k1, fun v r => by rw [l1] at r; cases r⟩
    · subst e; exact ⟨o2, k2, fun v r => by rw [l2] at r; cases r⟩
  keep := fun i h h' st k => by
    obtain ⟨g1, g2, ⟨x, y, g3⟩, g4, g5⟩ := st
    refine ⟨k z (by simp) _ g1, k p (by simp) _ g2, ⟨x, y, k q (by simp) _ g3⟩, ?_, ?_⟩
    · exact g4.at fun o r => k c1 (by simp) o r
    · exact g5.at fun o r => k c2 (by simp) o r
  item := by
    intro X hP hw hK hc i pins s σ H E I fr st go
    subst hP hw hK
    obtain ⟨g1, g2, ⟨x0, y0, g3⟩, g4, g5⟩ := st
    obtain ⟨xs, ys, x, y, qx, qy, hx, hy⟩ := go
    obtain ⟨us, rx, px, _⟩ := I.list qx
    obtain ⟨vs, ry, py, _⟩ := I.tuple qy
    obtain ⟨u, hu, ru⟩ := rx.get hx
    obtain ⟨v, hv, rv⟩ := ry.get hy
    have zl : z < s.heap.objs.size := Heap.lt_size g1
    have D1 := Draws.list (prog := X.prog) (w := X.w) (A := X.A.in1) (I.ok.hd hc) c1 a na us.toArray
    have D2 := Draws.tuple (prog := X.prog) (w := X.w) (A := X.A.in1) (I.ok.hd hc) c2 b nb vs.toArray
    have li : i < us.toArray.size := by simpa using (List.getElem?_eq_some_iff.mp hu).1
    have lj : i < vs.toArray.size := by simpa using (List.getElem?_eq_some_iff.mp hv).1
    refine wpAny_pyNext_zipD2_item S D1 D2 g1 g2 g3 ⟨g4, px.isList⟩ ⟨g5, py⟩ li lj fun x1 x2 h' tk w1 w2 z' q' s1 s2 hT hs hk => ?_
    have e1 : u = x1 := by simpa [hu] using w1
    have e2 : v = x2 := by simpa [hv] using w2
    subst e1 e2
    refine ⟨_, rfl, wpAny_letOwnedTupleGo_zip (s := { s with heap := h', toks := tk }) z' fun h2 z2 sb => ?_⟩
    have far : ∀ c, c ∈ [z, p, q, c1, c2] → c < s.heap.objs.size := fun c hcm => by
      have cs : c = z ∨ c = p ∨ c = q ∨ c = c1 ∨ c = c2 := by simpa using hcm
      rcases cs with e | e | e | e | e
      · rw [e]; exact zl
      · rw [e]; exact Heap.lt_size g2
      · rw [e]; exact Heap.lt_size g3
      · rw [e]; obtain ⟨_, r, _⟩ := g4; exact Heap.lt_size r
      · rw [e]; obtain ⟨_, r, _⟩ := g5; exact Heap.lt_size r
    have hN : h2.get? s.heap.objs.size = some { cls := .type "tuple", data := .seq #[u, v] } :=
      (sb.2 _ (Nat.ne_of_gt zl)).trans hT
    have made : ObjOk X.prog X.w (upd H s.heap.objs.size (.tup [x, y])) h2 s.heap.objs.size (.tup [x, y]) :=
      ⟨(by show 2 ≤ sizeLine; decide), [u, v], .cons ru (.cons rv .nil), ⟨_, hN, rfl, _, rfl⟩⟩
    have kept : ∀ c o, c ∉ [z, p, q, c1, c2] → s.heap.get? c = some o → h2.get? c = some o := fun c o hb r => by
      have n : c ≠ z ∧ c ≠ p ∧ c ≠ q ∧ c ≠ c1 ∧ c ≠ c2 := by simpa using hb
      exact (sb.2 c n.1).trans (hk c o n.1 n.2.2.1 n.2.2.2.1 n.2.2.2.2 r)
    have J : Inv X pins σ (upd H s.heap.objs.size (.tup [x, y])) { s with heap := h2, toks := tk } :=
      I.turnedNew (t' := tk) (ch := [z, p, q, c1, c2]) kept fr (Nat.le_refl _) made
    refine ⟨.ref s.heap.objs.size, _, J, rfl, ⟨_, x, y, rfl, I.hok.fresh (Nat.le_refl _), rfl, fun l hl => ?_, fun l hl => ?_⟩, ⟨z2, ?_, ⟨u, v, ?_⟩, ?_, ?_⟩, fun c hcm => ?_⟩
    · rw [I.list_inj hl qx]; exact hx
    · rw [I.tuple_inj hl qy]; exact hy
    · exact (sb.2 _ S.TIz).trans (hk _ _ S.TIz S.TITO S.TIi1 S.TIi2 g2)
    · exact (sb.2 _ S.TOz).trans q'
    · exact s1.1.at fun o r => (sb.2 _ (Ne.symm S.zi1)).trans r
    · exact s2.1.at fun o r => (sb.2 _ (Ne.symm S.zi2)).trans r
    · rw [upd_ne (Nat.ne_of_lt (far c hcm))]
      exact (fr c hcm).1
  done := by
    intro X hP hw hK hc i pins s σ H E I fr st go
    subst hP hw hK
    obtain ⟨g1, g2, ⟨x0, y0, g3⟩, g4, g5⟩ := st
    obtain ⟨xs, ys, qx, qy, fin⟩ := go
    obtain ⟨us, rx, px, _⟩ := I.list qx
    obtain ⟨vs, ry, py, _⟩ := I.tuple qy
    have n1 := rx.length
    have n2 := ry.length
    have D1 := Draws.list (prog := X.prog) (w := X.w) (A := X.A.in1) (I.ok.hd hc) c1 a na us.toArray
    have D2 := Draws.tuple (prog := X.prog) (w := X.w) (A := X.A.in1) (I.ok.hd hc) c2 b nb vs.toArray
    have m1 : us.toArray.size = xs.length := by rw [List.size_toArray]; omega
    have m2 : vs.toArray.size = ys.length := by rw [List.size_toArray]; omega
    refine wpAny_pyNext_zipD2_end S D1 D2 g1 g2 g3 ⟨g4, px.isList⟩ ⟨g5, py⟩ (by omega) (by omega) (by omega) fun h' tk hk => ⟨rfl, ?_⟩
    refine I.turnedL (t' := tk) (ch := [z, p, q, c1, c2]) (fun c o hb r => ?_) fr
    have n : c ≠ z ∧ c ≠ p ∧ c ≠ q ∧ c ≠ c1 ∧ c ≠ c2 := by simpa using hb
    exact hk c o n.1 n.2.2.1 n.2.2.2.1 n.2.2.2.2 r
  self := fun A i s Q E st h => wpAny_pyIter_zip st.1 h
theorem pi_zipLT {X : Cx} {e e2 : Expr} {ta : TA} {p pos tpos : Pos} {es : List Expr} {kk : Nat} (hg : Gl X "zip") (hm : X.mg "zip" = none) (ha : PA X [e, e2] ta)
    (hs : starEach [e, e2] X.env = (false, eval e X.env) :: starEach [e2] X.env) (hpl : (backTo pos (starEach [e2] X.env)).any (·.1) = false) :
    PI X (.Tuple es kk tpos) (.Call (.Name "zip" p) [e, e2] [] pos) (fun σ H R => ta σ H fun vs H1 => ∃ a b xs ys, vs = [.ref a, .ref b] ∧ SqL X.K H1 a xs ∧ SqT X.K H1 b ys ∧ R (ItzLT X.K a b) H1) := by
  refine ⟨fun pins s σ H R I h => ?_⟩
  refine Call_ (ld_blt I hg hm PyProof.Rows.boot_zip (PyProof.Rows.callWith_type1 (thn (ha.run pos pins s σ H _ I h) fun us s1 ⟨vs, H1, I1, r1, q1⟩ => ?_) hs hpl))
  obtain ⟨a, b, xs, ys, ex, qx, qy, q⟩ := q1
  subst ex
  obtain ⟨ua, ub, rfl, ra, rb⟩ := Vals.two r1
  cases ra
  cases rb
  obtain ⟨us, rx, px, _⟩ := I1.list qx
  obtain ⟨vs, ry, py, _⟩ := I1.tuple qy
  have la : a < s1.heap.objs.size := px.lt
  have lb : b < s1.heap.objs.size := (by obtain ⟨_, r, _⟩ := py; exact Heap.lt_size r)
  refine zip_begins2 (begins_list a us.toArray) (begins_tuple b vs.toArray) px.isList py fun h' hz hp hq h1 h2 hsz hk => wpAny_pyIter_zip hz ?_
  have J : Inv X pins σ H1 { s1 with heap := h' } := I1.kept (t' := s1.toks) hk
  refine ⟨s1.heap.objs.size + 4, [s1.heap.objs.size + 4, s1.heap.objs.size + 2, s1.heap.objs.size + 3, s1.heap.objs.size, s1.heap.objs.size + 1], _, _, H1, rfl, J,
    turnLT (K := X.K) (a := a) (b := b) (zsep la lb) (Nat.ne_of_lt la) (Nat.ne_of_lt (Nat.lt_succ_of_lt lb)), ⟨hz, hp, ⟨_, _, hq⟩, ⟨_, h1, rfl, rfl⟩, ⟨_, h2, rfl, rfl⟩⟩, fun c hcm => ?_, q⟩
  have hle : s1.heap.objs.size ≤ c := by
    have cs : c = s1.heap.objs.size + 4 ∨ c = s1.heap.objs.size + 2 ∨ c = s1.heap.objs.size + 3 ∨ c = s1.heap.objs.size ∨ c = s1.heap.objs.size + 1 := by simpa using hcm
    exact five_le cs
  exact I1.fpOk hle (I1.hok.fresh hle)
theorem ji_zipLT {X : Cx} {F0 H0 : Hp} {Γ : List S} {a b : Expr} {es : List Expr} {np pos tp : Pos} {kk : Nat} {xs ys : List D} (hm : X.mg "zip" = none) (ha : JE X WF F0 H0 Γ a (.v (.list xs))) (hb : JE X WF F0 H0 Γ b (.v (.tuple ys))) (hg : Gl X "zip" := by rfl)
    (hs : starEach [a, b] X.env = (false, eval a X.env) :: starEach [b] X.env := by rfl) (hs2 : starEach [b] X.env = (false, eval b X.env) :: starEach [] X.env := by rfl) (hpl : (backTo pos (starEach [b] X.env)).any (·.1) = false := by rfl) :
    JI X F0 H0 Γ (.Tuple es kk tp) (.Call (.Name "zip" np) [a, b] [] pos) ((xs.zip ys).map prD) :=
  pi_imp (pi_zipLT hg hm (ja_cons ha (ja_cons hb ja_nil hs2) hs) hs hpl) fun σ H R ⟨F, ok, q⟩ => ⟨F, ok, fun vs F1 H1 z1 d1 => by
    cases d1 with
    | cons k1 k2 =>
      cases k2 with
      | cons k2 k3 =>
        cases k3
        cases k1 with
        | lst a1 a2 =>
          cases k2 with
          | tup b1 b2 =>
            refine ⟨_, _, _, _, rfl, sl_ex z1.s a1, st_ex z1.s b1, q _ F1 H1 z1 fun F2 H2 i e1 e2 => ?_⟩
            have g1 := sl_ex (e1.trans e2) a1
            have g2 := st_ex (e1.trans e2) b1
            refine ⟨fun d e => ?_, fun e => ⟨_, _, g1, g2, ?_⟩⟩
            · obtain ⟨x, y, m1, m2, rfl⟩ := zip_get e
              obtain ⟨v, v1, v2⟩ := da_get a2 m1
              obtain ⟨u, u1, u2⟩ := da_get b2 m2
              refine ⟨⟨_, _, v, u, g1, g2, v1, u1⟩, fun x' H' y' => ?_⟩
              obtain ⟨T, x2, y2, w1, w2, w3, w4, w5⟩ := y'
              subst w1 w3
              have q1 := w4 _ g1
              have q2 := w5 _ g2
              rw [v1] at q1; rw [u1] at q2
              cases q1; cases q2
              exact ⟨_, Fz.new e2 w2, .tup (SqT.of upd_same) (.cons (dp_ex (e1.trans (Fz.new e2 w2).f) _ _ v2) (.cons (dp_ex (e1.trans (Fz.new e2 w2).f) _ _ u2) .nil))⟩
            · rw [List.length_map, List.length_zip] at e
              rw [da_len a2, da_len b2]
              exact e⟩
end TB

namespace TB
open PySem L2 PySem.Spec PyProof.Rows
/-! ### the rows of the algorithm, with their makers -/
structure Row where
  x : List Int
  s : List Int
  t : List Int
def Row.l (r : Row) : List (List Int) := [r.x, r.s, r.t]
def stepW (p q : Row) : Row := ⟨remLft p.x q.x, subL p.s (mulL q.s (quoLft p.x q.x)), subL p.t (mulL q.t (quoLft p.x q.x))⟩
def euW : Nat → Row → Row → Row × Row
  | 0, p, q => (p, q)
  | k + 1, p, q => euW k q (stepW p q)
theorem euW_back : ∀ (k : Nat) (p q : Row), euW (k + 1) p q = ((euW k p q).2, stepW (euW k p q).1 (euW k p q).2)
  | 0, _, _ => rfl
  | k + 1, p, q => euW_back k q (stepW p q)
theorem euW_x : ∀ (k : Nat) (p q : Row), (euW k p q).1.x = (euL k p.x q.x).1 ∧ (euW k p q).2.x = (euL k p.x q.x).2
  | 0, _, _ => ⟨rfl, rfl⟩
  | k + 1, p, q => euW_x k q (stepW p q)
def oneR (a : List Int) : Row := ⟨a, [2, 0, 0, 0], [0, 0, 0, 0]⟩
def twoR (b : List Int) : Row := ⟨b, [0, 0, 0, 0], [2, 0, 0, 0]⟩
/-- rows of numbers that are sums of both -/
def RowN (r : Row) : Prop := isNum r.x = true ∧ isNum r.s = true ∧ isNum r.t = true
def RowS (a b : List Int) (r : Row) : Prop := r.x = addL (mulL a r.s) (mulL b r.t)
theorem add_sub4 {p q r s : List Int} (hp : isNum p = true) (hq : isNum q = true) (hr : isNum r = true) (hs : isNum s = true) : subL (addL p q) (addL r s) = addL (subL p r) (subL q s) := by
  obtain ⟨p1, p2, p3, p4, rfl, _⟩ := num_cases hp
  obtain ⟨q1, q2, q3, q4, rfl, _⟩ := num_cases hq
  obtain ⟨r1, r2, r3, r4, rfl, _⟩ := num_cases hr
  obtain ⟨s1, s2, s3, s4, rfl, _⟩ := num_cases hs
  show [p1 + q1 - (r1 + s1), p2 + q2 - (r2 + s2), p3 + q3 - (r3 + s3), p4 + q4 - (r4 + s4)] = [p1 - r1 + (q1 - s1), p2 - r2 + (q2 - s2), p3 - r3 + (q3 - s3), p4 - r4 + (q4 - s4)]
  have e : ∀ x y z w : Int, x + y - (z + w) = x - z + (y - w) := fun _ _ _ _ => by omega
  rw [e, e, e, e]
theorem step_sum {a b : List Int} {p q : Row} (ha : isNum a = true) (hb : isNum b = true) (hp : RowN p) (hq : RowN q) (h0 : zeroB q.x = false) (sp : RowS a b p) (sq : RowS a b q) : RowN (stepW p q) ∧ RowS a b (stepW p q) := by
  obtain ⟨p1, p2, p3⟩ := hp
  obtain ⟨q1, q2, q3⟩ := hq
  obtain ⟨n1, n2, _⟩ := rem_lft p1 q1 h0
  refine ⟨⟨n2, num_sub p2 (num_mul q2 n1), num_sub p3 (num_mul q3 n1)⟩, ?_⟩
  show subL p.x (mulL q.x (quoLft p.x q.x)) = addL (mulL a (subL p.s (mulL q.s (quoLft p.x q.x)))) (mulL b (subL p.t (mulL q.t (quoLft p.x q.x))))
  generalize quoLft p.x q.x = w at n1 ⊢
  rw [mul_subr ha p2 (num_mul q2 n1), mul_subr hb p3 (num_mul q3 n1), ← add_sub4 (num_mul ha p2) (num_mul hb p3) (num_mul ha (num_mul q2 n1)) (num_mul hb (num_mul q3 n1)), ← mul_asc ha q2 n1, ← mul_asc hb q3 n1, ← mul_addl (num_mul ha q2) (num_mul hb q3) n1]
  rw [show p.x = _ from sp, show q.x = _ from sq]
theorem G.sub {m n : Nat} {x y : List Int} (a : G m x) (b : G n y) : G (max m n + 1) (subL x y) := by
  refine ⟨num_sub a.num b.num, fun z hz => ?_⟩
  obtain ⟨⟨p, q⟩, hpq, rfl⟩ := List.mem_map.mp hz
  have h := List.of_mem_zip hpq
  exact (a.sm p h.1).sub (b.sm q h.2)
/-- what is known while the algorithm runs -/
theorem eu_half : ∀ (k : Nat) (a b : List Int), isNum a = true → isNum b = true → (∀ j, j < k → zeroB (euL j a b).2 = false) → 2 ^ k * normL (euL k a b).2 ≤ normL b
  | 0, a, b, _, _, _ => by
    show 2 ^ 0 * normL b ≤ normL b
    rw [Int.pow_zero, Int.one_mul]
    exact Int.le_refl _
  | k + 1, a, b, ha, hb, h => by
    obtain ⟨hq, hr, hn⟩ := rem_lft ha hb (h 0 (Nat.zero_lt_succ _))
    have ih := eu_half k b (remLft a b) hb hr fun j hj => h (j + 1) (Nat.succ_lt_succ hj)
    show 2 ^ (k + 1) * normL (euL k b (remLft a b)).2 ≤ normL b
    have e : (2 : Int) ^ (k + 1) * normL (euL k b (remLft a b)).2 = 2 * (2 ^ k * normL (euL k b (remLft a b)).2) := by rw [Int.pow_succ]; grind
    omega
def Stops (a b : List Int) (m : Nat) : Prop := zeroB (euL m a b).2 = true ∧ ∀ k, k < m → zeroB (euL k a b).2 = false
noncomputable def stopN (a b : List Int) : Nat := Classical.epsilon fun m => Stops a b m
theorem stop_eq {a b : List Int} {m : Nat} (h : Stops a b m) : stopN a b = m := by
  have g : Stops a b (stopN a b) := Classical.epsilon_spec ⟨m, h⟩
  rcases Nat.lt_trichotomy (stopN a b) m with l | l | l
  · have := h.2 _ l
    rw [g.1] at this
    cases this
  · exact l
  · have := g.2 _ l
    rw [h.1] at this
    cases this
theorem stop_le {a b : List Int} {m n : Nat} (ha : isNum a = true) (hb : isNum b = true) (h : Stops a b m) (hn : normL b < 2 ^ n) : m ≤ n := by
  cases m with
  | zero => exact Nat.zero_le _
  | succ m =>
    have e := eu_half m a b ha hb fun j hj => h.2 j (by omega)
    have z := h.2 m (Nat.lt_succ_self _)
    have numk : ∀ k (a b : List Int), isNum a = true → isNum b = true → (∀ j, j < k → zeroB (euL j a b).2 = false) → isNum (euL k a b).2 = true := by
      intro k
      induction k with
      | zero => exact fun a b _ hb _ => hb
      | succ k ih => exact fun a b ha hb h => ih b (remLft a b) hb (rem_lft ha hb (h 0 (Nat.zero_lt_succ _))).2.1 fun j hj => h (j + 1) (Nat.succ_lt_succ hj)
    have np := norm_pos (numk m a b ha hb fun j hj => h.2 j (by omega)) z
    have l : (2 : Int) ^ m * 1 ≤ 2 ^ m * normL (euL m a b).2 := Int.mul_le_mul_of_nonneg_left (by omega) (Int.le_of_lt (Int.pow_pos (by decide)))
    have l2 : (2 : Int) ^ m < 2 ^ n := by omega
    have l3 : (2 : Nat) ^ m < 2 ^ n := by exact_mod_cast l2
    have := (Nat.pow_lt_pow_iff_right (by decide : 1 < 2)).mp l3
    omega
/-- the state after k steps -/
structure Run (a b : List Int) (k : Nat) : Prop where
  n1 : RowN (euW k (oneR a) (twoR b)).1
  n2 : RowN (euW k (oneR a) (twoR b)).2
  s1 : RowS a b (euW k (oneR a) (twoR b)).1
  s2 : RowS a b (euW k (oneR a) (twoR b)).2
  g1 : ∀ y ∈ (euW k (oneR a) (twoR b)).1.l, G (160 + 330 * k) y
  g2 : ∀ y ∈ (euW k (oneR a) (twoR b)).2.l, G (160 + 330 * k) y
theorem lit_G {x : List Int} (h : isNum x = true) (hs : ∀ y ∈ x, y.natAbs < 2 ^ 2) (n : Nat) : G (160 + n) x := ⟨h, fun y hy => (show Bt 2 y from hs y hy).mono (by omega)⟩
theorem run_ok {a b : List Int} {m : Nat} (ga : G 150 a) (gb : G 150 b) (h : Stops a b m) : ∀ k, k ≤ m → Run a b k ∧ G 153 (euL k a b).1 ∧ G 153 (euL k a b).2 := by
  have na := G_norm ga
  have nb := G_norm gb
  intro k
  induction k with
  | zero =>
    intro _
    have z1 : isNum [2, 0, 0, 0] = true := by decide
    have z0 : isNum [0, 0, 0, 0] = true := by decide
    refine ⟨⟨⟨ga.num, z1, z0⟩, ⟨gb.num, z0, z1⟩, ?_, ?_, ?_, ?_⟩, ⟨ga.num, ga.sm.mono (by decide)⟩, ⟨gb.num, gb.sm.mono (by decide)⟩⟩
    · show a = addL (mulL a [2, 0, 0, 0]) (mulL b [0, 0, 0, 0])
      rw [mul_oneR ga.num, mul_zeroR gb.num, add_zeroR ga.num]
    · show b = addL (mulL a [0, 0, 0, 0]) (mulL b [2, 0, 0, 0])
      rw [mul_oneR gb.num, mul_zeroR ga.num]
      obtain ⟨p, q, r, s, e, _⟩ := num_cases gb.num
      rw [e]
      show _ = [0 + p, 0 + q, 0 + r, 0 + s]
      simp
    · intro y hy
      have hy' : y = a ∨ y = [2, 0, 0, 0] ∨ y = [0, 0, 0, 0] := by simpa [Row.l, euW, oneR] using hy
      rcases hy' with rfl | rfl | rfl
      · exact ⟨ga.num, ga.sm.mono (by omega)⟩
      · exact lit_G z1 (by decide) _
      · exact lit_G z0 (by decide) _
    · intro y hy
      have hy' : y = b ∨ y = [0, 0, 0, 0] ∨ y = [2, 0, 0, 0] := by simpa [Row.l, euW, twoR] using hy
      rcases hy' with rfl | rfl | rfl
      · exact ⟨gb.num, gb.sm.mono (by omega)⟩
      · exact lit_G z0 (by decide) _
      · exact lit_G z1 (by decide) _
  | succ k ih =>
    intro hk
    obtain ⟨R, e1, e2⟩ := ih (by omega)
    have hz := h.2 k (by omega)
    have hx := euW_x k (oneR a) (twoR b)
    have hx1 : (euW k (oneR a) (twoR b)).1.x = (euL k a b).1 := hx.1
    have hx2 : (euW k (oneR a) (twoR b)).2.x = (euL k a b).2 := hx.2
    have eb := euL_back k a b
    obtain ⟨hq, hr, hn⟩ := rem_lft e1.num e2.num hz
    have nn := norm_nn hr
    have n2 := G_norm e2
    have half := eu_half k a b ga.num gb.num fun j hj => h.2 j (by omega)
    have pw : (1 : Int) ≤ 2 ^ k := by have : (0 : Int) < 2 ^ k := Int.pow_pos (by decide); omega
    have n2b : normL (euL k a b).2 ≤ normL b := by
      have := norm_nn e2.num
      have : 1 * normL (euL k a b).2 ≤ 2 ^ k * normL (euL k a b).2 := Int.mul_le_mul_of_nonneg_right pw (by omega)
      omega
    have gr : G 153 (remLft (euL k a b).1 (euL k a b).2) := norm_G hr (by omega)
    have n0 := norm_pos e2.num hz
    have nbt := bt_norm e2.num e2.sm
    have gcm := e2.conj.mul e1
    have gq : G 314 (quoLft (euL k a b).1 (euL k a b).2) := by
      have := near_G (k := 309) n0 (nbt.mono (by decide)) (num_len gcm.num) (gcm.sm.mono (by decide))
      exact this
    have hz' : zeroB (euW k (oneR a) (twoR b)).2.x = false := by rw [hx2]; exact hz
    have st := step_sum ga.num gb.num R.n1 R.n2 hz' R.s1 R.s2
    have ew := euW_back k (oneR a) (twoR b)
    rw [← hx1, ← hx2] at gq gr
    refine ⟨⟨by rw [ew]; exact R.n2, by rw [ew]; exact st.1, by rw [ew]; exact R.s2, by rw [ew]; exact st.2, ?_, ?_⟩, by rw [eb]; exact e2, by rw [eb]; show G 153 (remLft (euL k a b).1 (euL k a b).2); rw [← hx1, ← hx2]; exact gr⟩
    · rw [ew]
      intro y hy
      have g := R.g2 y hy
      exact ⟨g.num, g.sm.mono (by omega)⟩
    · rw [ew]
      intro y hy
      have r1 := R.g1
      have r2 := R.g2
      generalize (euW k (oneR a) (twoR b)).1 = p at *
      generalize (euW k (oneR a) (twoR b)).2 = q at *
      have hy' : y = remLft p.x q.x ∨ y = subL p.s (mulL q.s (quoLft p.x q.x)) ∨ y = subL p.t (mulL q.t (quoLft p.x q.x)) := by simpa [Row.l, stepW] using hy
      rcases hy' with rfl | rfl | rfl
      · exact ⟨gr.num, gr.sm.mono (by omega)⟩
      · have g := (r1 p.s (by simp [Row.l])).sub ((r2 q.s (by simp [Row.l])).mul gq)
        exact ⟨g.num, g.sm.mono (by omega)⟩
      · have g := (r1 p.t (by simp [Row.l])).sub ((r2 q.t (by simp [Row.l])).mul gq)
        exact ⟨g.num, g.sm.mono (by omega)⟩
end TB

namespace TB
open PySem L2 PySem.Spec PyProof.Rows
section
variable {X : Cx} {W : WX} {F0 H0 : Hp} {Γ : List S} {e elt it a b : Expr} {pos py pz tp : Pos} {n n2 : Str} {scope : Scope} {i j kk : Nat} {ps : List (D × D)}
/-- y = [elt for n, n2 in it] as a statement of its own -/
theorem js_setLc2 (l : Nat) {y : Str} {py2 spos : Pos} (i j : Nat) {f : D × D → D} {k2 : Nat} (hij : i ≠ j) (hc : X.calm = true) (hN : X.N.Nodup) (hi : JI X F0 H0 Γ (.Tuple [.Name n py, .Name n2 pz] kk tp) it (ps.map prD)) (ok : BlkOk X.N X.env.scope scope [(n, i), (n2, j)]) (hl : ps.length < 100000)
    (hsw : swapsWith (.ListComp elt [⟨.Tuple [.Name n py, .Name n2 pz] kk tp, it, [], 0⟩] scope pos) (some (.Name y py2)) spos.line X.env = pure true)
    (hg : ∀ (s : Shared) (H : Hp) (C : Addr) (cl : List (Str × Addr)) (fp : List Addr), PG (Bk X s H scope C cl fp) (.Tuple [.Name n py, .Name n2 pz] kk tp) (gTup X.K 2 (gCons (gName i) (gCons (gName j) gNil))))
    (he : ∀ p, p ∈ ps → ∀ (s : Shared) (H : Hp) (C : Addr) (cl : List (Str × Addr)) (fp : List Addr), JE (Bk X s H scope C cl fp) WF F0 H0 ((Γ.set i (.d p.1)).set j (.d p.2)) elt (.v (f p))) (hy : X.N[l]? = some y := by rfl) (hyl : X.env.scope.names.lookup y = some .local := by rfl) (hs : ∀ x, foldedSetIterable it X.env x = pure x := by intro _; rfl) :
    JS X W F0 H0 Γ (.Assign [.Name y py2] (.ListComp elt [⟨.Tuple [.Name n py, .Name n2 pz] kk tp, it, [], 0⟩] scope pos) spos) (.nx (Γ.set l (.own (ps.map f)))) := by
  refine ps_imp (ps_setLc (own := [(n, i), (n2, j)]) (te := fun σ H Q => ∃ p, p ∈ ps ∧ tE X.K WF F0 H0 ((Γ.set i (.d p.1)).set j (.d p.2)) (.v (f p)) σ H Q) hc hN hy hyl hsw hi ok hg (fun _ _ _ _ _ => pts_nil) (fun s H C cl fp => ⟨fun pins s' σ H' Q I ⟨p, hp, t⟩ => (he p hp s H C cl fp).run pins s' σ H' Q I t⟩) hs) ?_
  rintro D' σ H ⟨F, ok, q0⟩
  have q : ∀ p xs F' H', Fz F H F' H' → H p = none → H' p = some (.lst xs) → F' p = none → DpAll X.K F' xs (ps.map f) → D'.nx (σ.set l (some (.ref p))) H' := fun p xs F' H' z n1 n2 n3 d => q0 _ F' H' z.f (ok.setNew z l n1 n2 n3 d)
  clear q0
  refine ⟨F, ok, fun J F1 H1 z1 it1 D nD => ?_⟩
  have ok1 := ok.mono z1
  have nD1 : F1 D = none := z1.s.none nD
  refine ⟨fun k m H2 => m = ps.length - k ∧ k ≤ ps.length ∧ ∃ F2 acc, Fz F1 H1 F2 H2 ∧ H2 D = some (.lst acc) ∧ F2 D = none ∧ DpAll X.K F2 acc ((ps.take k).map f), ⟨ps.length, by simp, Nat.zero_le _, F1, [], Fz.fresh z1.s nD, upd_same, nD1, by simp; exact .nil⟩, ?_⟩
  rintro k m H2 ⟨rfl, hk, F2, acc, z2, a1, a2, a3⟩
  obtain ⟨go, stop⟩ := it1 F2 H2 k z2.f z2.s
  by_cases hlt : k < ps.length
  · have hd : ps[k]? = some ps[k] := List.getElem?_eq_getElem hlt
    have hmem : ps[k] ∈ ps := List.getElem_mem hlt
    have hdm : (ps.map prD)[k]? = some (prD ps[k]) := by rw [List.getElem?_map, hd]; rfl
    obtain ⟨g1, g2⟩ := go _ hdm
    have htk : (ps.take (k + 1)).map f = (ps.take k).map f ++ [f ps[k]] := by rw [List.take_succ, hd, List.map_append]; rfl
    refine .inr ⟨g1, fun H' => ∃ F3 acc', Fz F1 H1 F3 H' ∧ H' D = some (.lst acc') ∧ F3 D = none ∧ DpAll X.K F3 acc' ((ps.take (k + 1)).map f), fun H' h' => ⟨ps.length - (k + 1), by omega, rfl, hlt, h'⟩, fun x H' y => ?_⟩
    obtain ⟨F3, z3, d3⟩ := g2 x H' y
    have b1 := z3.h D _ a1
    have b2 := z3.n D _ a2 a1
    unfold prD at d3
    cases d3 with
    | tup t1 t2 =>
      cases t2 with
      | cons t2 t3 =>
        cases t3 with
        | cons t3 t4 =>
          cases t4
          refine ⟨_, _, rfl, st_ex z3.s t1, rfl, _, _, rfl, _, _, rfl, rfl, ?_⟩
          refine ⟨?_, ps[k], hmem, F3, ?_, fun v F5 H5 z5 d5 => ⟨acc, z5.h D _ b1, ?_, F5, acc ++ [v], ?_, upd_same, z5.n D _ b2 b1, ?_⟩⟩
          · show (((((σ.set j none).set i none).set i (some _)).set j (some _)).set j none).set i none = (σ.set j none).set i none
            rw [List.set_set, List.set_set, List.set_comm _ _ (Ne.symm hij), List.set_set, List.set_comm _ _ hij, List.set_set]
          · have o2 := (((((ok1.mono z2).mono z3).forget j none).forget i none).set i t2).set j t3
            have e1 : (((Γ.set j S.u).set i S.u).set i (S.d ps[k].1)).set j (S.d ps[k].2) = (Γ.set i (S.d ps[k].1)).set j (S.d ps[k].2) := by
              rw [List.set_set, List.set_comm _ _ (Ne.symm hij), List.set_set]
            rw [e1] at o2
            exact o2
          · rw [da_len a3, List.length_map, List.length_take]
            exact Nat.lt_of_lt_of_le (by omega : _ < 100000) (by decide)
          · have zz := (z2.trans z3).trans z5
            refine ⟨zz.f, fun c o hc => ?_, fun c o hc => ?_, zz.n⟩
            · rw [upd_ne (ne_of_none hc nD)]
              exact zz.h c o hc
            · rw [upd_ne (ne_of_none hc (z5.n D _ b2 b1))]
              exact zz.s c o hc
          · rw [htk]
            exact da_app (da_ex (z3.f.trans z5.f) _ _ a3) (.cons d5 .nil)
  · have hke : k = ps.length := by omega
    refine .inl ⟨stop (by rw [List.length_map]; exact hke), ?_⟩
    subst hke
    rw [List.take_length] at a3
    exact q D acc F2 H2 (z1.trans z2) (z1.h.none nD) a1 a2 a3
end
end TB

namespace TB
open PySem L2 PySem.Spec PyProof.Rows
/-! ### rows as values: tuples first, lists from the third on -/
def rowD (k : Nat) (r : Row) : D := if k ≤ 1 then .tuple (r.l.map ti) else .list (r.l.map ti)
theorem rowD_l {k : Nat} {r : Row} : rowD (k + 2) r = .list (r.l.map ti) := if_neg (by omega)
def unT : D → List Int := fun d => match d with | .tuple ds => ds.map ofI | _ => []
theorem unT_ti (x : List Int) : unT (ti x) = x := by
  show (x.map PyData.int).map ofI = x
  rw [List.map_map]
  exact List.map_id' _
theorem row_zip {p q : Row} {z : D × D} (h : z ∈ (p.l.map ti).zip (q.l.map ti)) : ∃ x y, z = (ti x, ti y) ∧ x ∈ p.l ∧ y ∈ q.l := by
  obtain ⟨u, v⟩ := z
  obtain ⟨h1, h2⟩ := List.of_mem_zip h
  obtain ⟨x, hx, rfl⟩ := List.mem_map.mp h1
  obtain ⟨y, hy, rfl⟩ := List.mem_map.mp h2
  exact ⟨x, y, rfl, hx, hy⟩
def stepD (w : List Int) (z : D × D) : D := ti (subL (unT z.1) (mulL (unT z.2) w))
theorem row_step (p q : Row) : ((p.l.map ti).zip (q.l.map ti)).map (stepD (quoLft p.x q.x)) = (stepW p q).l.map ti := by
  show [stepD _ (ti p.x, ti q.x), stepD _ (ti p.s, ti q.s), stepD _ (ti p.t, ti q.t)] = _
  unfold stepD
  rw [unT_ti, unT_ti, unT_ti, unT_ti, unT_ti, unT_ti]
  rfl
section
variable {X : Cx} {W : WX} {F0 H0 : Hp} {Γ : List S} {a b e : Expr} {es : List Expr} {np pos tp : Pos} {kk k : Nat} {p q : Row}
theorem ji_zipRow (hm : X.mg "zip" = none) (ha : JE X WF F0 H0 Γ a (.v (rowD k p))) (hb : JE X WF F0 H0 Γ b (.v (rowD (k + 1) q))) (hg : Gl X "zip" := by rfl)
    (hs : starEach [a, b] X.env = (false, eval a X.env) :: starEach [b] X.env := by rfl) (hs2 : starEach [b] X.env = (false, eval b X.env) :: starEach [] X.env := by rfl) (hpl : (backTo pos (starEach [b] X.env)).any (·.1) = false := by rfl) :
    JI X F0 H0 Γ (.Tuple es kk tp) (.Call (.Name "zip" np) [a, b] [] pos) (((p.l.map ti).zip (q.l.map ti)).map prD) := by
  match k, ha, hb with
  | 0, ha, hb => exact ji_zipT hm ha hb hg hs hs2 hpl
  | 1, ha, hb => exact ji_zipTL hm ha hb hg hs hs2 hpl
  | k + 2, ha, hb => exact ji_zipL hm (by rw [← rowD_l]; exact ha) (by rw [← rowD_l]; exact hb) hg hs hs2 hpl
theorem je_ixRow {i : Int} {d : D} (h : atI (p.l.map ti) i = some d) (ha : JE X W F0 H0 Γ a (.v (rowD k p))) (hb : JE X W F0 H0 Γ b (.v (.int i))) (hs : PlainIx b := by exact fun _ _ => rfl) : JE X W F0 H0 Γ (.Subscript a b pos) (.v d) := by
  match k, ha with
  | 0, ha => exact je_ixT h ha hb hs
  | 1, ha => exact je_ixT h ha hb hs
  | k + 2, ha => exact je_ixL h (by rw [← rowD_l]; exact ha) hb hs
theorem ji_row {tg it : Expr} (h : JE X WF F0 H0 Γ it (.v (rowD k p))) : JI X F0 H0 Γ tg it (p.l.map ti) := by
  match k, h with
  | 0, h => exact ji_tup h
  | 1, h => exact ji_tup h
  | k + 2, h => exact ji_list (by rw [← rowD_l]; exact h)
end
def R_lr : List D → Out → Prop := fun ds o => ∃ (a b : List Int) (m : Nat), ds = [ti a, ti b] ∧ G 150 a ∧ G 150 b ∧ Stops a b m ∧ o = .v (.tuple [rowD m (euW m (oneR a) (twoR b)).1, rowD (m + 1) (euW m (oneR a) (twoR b)).2])
end TB

namespace TB
open PySem L2 PySem.Spec PyProof.Rows
/-! ### the makers of a row are not both 0 -/
def one4 : List Int := [2, 0, 0, 0]
def zer4 : List Int := [0, 0, 0, 0]
structure Back (p q : Row) : Prop where
  ex : ∃ c1 c2 d1 d2, isNum c1 = true ∧ isNum c2 = true ∧ isNum d1 = true ∧ isNum d2 = true ∧ addL (mulL p.s c1) (mulL q.s c2) = one4 ∧ addL (mulL p.t c1) (mulL q.t c2) = zer4 ∧ addL (mulL p.s d1) (mulL q.s d2) = zer4 ∧ addL (mulL p.t d1) (mulL q.t d2) = one4
theorem add_mix {x y z : List Int} (hx : isNum x = true) (hy : isNum y = true) (hz : isNum z = true) : addL (addL x y) (subL z x) = addL z y := by
  obtain ⟨p1, p2, p3, p4, rfl, _⟩ := num_cases hx
  obtain ⟨q1, q2, q3, q4, rfl, _⟩ := num_cases hy
  obtain ⟨r1, r2, r3, r4, rfl, _⟩ := num_cases hz
  show [p1 + q1 + (r1 - p1), p2 + q2 + (r2 - p2), p3 + q3 + (r3 - p3), p4 + q4 + (r4 - p4)] = [r1 + q1, r2 + q2, r3 + q3, r4 + q4]
  have e : ∀ x y z : Int, x + y + (z - x) = z + y := fun _ _ _ => by omega
  rw [e, e, e, e]
theorem back_one {ps qs w c1 c2 : List Int} (hp : isNum ps = true) (hq : isNum qs = true) (hw : isNum w = true) (h1 : isNum c1 = true) (h2 : isNum c2 = true) : addL (mulL qs (addL (mulL w c1) c2)) (mulL (subL ps (mulL qs w)) c1) = addL (mulL ps c1) (mulL qs c2) := by
  rw [mul_addr hq (num_mul hw h1) h2, mul_subl hp (num_mul hq hw) h1, mul_asc hq hw h1, add_mix (num_mul hq (num_mul hw h1)) (num_mul hq h2) (num_mul hp h1)]
theorem back_step {p q : Row} (hp : RowN p) (hq : RowN q) (h0 : zeroB q.x = false) (h : Back p q) : Back q (stepW p q) := by
  obtain ⟨c1, c2, d1, d2, n1, n2, n3, n4, e1, e2, e3, e4⟩ := h.ex
  obtain ⟨hw, _, _⟩ := rem_lft hp.1 hq.1 h0
  refine ⟨⟨addL (mulL (quoLft p.x q.x) c1) c2, c1, addL (mulL (quoLft p.x q.x) d1) d2, d1, num_add (num_mul hw n1) n2, n1, num_add (num_mul hw n3) n4, n3, ?_, ?_, ?_, ?_⟩⟩
  · exact (back_one hp.2.1 hq.2.1 hw n1 n2).trans e1
  · exact (back_one hp.2.2 hq.2.2 hw n1 n2).trans e2
  · exact (back_one hp.2.1 hq.2.1 hw n3 n4).trans e3
  · exact (back_one hp.2.2 hq.2.2 hw n3 n4).trans e4
theorem back_zero (a b : List Int) : Back (oneR a) (twoR b) := ⟨⟨one4, zer4, zer4, one4, by decide, by decide, by decide, by decide, (by decide : addL (mulL one4 one4) (mulL zer4 zer4) = one4), (by decide : addL (mulL zer4 one4) (mulL one4 zer4) = zer4), (by decide : addL (mulL one4 zer4) (mulL zer4 one4) = zer4), (by decide : addL (mulL zer4 zer4) (mulL one4 one4) = one4)⟩⟩
theorem back_run {a b : List Int} {m : Nat} (ga : G 150 a) (gb : G 150 b) (h : Stops a b m) : ∀ k, k ≤ m → Back (euW k (oneR a) (twoR b)).1 (euW k (oneR a) (twoR b)).2 := by
  intro k
  induction k with
  | zero => exact fun _ => back_zero a b
  | succ k ih =>
    intro hk
    obtain ⟨R, _, _⟩ := run_ok ga gb h k (by omega)
    have z2 : zeroB (euW k (oneR a) (twoR b)).2.x = false := by rw [(euW_x k (oneR a) (twoR b)).2]; exact h.2 k (by omega)
    rw [euW_back]
    exact back_step R.n1 R.n2 z2 (ih (by omega))
theorem zer_add {x y : List Int} (hx : isNum x = true) (hy : isNum y = true) : addL (mulL x zer4) (mulL zer4 y) = zer4 ∧ mulL zer4 y = zer4 := by
  have e : mulL zer4 y = zer4 := by
    obtain ⟨a, b, c, d, rfl, _⟩ := num_cases hy
    simp [mulL, zer4]
  refine ⟨?_, e⟩
  rw [e, show mulL x zer4 = zer4 from mul_zeroR hx]
  decide
/-- what makes the 0 of the last row is not 0 -/
theorem last_s {a b : List Int} {m : Nat} (ga : G 150 a) (gb : G 150 b) (h : Stops a b m) (hb : zeroB b = false) : zeroB (euW m (oneR a) (twoR b)).2.s = false := by
  obtain ⟨R, _, _⟩ := run_ok ga gb h m (Nat.le_refl _)
  have x2 : zeroB (euW m (oneR a) (twoR b)).2.x = true := by rw [(euW_x m (oneR a) (twoR b)).2]; exact h.1
  obtain ⟨c1, c2, d1, d2, n1, n2, n3, n4, e1, e2, e3, e4⟩ := (back_run ga gb h m (Nat.le_refl _)).ex
  have N1 := R.n1
  have N2 := R.n2
  have S2 := R.s2
  generalize (euW m (oneR a) (twoR b)).1 = p at *
  generalize (euW m (oneR a) (twoR b)).2 = q at *
  cases hs : zeroB q.s with
  | false => rfl
  | true =>
    exfalso
    have es : q.s = zer4 := zero_is N2.2.1 hs
    have ex : q.x = zer4 := zero_is N2.1 x2
    have et : zeroB q.t = true := by
      cases ht : zeroB q.t with
      | true => rfl
      | false =>
        have nz := mul_nz gb.num N2.2.2 hb ht
        have S : q.x = addL (mulL a q.s) (mulL b q.t) := S2
        rw [ex, es, show mulL a zer4 = zer4 from mul_zeroR ga.num] at S
        have hm := num_mul gb.num N2.2.2
        have S' : zer4 = mulL b q.t := by
          rw [S]
          obtain ⟨x, y, z, t, e, _⟩ := num_cases hm
          rw [e]
          show [0 + x, 0 + y, 0 + z, 0 + t] = _
          simp
        rw [← S'] at nz
        exact absurd nz (by decide)
    have et' : q.t = zer4 := zero_is N2.2.2 et
    rw [es, (zer_add N1.2.1 n2).2] at e1
    rw [et', (zer_add N1.2.2 n2).2] at e2
    rw [et', (zer_add N1.2.2 n4).2] at e4
    have f1 : mulL p.s c1 = one4 := by rw [← e1]; exact (add_zeroR (num_mul N1.2.1 n1)).symm
    have f2 : mulL p.t c1 = zer4 := by rw [← e2]; exact (add_zeroR (num_mul N1.2.2 n1)).symm
    have f4 : mulL p.t d1 = one4 := by rw [← e4]; exact (add_zeroR (num_mul N1.2.2 n3)).symm
    have c0 : zeroB c1 = false := by
      cases hc : zeroB c1 with
      | false => rfl
      | true =>
        rw [zero_is n1 hc, show mulL p.s [0, 0, 0, 0] = zer4 from mul_zeroR N1.2.1] at f1
        exact absurd f1 (by decide)
    have t0 : zeroB p.t = true := by
      cases ht : zeroB p.t with
      | true => rfl
      | false =>
        have := mul_nz N1.2.2 n1 ht c0
        rw [f2] at this
        exact absurd this (by decide)
    rw [zero_is N1.2.2 t0, show mulL [0, 0, 0, 0] d1 = zer4 from (zer_add N1.2.2 n3).2] at f4
    exact absurd f4 (by decide)
noncomputable def rowsE (a b : List Int) : Row × Row := euW (stopN a b) (oneR a) (twoR b)
noncomputable def lsumL (a b : List Int) : D := .tuple ((rowsE a b).1.l.map fun y => ti (mulL y (conjL (behindL (rowsE a b).1.x))))
noncomputable def lmulL (a b : List Int) : D := ti (canonL (mulL a (rowsE a b).2.s))
/-- two numbers, none of them 0 -/
def RM (c q : Addr) (m : Nat) (g : List Int → List Int → D) : List D → Out → Prop := fun ds o => ∃ a b, ds = [ti a, ti b] ∧ a.length < 1000 ∧ b.length < 1000 ∧ Sm m a ∧ Sm m b ∧ o = if isNum a = true ∧ isNum b = true then (if zeroB a = true ∨ zeroB b = true then .x q else .v (g a b)) else .x c
/-- everything about a run -/
theorem rows_ok {a b : List Int} (ga : G 150 a) (gb : G 150 b) (h0 : ¬ (zeroB a = true ∧ zeroB b = true)) : ∃ m, Stops a b m ∧ m ≤ 304 ∧ rowsE a b = euW m (oneR a) (twoR b) ∧ Run a b m ∧ G 153 (rowsE a b).1.x ∧ zeroB (rowsE a b).1.x = false ∧ zeroB (rowsE a b).2.x = true ∧ LGcd a b (rowsE a b).1.x := by
  have h : zeroB a = false ∨ zeroB b = false := by
    cases h1 : zeroB a with
    | false => exact .inl rfl
    | true =>
      cases h2 : zeroB b with
      | false => exact .inr rfl
      | true => exact absurd ⟨h1, h2⟩ h0
  have nb := norm_nn gb.num
  obtain ⟨m, m1, m2, m3, m4, m5⟩ := eu_stop (normL b).toNat a b ga.num gb.num (by omega) h
  have st : Stops a b m := ⟨m1, m2⟩
  obtain ⟨R, e1, e2⟩ := run_ok ga gb st m (Nat.le_refl _)
  have er : rowsE a b = euW m (oneR a) (twoR b) := by unfold rowsE; rw [stop_eq st]
  have x1 : (rowsE a b).1.x = (euL m a b).1 := by rw [er]; exact (euW_x m (oneR a) (twoR b)).1
  have x2 : (rowsE a b).2.x = (euL m a b).2 := by rw [er]; exact (euW_x m (oneR a) (twoR b)).2
  exact ⟨m, st, stop_le ga.num gb.num st (G_norm gb), er, R, by rw [x1]; exact e1, by rw [x1]; exact m3, by rw [x2]; exact m1, by rw [x1]; exact m5⟩
end TB

namespace TB
open PySem L2 PySem.Spec PyProof.Rows
/-! ### the common divisor of a list -/
noncomputable def cmF (f x : List Int) : List Int := if zeroB x = true then f else lgcd f x
noncomputable def cmK (xs : List (List Int)) (k : Nat) : List Int := (xs.take k).foldl cmF zer4
theorem cmK_succ {xs : List (List Int)} {k : Nat} (h : k < xs.length) : cmK xs (k + 1) = cmF (cmK xs k) (xs.getD k []) := by
  unfold cmK
  rw [List.take_succ, List.foldl_append, List.getElem?_eq_getElem h, List.getD_eq_getElem?_getD, List.getElem?_eq_getElem h]
  rfl
theorem cmF_ok {f x : List Int} {m : Nat} (gf : G m f) (gx : G 150 x) (hm : 150 ≤ m) : G (m + 30) (cmF f x) ∧ (zeroB (cmF f x) = true ↔ zeroB f = true ∧ zeroB x = true) := by
  unfold cmF
  cases hz : zeroB x with
  | true => exact ⟨by rw [if_pos rfl]; exact ⟨gf.num, gf.sm.mono (by omega)⟩, by rw [if_pos rfl]; simp⟩
  | false =>
    rw [if_neg Bool.false_ne_true]
    have h0 : ¬ (zeroB f = true ∧ zeroB x = true) := by rw [hz]; exact fun h => Bool.noConfusion h.2
    have sp := lgcd_spec gf.num gx.num h0
    refine ⟨lgcd_G gf ⟨gx.num, gx.sm.mono hm⟩ h0, ?_⟩
    rw [sp.2.1]
    simp
theorem cmK_ok {xs : List (List Int)} (hx : ∀ x ∈ xs, G 150 x) : ∀ k, k ≤ xs.length → G (150 + 30 * k) (cmK xs k) ∧ (zeroB (cmK xs k) = true ↔ ∀ j, j < k → zeroB (xs.getD j []) = true)
  | 0, _ => ⟨⟨(by decide : isNum zer4 = true), fun y hy => (show Bt 2 y from (by decide : ∀ y ∈ ([0, 0, 0, 0] : List Int), y.natAbs < 2 ^ 2) y hy).mono (by decide)⟩, ⟨fun _ j hj => absurd hj (Nat.not_lt_zero _), fun _ => (by decide : zeroB zer4 = true)⟩⟩
  | k + 1, h => by
    obtain ⟨g, e⟩ := cmK_ok hx k (by omega)
    obtain ⟨g2, e2⟩ := cmF_ok g (hx _ (getD_mem (show k < xs.length by omega))) (by omega)
    rw [cmK_succ (by omega)]
    refine ⟨⟨g2.num, g2.sm.mono (by omega)⟩, e2.trans ⟨fun ⟨h1, h2⟩ j hj => ?_, fun h => ⟨e.mpr fun j hj => h j (by omega), h k (by omega)⟩⟩⟩
    by_cases q : j = k
    · subst q; exact h2
    · exact e.mp h1 j (by omega)
def R_co (c q : Addr) : List D → Out → Prop := fun ds o => ∃ xs : List (List Int), ds = [.list (xs.map ti)] ∧ xs.length ≤ 10 ∧ (∀ x ∈ xs, x.length < 1000 ∧ Sm 150 x) ∧ o = if xs.all isNum = true then (if zeroB (cmK xs xs.length) = true then .x q else .v (ti (cmK xs xs.length))) else .x c
/-! ### whatever is returned or raised -/
def soOf (Γ : List S) : Out → SO
  | .v x => .rt x
  | .o ds => .rto ds
  | .x c => .x c Γ
  | .q t => .rtq t
  | .xf c f x => .xf c f x Γ
theorem js_retAny {X : Cx} {W : WX} {F0 H0 : Hp} {Γ : List S} {e : Expr} {o : Out} {pos : Pos} (h : JE X W F0 H0 Γ e o) : JS X W F0 H0 Γ (.Return (some e) pos) (soOf Γ o) := by
  cases o with
  | v x => exact js_ret h
  | o ds => exact js_retO h
  | x c => exact js_retX h
  | q t => exact js_retQ h
  | xf c f x => exact js_retXf h
theorem soOf_stop (Γ : List S) (o : Out) : (soOf Γ o).stop := by cases o <;> trivial
theorem soOf_fits (Γ : List S) (o : Out) : Fits o (soOf Γ o) := by cases o <;> first | rfl | exact ⟨rfl, rfl, rfl⟩
theorem kit_self {K : PySem.W.Frag} {c : Addr} : PySem.W.kitOne K (.ref c) (.ref c) = some true := by
  unfold PySem.W.kitOne
  rw [if_pos (by simp)]
/-! ### the calls of the law on errors -/
def twoO (c q : Addr) (a b : List Int) (z : Bool) (r : D) : Out := if isNum a = true ∧ isNum b = true then (if z = true then .x q else .v r) else .x c
def qz (k : Nat) (a b : List Int) : Bool := (decide (k < 6) && zeroB b) || ((decide (5 < k) && (zeroB a && zeroB b)) || (decide (k = 10) && (zeroB a || zeroB b)))
noncomputable def valC (k : Nat) (a b : List Int) : D :=
  match k with
  | 0 => .tuple [ti (quoLft a b), ti (remLft a b)]
  | 1 => .tuple [ti (quoRgt a b), ti (remRgt a b)]
  | 2 => if zeroB (remLft a b) = true then ti (quoLft a b) else .none
  | 3 => if zeroB (remRgt a b) = true then ti (quoRgt a b) else .none
  | 4 => .bool (zeroB (remLft a b))
  | 5 => .bool (zeroB (remRgt a b))
  | 6 => ti (lgcd a b)
  | 7 => lsumL a b
  | 8 => ti (canonA (conjL (lgcd (conjL a) (conjL b))))
  | 9 => ti (cmK [a, b] 2)
  | _ => lmulL a b
def R_law_call (c q : Addr) : List D → Out → Prop := fun ds o => ∃ (k : Nat) (a b : List Int), ds = [.int (k : Int), ti a, ti b] ∧ k < 11 ∧ a.length < 1000 ∧ b.length < 1000 ∧ Sm 100 a ∧ Sm 100 b ∧ o = twoO c q a b (qz k a b) (valC k a b)
theorem two_lt {c q : Addr} {a b : List Int} {k : Nat} {r : D} (h : k < 6) : twoO c q a b (qz k a b) r = if isNum a = true ∧ isNum b = true then (if zeroB b = true then .x q else .v r) else .x c := by
  have e : qz k a b = zeroB b := by
    unfold qz
    rw [decide_eq_true h, decide_eq_false (show ¬ 5 < k by omega), decide_eq_false (show ¬ k = 10 by omega)]
    cases zeroB b <;> rfl
  unfold twoO
  rw [e]
theorem two_pair {c q : Addr} {a b : List Int} {k : Nat} {r : D} (h : 5 < k) (h2 : k ≠ 10) : twoO c q a b (qz k a b) r = if isNum a = true ∧ isNum b = true then (if zeroB a = true ∧ zeroB b = true then .x q else .v r) else .x c := by
  have e : qz k a b = (zeroB a && zeroB b) := by
    unfold qz
    rw [decide_eq_true h, decide_eq_false (show ¬ k < 6 by omega), decide_eq_false h2]
    cases zeroB a <;> cases zeroB b <;> rfl
  unfold twoO
  rw [e]
  cases zeroB a <;> cases zeroB b <;> rfl
theorem two_ten {c q : Addr} {a b : List Int} {r : D} : twoO c q a b (qz 10 a b) r = if isNum a = true ∧ isNum b = true then (if zeroB a = true ∨ zeroB b = true then .x q else .v r) else .x c := by
  unfold twoO qz
  cases zeroB a <;> cases zeroB b <;> rfl
theorem two_co {c q : Addr} {a b : List Int} (ha : a.length < 1000) (hb : b.length < 1000) (sa : Sm 150 a) (sb : Sm 150 b) : twoO c q a b (qz 9 a b) (ti (cmK [a, b] 2)) = if ([a, b] : List (List Int)).all isNum = true then (if zeroB (cmK [a, b] 2) = true then .x q else .v (ti (cmK [a, b] 2))) else .x c := by
  rw [two_pair (by decide) (by decide)]
  by_cases hn : isNum a = true ∧ isNum b = true
  · have hal : ([a, b] : List (List Int)).all isNum = true := by simp [hn.1, hn.2]
    rw [if_pos hn, if_pos hal]
    have hG : ∀ x ∈ ([a, b] : List (List Int)), G 150 x := fun x hx => by
      have : x = a ∨ x = b := by simpa using hx
      rcases this with rfl | rfl
      · exact ⟨hn.1, sa⟩
      · exact ⟨hn.2, sb⟩
    have e := (cmK_ok hG 2 (Nat.le_refl _)).2
    by_cases hz : zeroB a = true ∧ zeroB b = true
    · rw [if_pos hz, if_pos (e.mpr fun j hj => ?_)]
      match j, hj with
      | 0, _ => exact hz.1
      | 1, _ => exact hz.2
    · rw [if_neg hz, if_neg fun h => hz ⟨e.mp h 0 (by decide), e.mp h 1 (by decide)⟩]
  · have hal : ¬ ([a, b] : List (List Int)).all isNum = true := fun h => hn (by simpa using h)
    rw [if_neg hn, if_neg hal]
def toldU (k : Nat) (a b : List Int) : Str := if isNum a = true ∧ isNum b = true then (if qz k a b = true then "question" else "told") else "number"
def R_law_told17 : List D → Out → Prop := fun ds o => ∃ (k : Nat) (a b : List Int), ds = [.int (k : Int), ti a, ti b] ∧ k < 11 ∧ a.length < 1000 ∧ b.length < 1000 ∧ Sm 100 a ∧ Sm 100 b ∧ o = .v (.str (toldU k a b))
def strangeL : List (List Int) := [[1, 2, 3, 4], [2, 2, 2], [1, 1, 1, 1, 1], [1, 0, 0, 0], []]
theorem strange_ok {j : Nat} (h : j < 5) : isNum (strangeL.getD j []) = false ∧ (strangeL.getD j []).length < 1000 ∧ Sm 100 (strangeL.getD j []) := by
  have k : ∀ j : Fin 5, isNum (strangeL.getD j.val []) = false ∧ (strangeL.getD j.val []).length < 1000 ∧ ∀ y ∈ strangeL.getD j.val [], y.natAbs < 2 ^ 3 := by decide
  obtain ⟨h1, h2, h3⟩ := k ⟨j, h⟩
  exact ⟨h1, h2, fun y hy => (show Bt 3 y from h3 y hy).mono (by decide)⟩
def pickF (f : Int) (st x : List Int) : List Int := if f = 1 then st else x
def pickL (f : Int) (st x : List Int) : List Int := if f = 2 then [0, 0, 0, 0] else pickF f st x
structure Pick (f : Int) (x : List Int) : Prop where
  len : x.length < 1000
  sm : Sm 100 x
  num : isNum x = !decide (f = 1)
  zer : f ≠ 1 → zeroB x = decide (f = 2)
theorem pick_ok {f : Int} {j : Nat} {x : List Int} (hj : j < 5) (gx : G 60 x) (zx : zeroB x = false) : Pick f (pickL f (strangeL.getD j []) x) := by
  obtain ⟨h1, h2, h3⟩ := strange_ok hj
  unfold pickL pickF
  by_cases f2 : f = 2
  · subst f2
    rw [if_pos rfl]
    exact ⟨by decide, fun y hy => (show Bt 2 y from (by decide : ∀ y ∈ ([0, 0, 0, 0] : List Int), y.natAbs < 2 ^ 2) y hy).mono (by decide), by decide, fun _ => by decide⟩
  · rw [if_neg f2]
    by_cases f1 : f = 1
    · rw [if_pos f1]
      exact ⟨h2, h3, by rw [h1, decide_eq_true f1]; rfl, fun h => absurd f1 h⟩
    · rw [if_neg f1]
      exact ⟨num_len1000 gx.num, gx.sm.mono (by decide), by rw [gx.num, decide_eq_false f1]; rfl, fun _ => by rw [zx, decide_eq_false f2]⟩
def qB (k : Nat) (f s : Int) : Bool := (decide ((k : Int) < 6) && decide (s = 2)) || ((decide ((5 : Int) < k) && (decide (f = 2) && decide (s = 2))) || (decide ((k : Int) = 10) && (decide (f = 2) || decide (s = 2))))
def dueQ (k : Nat) (f s : Int) : Str := if qB k f s = true then "question" else "told"
def dueN (k : Nat) (f s : Int) : Str := if (decide (f = 1) || decide (s = 1)) = true then "number" else dueQ k f s
theorem due_told {k : Nat} {f s : Int} {a b : List Int} (pa : Pick f a) (pb : Pick s b) : toldU k a b = dueN k f s := by
  unfold toldU dueN dueQ
  rw [pa.num, pb.num]
  by_cases f1 : f = 1
  · simp [f1]
  · by_cases s1 : s = 1
    · simp [s1]
    · have e : qz k a b = qB k f s := by
        unfold qz qB
        rw [pa.zer f1, pb.zer s1]
        have e1 : decide (k < 6) = decide ((k : Int) < 6) := by congr 1; exact propext ⟨fun h => by omega, fun h => by omega⟩
        have e2 : decide (5 < k) = decide ((5 : Int) < k) := by congr 1; exact propext ⟨fun h => by omega, fun h => by omega⟩
        have e3 : decide (k = 10) = decide ((k : Int) = 10) := by congr 1; exact propext ⟨fun h => by omega, fun h => by omega⟩
        rw [e1, e2, e3]
      rw [e]
      simp [f1, s1]
theorem sh_told : SeqAt.shaped (.str "told") = true := by decide +kernel
theorem sh_dueN (k : Nat) (f s : Int) : SeqAt.shaped (.str (dueN k f s)) = true := by
  unfold dueN
  split
  · exact sh_num
  · unfold dueQ
    split
    · exact sh_q
    · exact sh_told
end TB

namespace TB
open PySem L2 PySem.Spec PyProof.Rows
/-! ### isinstance(a tuple, tuple) -/
def rIsiU (K : PySem.W.Frag) : List V → Hp → VK → Prop := fun xs H Q => ∃ (a : Addr) (ys : List V), xs = [.ref a, .ty "tuple"] ∧ SqT K H a ys ∧ Q (.bl true) H
theorem kit_same {K : PySem.W.Frag} {c : Value} (h : (c == c) = true) : PySem.W.kitOne K c c = some true := by
  unfold PySem.W.kitOne
  rw [if_pos h]
theorem call_isiU {X : Cx} : CallR X (.builtin "isinstance") (rIsiU X.K) := by
  intro pins s σ H xs us Q I r h
  obtain ⟨a, ys, rfl, sq, q⟩ := h
  obtain ⟨u1, u2, rfl, r1, r2⟩ := Vals.two r
  cases (show u1 = Value.ref a from r1)
  have e2 : u2 = Value.type "tuple" := r2
  subst e2
  obtain ⟨us, rx, ⟨o, h1, h2, _⟩, _⟩ := I.tuple sq
  exact PySem.W.kia_one PySem.W.kitx_tuple I.kIn ⟨o, h1, h2⟩ (kit_same rfl) (fun z => nomatch z) fun tk => ⟨.bl true, H, I.tok tk, rfl, q⟩
section
variable {X : Cx} {W : WX} {F0 H0 : Hp} {Γ : List S} {a b e : Expr} {ds : List D} {pos np np2 : Pos} {n : Str}
theorem je_isTup (hm : X.mg "isinstance" = none) (hm2 : X.mg "tuple" = none) (ha : JE X W F0 H0 Γ a (.v (.tuple ds))) (hg : Gl X "isinstance" := by rfl) (hg2 : Gl X "tuple" := by rfl)
    (s2 : starEach [a, .Name "tuple" np2] X.env = (false, eval a X.env) :: starEach [.Name "tuple" np2] X.env := by rfl) (s1 : starEach [.Name "tuple" np2] X.env = (false, eval (.Name "tuple" np2) X.env) :: starEach [] X.env := by rfl) (hpl : (backTo pos (starEach [.Name "tuple" np2] X.env)).any (·.1) = false := by rfl) :
    JE X W F0 H0 Γ (.Call (.Name "isinstance" np) [a, .Name "tuple" np2] [] pos) (.v (.bool true)) :=
  pe_imp (pe_callB call_isiU hg hm (by decide +kernel) (pa_cons ha (pa_cons (pe_bltn (v := .ty "tuple") hg2 hm2 (by decide +kernel) rfl (by decide) (by decide)) pa_nil s1) s2) (by decide) (by decide) s2 hpl) fun σ H Q ⟨F, ok, q⟩ => ⟨F, ok, fun v F1 H1 z1 d1 => by
    cases d1 with
    | tup g1 g2 => exact ⟨_, _, rfl, st_ex z1.s g1, q _ F1 H1 z1 (.bl true)⟩⟩
end
end TB

namespace TB
open PySem L2 PySem.Spec PyProof.Rows
/-! ### tuples and lists mixed -/
def R2S (g : List Int → List Int → D) : List D → Out → Prop := fun ds o => ∃ (d e : D) (ns ms : List Int), ds = [d, e] ∧ Seq d ns ∧ Seq e ms ∧ G 400000 ns ∧ G 400000 ms ∧ o = .v (g ns ms)
def R2SL (g : List Int → List Int → D) : List D → Out → Prop := fun ds o => ∃ (d : D) (ns ms : List Int), ds = [d, ti ms] ∧ Seq d ns ∧ G 400000 ns ∧ G 400000 ms ∧ o = .v (g ns ms)
def RD2S : List D → Out → Prop := fun ds o => ∃ (d e : D) (a b : List Int), ds = [d, e] ∧ Seq d a ∧ Seq e b ∧ G 3000 a ∧ G 3000 b ∧ zeroB b = false ∧ o = .v (.tuple [ti (quoLft a b), ti (remLft a b)])
def RPS : List D → Out → Prop := fun ds o => ∃ (a b : List Int), ds = [ti a, li b] ∧ G 1000 a ∧ G 1000 b ∧ ¬ (zeroB a = true ∧ zeroB b = true) ∧ o = .v (ti (lgcd a b))
theorem G.up {m n : Nat} {x : List Int} (g : G m x) (h : m ≤ n) : G n x := ⟨g.num, g.sm.mono h⟩
/-- one of the two numbers at step k: the list is the second one -/
def seqK (k : Nat) (x : List Int) : D := if k = 1 then li x else ti x
theorem seqK_seq (k : Nat) (x : List Int) : Seq (seqK k x) x := by
  unfold seqK
  split
  · exact .inr rfl
  · exact .inl rfl
theorem seqK_ti {k : Nat} {x : List Int} : seqK (k + 2) x = ti x := if_neg (by omega)
/-! ### the law's own tests -/
def R_law_sum : List D → Out → Prop := fun ds o => ∃ ns ms : List Int, ds = [ti ns, ti ms] ∧ ns.length = 4 ∧ ms.length = 4 ∧ o = .v (ti (addL ns ms))
def R_ib : List D → Out → Prop := fun ds o => ∃ d q : List Int, ds = [ti d, ti (mulL d q)] ∧ G 1000 d ∧ zeroB d = false ∧ G 1000 q ∧ o = .v (.bool true)
theorem conj_back {d q : List Int} (hd : isNum d = true) (hq : isNum q = true) : mulL (conjL d) (mulL d q) = timesL (normL d) q := by
  rw [← mul_asc (num_conj hd) hd hq, (mul_conj hd).2]
  exact (mul_int (normL d) hq).1
theorem times_mem {m : Int} {q : List Int} {d : D} (h : d ∈ (timesL m q).map PyData.int) : ∃ z ∈ q, d = .int (z * m) := by
  obtain ⟨y, hy, rfl⟩ := List.mem_map.mp h
  obtain ⟨z, hz, rfl⟩ := List.mem_map.mp (show y ∈ q.map _ from hy)
  exact ⟨z, hz, rfl⟩
theorem num_par {q : List Int} (h : isNum q = true) : ∀ y ∈ q, y % 2 = q.getD 0 0 % 2 := by
  obtain ⟨a, b, c, d, rfl, k⟩ := num_cases h
  obtain ⟨k1, k2, k3⟩ := k
  intro y hy
  have : y = a ∨ y = b ∨ y = c ∨ y = d := by simpa using hy
  show y % 2 = a % 2
  rcases this with rfl | rfl | rfl | rfl <;> omega
theorem lgcd_symm {a b : List Int} (ha : isNum a = true) (hb : isNum b = true) (h0 : ¬ (zeroB a = true ∧ zeroB b = true)) : lgcd b a = lgcd a b := by
  have s := lgcd_spec ha hb h0
  have e := lgcd_eq (s.symm ha hb)
  rw [← e]
  exact lgcd_canon ha hb h0
/-- what left_sum tells -/
theorem lsum_ok {a b : List Int} (ga : G 150 a) (gb : G 150 b) (h0 : ¬ (zeroB a = true ∧ zeroB b = true)) : ∃ s t, lsumL a b = .tuple [ti (lgcd a b), ti s, ti t] ∧ G 101000 s ∧ G 101000 t ∧ addL (mulL a s) (mulL b t) = lgcd a b := by
  obtain ⟨m, st, hm, er, R, x1, z1, _, lg⟩ := rows_ok ga gb h0
  have N1 := R.n1
  have S1 := R.s1
  have g1 := R.g1
  unfold lsumL
  rw [← er] at N1 S1 g1
  generalize (rowsE a b).1 = r at *
  have hu := behind_u r.x
  have gu := (G.behind r.x).conj
  have eu : conjL (behindL r.x) = leadU r.x := conj_conj (u_num (lead_ok r.x).1)
  have eg : mulL r.x (conjL (behindL r.x)) = lgcd a b := by rw [eu, (lead_ok r.x).2]; exact lgcd_eq lg
  refine ⟨mulL r.s (conjL (behindL r.x)), mulL r.t (conjL (behindL r.x)), ?_, ?_, ?_, ?_⟩
  · rw [← eg]; rfl
  · exact ((g1 r.s (by simp [Row.l])).mul gu).up (by omega)
  · exact ((g1 r.t (by simp [Row.l])).mul gu).up (by omega)
  · rw [← mul_asc ga.num N1.2.1 gu.num, ← mul_asc gb.num N1.2.2 gu.num, ← mul_addl (num_mul ga.num N1.2.1) (num_mul gb.num N1.2.2) gu.num, ← show r.x = _ from S1, eg]
theorem quo_G {d q : List Int} {m : Nat} (hd : isNum d = true) (h0 : zeroB d = false) (hq : isNum q = true) (g : G m (mulL d q)) : G (m + 3) q := by
  have n := G_norm g
  rw [norm_mul hd hq] at n
  have p := norm_pos hd h0
  have nq := norm_nn hq
  have l : 1 * normL q ≤ normL d * normL q := Int.mul_le_mul_of_nonneg_right (by omega) nq
  exact norm_G hq (n := m + 2) (by omega)
end TB

namespace TB
open PySem L2 PySem.Spec PyProof.Rows
/-! ### the inner product of two numbers -/
def dotL (x y : List Int) : Int := (mulL (conjL x) y).getD 0 0
theorem dot2 {x y : List Int} {a b c d e f g h : Int} (hx : x = [a, b, c, d]) (hy : y = [e, f, g, h]) (k : Par a b c d) (l : Par e f g h) : 2 * dotL x y = a * e + b * f + c * g + d * h := by
  subst hx hy
  have k' : Par a (-b) (-c) (-d) := by
    obtain ⟨k1, k2, k3⟩ := k
    refine ⟨?_, ?_, ?_⟩ <;> omega
  obtain ⟨p, q, r, s, ⟨h1, _, _, _⟩, _, e1⟩ := mul_pr k' l
  have e2 : dotL [a, b, c, d] [e, f, g, h] = p := by
    show (mulL [a, -b, -c, -d] [e, f, g, h]).getD 0 0 = p
    rw [e1]
    rfl
  rw [e2, h1]
  grind
theorem dot_symm {x y : List Int} (hx : isNum x = true) (hy : isNum y = true) : dotL x y = dotL y x := by
  obtain ⟨a, b, c, d, ex, k⟩ := num_cases hx
  obtain ⟨e, f, g, h, ey, l⟩ := num_cases hy
  have h1 := dot2 ex ey k l
  have h2 := dot2 ey ex l k
  have : 2 * dotL x y = 2 * dotL y x := by rw [h1, h2]; grind
  omega
theorem par_conj {a b c d : Int} (k : Par a b c d) : Par a (-b) (-c) (-d) := by
  obtain ⟨k1, k2, k3⟩ := k
  refine ⟨?_, ?_, ?_⟩ <;> omega
theorem dot_conj {x y : List Int} (hx : isNum x = true) (hy : isNum y = true) : dotL (conjL x) (conjL y) = dotL x y := by
  obtain ⟨a, b, c, d, ex, k⟩ := num_cases hx
  obtain ⟨e, f, g, h, ey, l⟩ := num_cases hy
  have h1 := dot2 ex ey k l
  have h2 := dot2 (x := conjL x) (y := conjL y) (by rw [ex]; rfl) (by rw [ey]; rfl) (par_conj k) (par_conj l)
  have : 2 * dotL (conjL x) (conjL y) = 2 * dotL x y := by rw [h1, h2]; grind
  omega
theorem dot_self {x : List Int} (hx : isNum x = true) : dotL x x = 2 * normL x := by
  obtain ⟨a, b, c, d, ex, k⟩ := num_cases hx
  have h1 := dot2 ex ex k k
  have h2 := norm_pr k
  rw [← ex] at h2
  omega
theorem norm_sub {x y : List Int} (hx : isNum x = true) (hy : isNum y = true) : normL (subL x y) = normL x + normL y - dotL x y := by
  obtain ⟨a, b, c, d, ex, k⟩ := num_cases hx
  obtain ⟨e, f, g, h, ey, l⟩ := num_cases hy
  have h1 := dot2 ex ey k l
  have n1 := norm_pr k
  have n2 := norm_pr l
  have hs := num_sub hx hy
  have es : subL x y = [a - e, b - f, c - g, d - h] := by rw [ex, ey]; rfl
  rw [es] at hs ⊢
  have n3 := norm_pr ((isNum4 _ _ _ _).mp hs)
  rw [← ex] at n1
  rw [← ey] at n2
  have : 4 * normL [a - e, b - f, c - g, d - h] = 4 * (normL x + normL y - dotL x y) := by
    rw [n3]
    grind
  omega
theorem dot_bil {A C w : List Int} {m n : Int} (hA : isNum A = true) (hC : isNum C = true) (hw : isNum w = true) : dotL (subL A (timesL m w)) (subL C (timesL n w)) = dotL A C - n * dotL A w - m * dotL w C + m * n * (2 * normL w) := by
  rw [← dot_self hw]
  have h1 := num_sub hA (num_times m hw)
  have h2 := num_sub hC (num_times n hw)
  obtain ⟨a, b, c, d, ex, k⟩ := num_cases hA
  obtain ⟨e, f, g, h, ey, l⟩ := num_cases hC
  obtain ⟨p, q, r, s, ew, o⟩ := num_cases hw
  have d1 := dot2 ex ey k l
  have d2 := dot2 ex ew k o
  have d3 := dot2 ew ey o l
  have d4 := dot2 ew ew o o
  have e1 : subL A (timesL m w) = [a - p * m, b - q * m, c - r * m, d - s * m] := by rw [ex, ew]; rfl
  have e2 : subL C (timesL n w) = [e - p * n, f - q * n, g - r * n, h - s * n] := by rw [ey, ew]; rfl
  have d5 := dot2 e1 e2 ((isNum4 _ _ _ _).mp (by rw [← e1]; exact h1)) ((isNum4 _ _ _ _).mp (by rw [← e2]; exact h2))
  have : 2 * dotL (subL A (timesL m w)) (subL C (timesL n w)) = 2 * (dotL A C - n * dotL A w - m * dotL w C + m * n * dotL w w) := by
    have t : 2 * (dotL A C - n * dotL A w - m * dotL w C + m * n * dotL w w) = 2 * dotL A C - n * (2 * dotL A w) - m * (2 * dotL w C) + m * n * (2 * dotL w w) := by grind
    rw [t, d1, d2, d3, d4, d5]
    grind
  omega
/-! ### the norm of a matrix: it stays in a step -/
def ndet (x s y r : List Int) : Int := normL x * normL r + normL y * normL s - dotL (mulL (conjL y) x) (mulL (conjL r) s)
theorem ndet_step {x s y r w : List Int} (hx : isNum x = true) (hs : isNum s = true) (hy : isNum y = true) (hr : isNum r = true) (hw : isNum w = true) : ndet y r (subL x (mulL y w)) (subL s (mulL r w)) = ndet x s y r := by
  have hA := num_mul (num_conj hy) hx
  have hC := num_mul (num_conj hr) hs
  have eA : mulL (conjL y) (subL x (mulL y w)) = subL (mulL (conjL y) x) (timesL (normL y) w) := by rw [mul_subr (num_conj hy) hx (num_mul hy hw), conj_back hy hw]
  have eC : mulL (conjL r) (subL s (mulL r w)) = subL (mulL (conjL r) s) (timesL (normL r) w) := by rw [mul_subr (num_conj hr) hs (num_mul hr hw), conj_back hr hw]
  have hx' := num_sub hx (num_mul hy hw)
  have hs' := num_sub hs (num_mul hr hw)
  have c1 : mulL (conjL (subL x (mulL y w))) y = conjL (mulL (conjL y) (subL x (mulL y w))) := by rw [conj_mul (num_conj hy) hx', conj_conj hy]
  have c2 : mulL (conjL (subL s (mulL r w))) r = conjL (mulL (conjL r) (subL s (mulL r w))) := by rw [conj_mul (num_conj hr) hs', conj_conj hr]
  have q1 : dotL x (mulL y w) = dotL (mulL (conjL y) x) w := by
    unfold dotL
    rw [conj_mul (num_conj hy) hx, conj_conj hy, mul_asc (num_conj hx) hy hw]
  have q2 : dotL s (mulL r w) = dotL (mulL (conjL r) s) w := by
    unfold dotL
    rw [conj_mul (num_conj hr) hs, conj_conj hr, mul_asc (num_conj hs) hr hw]
  unfold ndet
  rw [c1, c2, dot_conj (num_mul (num_conj hy) hx') (num_mul (num_conj hr) hs'), eA, eC, dot_bil hA hC hw, norm_sub hx (num_mul hy hw), norm_sub hs (num_mul hr hw), q1, q2, norm_mul hy hw, norm_mul hr hw, dot_symm hw hC]
  grind
theorem zer_mul {y : List Int} (hy : isNum y = true) : mulL zer4 y = zer4 := (zer_add hy hy).2
theorem dot_zero (y : List Int) (hy : isNum y = true) : dotL y zer4 = 0 := by
  unfold dotL
  rw [show mulL (conjL y) zer4 = zer4 from mul_zeroR (num_conj hy)]
  rfl
theorem ndet_run {a b : List Int} {m : Nat} (ga : G 150 a) (gb : G 150 b) (h : Stops a b m) : ∀ k, k ≤ m → ndet (euW k (oneR a) (twoR b)).1.x (euW k (oneR a) (twoR b)).1.s (euW k (oneR a) (twoR b)).2.x (euW k (oneR a) (twoR b)).2.s = normL b := by
  intro k
  induction k with
  | zero =>
    intro _
    show normL a * normL [0, 0, 0, 0] + normL b * normL [2, 0, 0, 0] - dotL (mulL (conjL b) a) (mulL (conjL [0, 0, 0, 0]) [2, 0, 0, 0]) = normL b
    rw [show mulL (conjL [0, 0, 0, 0]) [2, 0, 0, 0] = zer4 by decide, dot_zero _ (num_mul (num_conj gb.num) ga.num), show normL [0, 0, 0, 0] = 0 by decide, show normL [2, 0, 0, 0] = 1 by decide]
    omega
  | succ k ih =>
    intro hk
    obtain ⟨R, _, _⟩ := run_ok ga gb h k (by omega)
    have z2 : zeroB (euW k (oneR a) (twoR b)).2.x = false := by rw [(euW_x k (oneR a) (twoR b)).2]; exact h.2 k (by omega)
    rw [euW_back, ← ih (by omega)]
    obtain ⟨hw, _, _⟩ := rem_lft R.n1.1 R.n2.1 z2
    exact ndet_step R.n1.1 R.n1.2.1 R.n2.1 R.n2.2.1 hw
/-- the norms at the end -/
theorem norm_end {a b : List Int} {m : Nat} (ga : G 150 a) (gb : G 150 b) (h : Stops a b m) : normL (euW m (oneR a) (twoR b)).1.x * normL (euW m (oneR a) (twoR b)).2.s = normL b := by
  have e := ndet_run ga gb h m (Nat.le_refl _)
  obtain ⟨R, _, _⟩ := run_ok ga gb h m (Nat.le_refl _)
  have x2 : zeroB (euW m (oneR a) (twoR b)).2.x = true := by rw [(euW_x m (oneR a) (twoR b)).2]; exact h.1
  have ex : (euW m (oneR a) (twoR b)).2.x = zer4 := zero_is R.n2.1 x2
  rw [← e]
  unfold ndet
  have n1 := R.n1
  have n2 := R.n2
  rw [ex, show conjL zer4 = zer4 from rfl, zer_mul n1.1, dot_symm (by decide) (num_mul (num_conj n2.2.1) n1.2.1), dot_zero _ (num_mul (num_conj n2.2.1) n1.2.1), show normL zer4 = 0 by decide]
  omega
end TB

namespace TB
open PySem L2 PySem.Spec PyProof.Rows
/-! ### the least multiple -/
theorem add_swap {p q r s : List Int} (hp : isNum p = true) (hq : isNum q = true) (hr : isNum r = true) (hs : isNum s = true) : addL (addL p q) (addL r s) = addL (addL p r) (addL q s) := by
  obtain ⟨p1, p2, p3, p4, rfl, _⟩ := num_cases hp
  obtain ⟨q1, q2, q3, q4, rfl, _⟩ := num_cases hq
  obtain ⟨r1, r2, r3, r4, rfl, _⟩ := num_cases hr
  obtain ⟨s1, s2, s3, s4, rfl, _⟩ := num_cases hs
  show [p1 + q1 + (r1 + s1), p2 + q2 + (r2 + s2), p3 + q3 + (r3 + s3), p4 + q4 + (r4 + s4)] = [p1 + r1 + (q1 + s1), p2 + r2 + (q2 + s2), p3 + r3 + (q3 + s3), p4 + r4 + (q4 + s4)]
  have e : ∀ x y z w : Int, x + y + (z + w) = x + z + (y + w) := fun _ _ _ _ => by omega
  rw [e p1 q1 r1 s1, e p2 q2 r2 s2, e p3 q3 r3 s3, e p4 q4 r4 s4]
theorem sub_zer {x : List Int} (hx : isNum x = true) : subL x zer4 = x := by
  obtain ⟨a, b, c, d, rfl, _⟩ := num_cases hx
  show [a - 0, b - 0, c - 0, d - 0] = _
  simp
theorem zer_addL {x : List Int} (hx : isNum x = true) : addL zer4 x = x := by
  obtain ⟨a, b, c, d, rfl, _⟩ := num_cases hx
  show [0 + a, 0 + b, 0 + c, 0 + d] = _
  simp
theorem add_neg0 {x : List Int} (hx : isNum x = true) : addL x (subL zer4 x) = zer4 := by
  obtain ⟨a, b, c, d, rfl, _⟩ := num_cases hx
  show [a + (0 - a), b + (0 - b), c + (0 - c), d + (0 - d)] = _
  have e : ∀ x : Int, x + (0 - x) = 0 := fun _ => by omega
  rw [e, e, e, e]
  rfl
theorem neg_of_add {x y : List Int} (hx : isNum x = true) (hy : isNum y = true) (h : zer4 = addL x y) : x = subL zer4 y := by
  obtain ⟨a, b, c, d, rfl, _⟩ := num_cases hx
  obtain ⟨e, f, g, i, rfl, _⟩ := num_cases hy
  have h' : [0, 0, 0, 0] = [a + e, b + f, c + g, d + i] := h
  simp only [List.cons.injEq, and_true] at h'
  obtain ⟨h1, h2, h3, h4⟩ := h'
  show _ = [0 - e, 0 - f, 0 - g, 0 - i]
  have e1 : a = 0 - e := by omega
  have e2 : b = 0 - f := by omega
  have e3 : c = 0 - g := by omega
  have e4 : d = 0 - i := by omega
  rw [e1, e2, e3, e4]
theorem back_lin {s s' c1 c2 d1 d2 u v : List Int} (hs : isNum s = true) (hs' : isNum s' = true) (h1 : isNum c1 = true) (h2 : isNum c2 = true) (h3 : isNum d1 = true) (h4 : isNum d2 = true) (hu : isNum u = true) (hv : isNum v = true) :
    addL (mulL s (subL (mulL c1 u) (mulL d1 v))) (mulL s' (subL (mulL c2 u) (mulL d2 v))) = subL (mulL (addL (mulL s c1) (mulL s' c2)) u) (mulL (addL (mulL s d1) (mulL s' d2)) v) := by
  rw [mul_subr hs (num_mul h1 hu) (num_mul h3 hv), mul_subr hs' (num_mul h2 hu) (num_mul h4 hv), ← mul_asc hs h1 hu, ← mul_asc hs h3 hv, ← mul_asc hs' h2 hu, ← mul_asc hs' h4 hv,
    ← add_sub4 (num_mul (num_mul hs h1) hu) (num_mul (num_mul hs' h2) hu) (num_mul (num_mul hs h3) hv) (num_mul (num_mul hs' h4) hv), ← mul_addl (num_mul hs h1) (num_mul hs' h2) hu, ← mul_addl (num_mul hs h3) (num_mul hs' h4) hv]
/-- everything about the least multiple -/
structure LMul (a b m : List Int) : Prop where
  num : isNum m = true
  nz : zeroB m = false
  d1 : LDiv a m
  d2 : LDiv b m
  least : ∀ z, isNum z = true → LDiv a z → LDiv b z → LDiv m z
theorem lmul_rows {a b : List Int} {m : Nat} (ga : G 150 a) (gb : G 150 b) (za : zeroB a = false) (zb : zeroB b = false) (h : Stops a b m) (hx1 : zeroB (euW m (oneR a) (twoR b)).1.x = false) : LMul a b (mulL a (euW m (oneR a) (twoR b)).2.s) := by
  obtain ⟨R, _, _⟩ := run_ok ga gb h m (Nat.le_refl _)
  have x2 : zeroB (euW m (oneR a) (twoR b)).2.x = true := by rw [(euW_x m (oneR a) (twoR b)).2]; exact h.1
  obtain ⟨c1, c2, d1, d2, n1, n2, n3, n4, e1, e2, e3, e4⟩ := (back_run ga gb h m (Nat.le_refl _)).ex
  have ls := last_s ga gb h zb
  have N1 := R.n1
  have N2 := R.n2
  have S1 := R.s1
  have S2 := R.s2
  generalize (euW m (oneR a) (twoR b)).1 = p at *
  generalize (euW m (oneR a) (twoR b)).2 = q at *
  have ex : q.x = zer4 := zero_is N2.1 x2
  have S2' : zer4 = addL (mulL a q.s) (mulL b q.t) := by rw [← ex]; exact S2
  have S1' : p.x = addL (mulL a p.s) (mulL b p.t) := S1
  have ha := ga.num
  have hb := gb.num
  have zn : isNum zer4 = true := by decide
  refine ⟨num_mul ha N2.2.1, mul_nz ha N2.2.1 za ls, ⟨q.s, N2.2.1, rfl⟩, ⟨subL zer4 q.t, num_sub zn N2.2.2, ?_⟩, fun z hz ⟨u, hu, ez⟩ ⟨v, hv, ez2⟩ => ?_⟩
  · rw [mul_subr hb zn N2.2.2, show mulL b zer4 = zer4 from mul_zeroR hb]
    exact neg_of_add (num_mul ha N2.2.1) (num_mul hb N2.2.2) S2'
  · have k1 := back_lin N1.2.1 N2.2.1 n1 n2 n3 n4 hu hv
    have k2 := back_lin N1.2.2 N2.2.2 n1 n2 n3 n4 hu hv
    rw [e1, e3, show mulL one4 u = u from mul_one' hu, zer_mul hv, sub_zer hu] at k1
    rw [e2, e4, zer_mul hu, show mulL one4 v = v from mul_one' hv] at k2
    have m1 : isNum (subL (mulL c1 u) (mulL d1 v)) = true := num_sub (num_mul n1 hu) (num_mul n3 hv)
    have m2 : isNum (subL (mulL c2 u) (mulL d2 v)) = true := num_sub (num_mul n2 hu) (num_mul n4 hv)
    generalize subL (mulL c1 u) (mulL d1 v) = f1 at *
    generalize subL (mulL c2 u) (mulL d2 v) = f2 at *
    have t1 : addL (mulL a (addL (mulL p.s f1) (mulL q.s f2))) (mulL b (addL (mulL p.t f1) (mulL q.t f2))) = zer4 := by
      rw [k1, k2, mul_subr hb zn hv, show mulL b zer4 = zer4 from mul_zeroR hb, ← ez, ← ez2]
      exact add_neg0 hz
    rw [mul_addr ha (num_mul N1.2.1 m1) (num_mul N2.2.1 m2), mul_addr hb (num_mul N1.2.2 m1) (num_mul N2.2.2 m2), ← mul_asc ha N1.2.1 m1, ← mul_asc ha N2.2.1 m2, ← mul_asc hb N1.2.2 m1, ← mul_asc hb N2.2.2 m2,
      add_swap (num_mul (num_mul ha N1.2.1) m1) (num_mul (num_mul ha N2.2.1) m2) (num_mul (num_mul hb N1.2.2) m1) (num_mul (num_mul hb N2.2.2) m2),
      ← mul_addl (num_mul ha N1.2.1) (num_mul hb N1.2.2) m1, ← mul_addl (num_mul ha N2.2.1) (num_mul hb N2.2.2) m2, ← S1', ← S2', zer_mul m2, show addL (mulL p.x f1) zer4 = _ from add_zeroR (num_mul N1.1 m1)] at t1
    have z1 : zeroB f1 = true := by
      cases hf : zeroB f1 with
      | true => rfl
      | false =>
        have := mul_nz N1.1 m1 hx1 hf
        rw [t1] at this
        exact absurd this (by decide)
    have ef : f1 = zer4 := zero_is m1 z1
    rw [ef, show mulL p.s zer4 = zer4 from mul_zeroR N1.2.1, zer_addL (num_mul N2.2.1 m2)] at k1
    refine ⟨f2, m2, ?_⟩
    rw [ez, ← k1, mul_asc ha N2.2.1 m2]
theorem lmul_canon {a b m n : List Int} (h1 : LMul a b m) (h2 : LMul b a n) : canonL m = canonL n :=
  div_canon h1.num h2.num h1.nz (h1.least n h2.num h2.d2 h2.d1) (h2.least m h1.num h1.d2 h1.d1)
noncomputable def lcmL (a b : List Int) : List Int := canonL (mulL a (rowsE a b).2.s)
/-- what least_multiple tells -/
theorem lcm_ok {a b : List Int} (ga : G 150 a) (gb : G 150 b) (za : zeroB a = false) (zb : zeroB b = false) : isNum (lcmL a b) = true ∧ canonL (lcmL a b) = lcmL a b ∧ LDiv a (lcmL a b) ∧ LDiv b (lcmL a b) ∧ lcmL b a = lcmL a b ∧ normL (lcmL a b) * normL (lgcd a b) = normL a * normL b := by
  have h0 : ¬ (zeroB a = true ∧ zeroB b = true) := by rw [za]; exact fun h => Bool.noConfusion h.1
  have h1 : ¬ (zeroB b = true ∧ zeroB a = true) := by rw [za]; exact fun h => Bool.noConfusion h.2
  obtain ⟨m, st, hm, er, R, x1, z1, _, lg⟩ := rows_ok ga gb h0
  obtain ⟨m', st', hm', er', R', x1', z1', _, lg'⟩ := rows_ok gb ga h1
  have L1 : LMul a b (mulL a (rowsE a b).2.s) := by rw [er]; exact lmul_rows ga gb za zb st (by rw [← er]; exact z1)
  have L2 : LMul b a (mulL b (rowsE b a).2.s) := by rw [er']; exact lmul_rows gb ga zb za st' (by rw [← er']; exact z1')
  have ne := norm_end ga gb st
  rw [← er] at ne
  have cd := canon_ldiv L1.num
  unfold lcmL
  refine ⟨canon_num L1.num, canon_canon L1.num, ?_, ?_, (lmul_canon L1 L2).symm, ?_⟩
  · exact L1.d1.trans ga.num cd.2
  · exact L1.d2.trans gb.num cd.2
  · rw [canon_norm L1.num, ← lgcd_eq lg, canon_norm lg.1, norm_mul ga.num (by rw [er]; exact R.n2.2.1), Int.mul_assoc, Int.mul_comm (normL (rowsE a b).2.s), ne]
theorem lcm_G {a b : List Int} (ga : G 150 a) (gb : G 150 b) (za : zeroB a = false) (zb : zeroB b = false) : G 400 (lcmL a b) := by
  obtain ⟨n, _, _, _, _, e⟩ := lcm_ok ga gb za zb
  have h0 : ¬ (zeroB a = true ∧ zeroB b = true) := by rw [za]; exact fun h => Bool.noConfusion h.1
  have sp := lgcd_spec ga.num gb.num h0
  have pg := norm_pos sp.1 sp.2.1
  have na := G_norm ga
  have nb := G_norm gb
  have pa := norm_pos ga.num za
  have pb := norm_pos gb.num zb
  have nl := norm_nn n
  have l : normL (lcmL a b) * 1 ≤ normL (lcmL a b) * normL (lgcd a b) := Int.mul_le_mul_of_nonneg_left (by omega) nl
  have px : (0 : Int) < 2 ^ (2 * (150 + 2)) := Int.pow_pos (by decide)
  have la : normL a * normL b ≤ 2 ^ (2 * (150 + 2)) * normL b := Int.mul_le_mul_of_nonneg_right (Int.le_of_lt na) (by omega)
  have l2 : normL a * normL b < 2 ^ (2 * (150 + 2)) * 2 ^ (2 * (150 + 2)) := Int.lt_of_le_of_lt la (Int.mul_lt_mul_of_pos_left nb px)
  have l3 : (2 : Int) ^ (2 * (150 + 2)) * 2 ^ (2 * (150 + 2)) = 2 ^ (2 * 304) := by rw [← Int.pow_add]
  exact (norm_G n (n := 304) (by omega)).up (by decide)
end TB

namespace TB
open PySem L2 PySem.Spec PyProof.Rows
def RAP : List D → Out → Prop := fun ds o => ∃ (a b : List Int), ds = [ti a, li b] ∧ G 1000 a ∧ G 1000 b ∧ ¬ (zeroB a = true ∧ zeroB b = true) ∧ o = .v (.bool (decide (normL (lgcd a b) = 1)))
theorem lmul_lcm (a b : List Int) : lmulL a b = ti (lcmL a b) := rfl
theorem rmg {c q : Addr} {m : Nat} {a b : List Int} (ga : G m a) (gb : G m b) (za : zeroB a = false) (zb : zeroB b = false) (h : m ≤ 150 := by decide) : RM c q 150 lmulL [ti a, ti b] (.v (ti (lcmL a b))) :=
  ⟨a, b, rfl, num_len1000 ga.num, num_len1000 gb.num, ga.sm.mono h, gb.sm.mono h, by
    rw [if_pos ⟨ga.num, gb.num⟩, if_neg (by rw [za, zb]; simp)]
    rfl⟩
end TB

namespace TB
open PySem L2 PySem.Spec PyProof.Rows
/-! ### the common divisor of a list does not ask for its order -/
theorem ldiv_zero {d : List Int} (hd : isNum d = true) : LDiv d zer4 := ⟨zer4, by decide, (mul_zeroR hd).symm⟩
structure GAll (S : List Int → Prop) (g : List Int) : Prop where
  num : isNum g = true
  div : ∀ x, S x → LDiv g x
  great : ∀ d, isNum d = true → (∀ x, S x → LDiv d x) → LDiv d g
theorem gall_step {S : List Int → Prop} {f x : List Int} (h : GAll S f) (hx : isNum x = true) : GAll (fun y => S y ∨ y = x) (cmF f x) := by
  unfold cmF
  cases hz : zeroB x with
  | true =>
    rw [if_pos rfl]
    have e : x = zer4 := zero_is hx hz
    subst e
    refine ⟨h.num, fun y hy => ?_, fun d hd hall => h.great d hd fun y hy => hall y (.inl hy)⟩
    rcases hy with hy | rfl
    · exact h.div y hy
    · exact ldiv_zero h.num
  | false =>
    rw [if_neg Bool.false_ne_true]
    have sp := lgcd_spec h.num hx (fun q => by rw [hz] at q; exact Bool.noConfusion q.2)
    refine ⟨sp.1, fun y hy => ?_, fun d hd hall => gcd_great sp hd (h.great d hd fun y hy => hall y (.inl hy)) (hall x (.inr rfl))⟩
    rcases hy with hy | rfl
    · exact sp.2.2.1.trans sp.1 (h.div y hy)
    · exact sp.2.2.2.1
theorem gall_zero : GAll (fun _ => False) zer4 := ⟨by decide, fun _ h => h.elim, fun d hd _ => ldiv_zero hd⟩
theorem cmK_gall {xs : List (List Int)} (hx : ∀ x ∈ xs, isNum x = true) : ∀ k, k ≤ xs.length → GAll (fun y => y ∈ xs.take k) (cmK xs k)
  | 0, _ => by
    have e : cmK xs 0 = zer4 := rfl
    rw [e]
    exact ⟨gall_zero.num, fun y hy => absurd hy (by simp), fun d hd _ => ldiv_zero hd⟩
  | k + 1, h => by
    have ih := gall_step (cmK_gall hx k (by omega)) (hx _ (getD_mem (show k < xs.length by omega)))
    rw [cmK_succ (by omega)]
    have et : ∀ y, y ∈ xs.take (k + 1) ↔ (y ∈ xs.take k ∨ y = xs.getD k []) := fun y => by
      have hd : xs[k]? = some (xs.getD k []) := by rw [List.getD_eq_getElem?_getD, List.getElem?_eq_getElem (show k < xs.length by omega)]; rfl
      have e : xs.take (k + 1) = xs.take k ++ [xs.getD k []] := by rw [List.take_succ, hd]; rfl
      rw [e, List.mem_append, List.mem_singleton]
    exact ⟨ih.num, fun y hy => ih.div y ((et y).mp hy), fun d hd hall => ih.great d hd fun y hy => hall y ((et y).mpr hy)⟩
theorem gall_canon {S : List Int → Prop} {g h : List Int} (h1 : GAll S g) (h2 : GAll S h) (g0 : zeroB g = false) : canonL g = canonL h :=
  div_canon h1.num h2.num g0 (h2.great g h1.num h1.div) (h1.great h h2.num h2.div)
theorem cmK_self {xs : List (List Int)} (hx : ∀ x ∈ xs, isNum x = true) : ∀ k, k ≤ xs.length → zeroB (cmK xs k) = false → canonL (cmK xs k) = cmK xs k
  | 0, _, h => absurd (show zeroB zer4 = false from h) (by decide)
  | k + 1, hk, h => by
    have g := cmK_gall hx k (by omega)
    have hn := hx _ (getD_mem (show k < xs.length by omega))
    rw [cmK_succ (by omega)] at h ⊢
    unfold cmF at h ⊢
    cases hz : zeroB (xs.getD k []) with
    | true =>
      rw [hz, if_pos rfl] at h
      rw [if_pos rfl]
      exact cmK_self hx k (by omega) h
    | false =>
      rw [if_neg Bool.false_ne_true]
      exact lgcd_canon g.num hn (fun q => by rw [hz] at q; exact Bool.noConfusion q.2)
/-- two lists with the same members have one common divisor -/
theorem cmK_perm {xs ys : List (List Int)} (hx : ∀ x ∈ xs, isNum x = true) (hm : ∀ y, y ∈ xs ↔ y ∈ ys) (h0 : zeroB (cmK xs xs.length) = false) : cmK ys ys.length = cmK xs xs.length := by
  have hy : ∀ y ∈ ys, isNum y = true := fun y h => hx y ((hm y).mpr h)
  have g1 := cmK_gall hx xs.length (Nat.le_refl _)
  have g2 := cmK_gall hy ys.length (Nat.le_refl _)
  rw [List.take_length] at g1 g2
  have g2' : GAll (fun y => y ∈ xs) (cmK ys ys.length) := ⟨g2.num, fun y h => g2.div y ((hm y).mp h), fun d hd hall => g2.great d hd fun y h => hall y ((hm y).mpr h)⟩
  have e := gall_canon g1 g2' h0
  have z : zeroB (cmK ys ys.length) = false := by
    cases hz : zeroB (cmK ys ys.length) with
    | false => rfl
    | true =>
      have d := g1.great (cmK ys ys.length) g2.num g2'.div
      obtain ⟨q, hq, eq⟩ := d
      have ez : cmK ys ys.length = zer4 := zero_is g2.num hz
      rw [ez, zer_mul hq] at eq
      rw [eq] at h0
      exact absurd h0 (by decide)
  rw [← cmK_self hy _ (Nat.le_refl _) z, ← e, cmK_self hx _ (Nat.le_refl _) h0]
end TB

namespace TB
open PySem L2 PySem.Spec PyProof.Rows
/-! ### comprehensions with any names, any tests, one walk or two -/
/-- a name, some names -/
inductive Tgt where
  | one (i : Nat)
  | many (is : List Nat)
  | manyS (is : List Nat)
def Tgt.vs : Tgt → List Nat
  | .one i => [i]
  | .many is => is
  | .manyS is => is
def gNs : List Nat → TGs
  | [] => gNil
  | i :: is => gCons (gName i) (gNs is)
/-- the parts of a row, be it a tuple or a list -/
def gSq (K : PySem.W.Frag) (n : Nat) (t : TGs) : TG := fun v σ H Q => ∃ a xs, v = .ref a ∧ (SqT K H a xs ∨ SqL K H a xs) ∧ xs.length = n ∧ t xs σ H Q
theorem pg_sq {X : Cx} {es : List Expr} {k : Nat} {pos : Pos} {t : TGs} {n : Nat} (hc : X.calm = true) (h : PGs X es t)
    (hn : (assignEach es X.env).length = n := by rfl) (hst : (assignEach es X.env).findIdx? (·.1) = none := by rfl) : PG X (.Tuple es k pos) (gSq X.K n t) := by
  refine ⟨fun pins s σ H v u Q I r hw => ?_⟩
  obtain ⟨a, xs, e1, hq, hl, hw⟩ := hw
  rcases hq with hq | hq
  · exact (pg_tup hc h hn hst).run pins s σ H v u Q I r ⟨a, xs, e1, hq, hl, hw⟩
  · exact (pg_lst hc h hn hst).run pins s σ H v u Q I r ⟨a, xs, e1, hq, hl, hw⟩
def Tgt.g (K : PySem.W.Frag) : Tgt → TG
  | .one i => gName i
  | .many is => gTup K is.length (gNs is)
  | .manyS is => gSq K is.length (gNs is)
def setG : List Nat → List D → List S → List S
  | i :: is, d :: ds, g => setG is ds (g.set i (.d d))
  | _, _, g => g
def Tgt.put : Tgt → D → List S → List S
  | .one i, d, g => g.set i (.d d)
  | .many is, .tuple ds, g => setG is ds g
  | .many _, _, g => g
  | .manyS is, .tuple ds, g => setG is ds g
  | .manyS is, .list ds, g => setG is ds g
  | .manyS _, _, g => g
def Tgt.fits : Tgt → D → Prop
  | .one _, _ => True
  | .many is, d => ∃ ds, d = .tuple ds ∧ ds.length = is.length
  | .manyS is, d => ∃ ds, (d = .tuple ds ∨ d = .list ds) ∧ ds.length = is.length
def wipeG (g : List S) : List Nat → List S
  | [] => g
  | v :: vs => (wipeG g vs).set v .u
def putV : List Nat → List V → L2.St → L2.St
  | i :: is, v :: vs, σ => putV is vs (σ.set i (some v))
  | _, _, σ => σ
theorem wipe_len (σ : L2.St) : ∀ vs : List Nat, (wipe σ vs).length = σ.length
  | [] => rfl
  | v :: vs => by rw [wipe, List.length_set, wipe_len σ vs]
theorem wipe_get (σ : L2.St) (k : Nat) : ∀ vs : List Nat, (wipe σ vs)[k]? = if k ∈ vs then (σ[k]?).map (fun _ => none) else σ[k]?
  | [] => by simp [wipe]
  | v :: vs => by
    rw [wipe, List.getElem?_set, wipe_len, wipe_get σ k vs]
    by_cases h : v = k
    · subst h
      rw [if_pos rfl, if_pos List.mem_cons_self]
      by_cases hl : v < σ.length
      · rw [if_pos hl, List.getElem?_eq_getElem hl]
        rfl
      · rw [if_neg hl, List.getElem?_eq_none (by omega)]
        rfl
    · rw [if_neg h]
      by_cases h2 : k ∈ vs
      · rw [if_pos h2, if_pos (List.mem_cons_of_mem _ h2)]
      · rw [if_neg h2, if_neg (fun q => by rcases List.mem_cons.mp q with q | q; exact h q.symm; exact h2 q)]
theorem putV_len : ∀ (is : List Nat) (vs : List V) (σ : L2.St), (putV is vs σ).length = σ.length
  | [], _, _ => rfl
  | i :: is, [], _ => rfl
  | i :: is, v :: vs, σ => by rw [putV, putV_len is vs, List.length_set]
theorem putV_get (k : Nat) : ∀ (is : List Nat) (vs : List V) (σ : L2.St), k ∉ is → (putV is vs σ)[k]? = σ[k]?
  | [], _, _, _ => rfl
  | i :: is, [], _, _ => rfl
  | i :: is, v :: vs, σ, h => by
    rw [putV, putV_get k is vs _ (fun q => h (List.mem_cons_of_mem _ q)), List.getElem?_set_ne (fun q => h (by rw [q]; exact List.mem_cons_self))]
theorem wipe_eq {σ τ : L2.St} {vs : List Nat} (hl : σ.length = τ.length) (h : ∀ k, k ∉ vs → σ[k]? = τ[k]?) : wipe σ vs = wipe τ vs := by
  apply List.ext_getElem?
  intro k
  rw [wipe_get, wipe_get]
  by_cases hk : k ∈ vs
  · rw [if_pos hk, if_pos hk]
    by_cases h2 : k < σ.length
    · rw [List.getElem?_eq_getElem h2, List.getElem?_eq_getElem (by omega)]
      rfl
    · rw [List.getElem?_eq_none (by omega), List.getElem?_eq_none (by omega)]
  · rw [if_neg hk, if_neg hk, h k hk]
theorem wipe_wipe (σ : L2.St) (vs : List Nat) : wipe (wipe σ vs) vs = wipe σ vs := wipe_eq (wipe_len _ _) fun k hk => by rw [wipe_get, if_neg hk]
theorem wipe_sub (σ : L2.St) {vs ws : List Nat} (h : ∀ i ∈ ws, i ∈ vs) : wipe (wipe σ ws) vs = wipe σ vs := wipe_eq (wipe_len _ _) fun k hk => by rw [wipe_get, if_neg fun q => hk (h k q)]
section
variable {K : PySem.W.Frag} {F0 H0 F H : Hp} {σ : L2.St} {Γ : List S}
theorem Ok.wipe (ok : Ok K F0 H0 F σ H Γ) : ∀ vs : List Nat, Ok K F0 H0 F (L2.wipe σ vs) H (wipeG Γ vs)
  | [] => ok
  | v :: vs => (ok.wipe vs).forget v none
theorem Ok.puts : ∀ (is : List Nat) {vs : List V} {ds : List D} {σ : L2.St} {Γ : List S}, Ok K F0 H0 F σ H Γ → DpAll K F vs ds → Ok K F0 H0 F (putV is vs σ) H (setG is ds Γ)
  | [], _, _, _, _, ok, _ => by
    unfold putV setG
    exact ok
  | i :: is, _, _, _, _, ok, .nil => by
    unfold putV setG
    exact ok
  | i :: is, _, _, _, _, ok, .cons h1 h2 => by
    unfold putV setG
    exact Ok.puts is (ok.set i h1) h2
theorem gNs_run : ∀ (is : List Nat) (vs : List V) (σ : L2.St) (H : Hp) (Q : L2.St → Hp → Prop), vs.length = is.length → Q (putV is vs σ) H → gNs is vs σ H Q
  | [], [], σ, H, Q, _, q => ⟨rfl, q⟩
  | i :: is, v :: vs, σ, H, Q, hl, q => ⟨v, vs, rfl, gNs_run is vs _ H Q (by simpa using hl) q⟩
  | [], _ :: _, _, _, _, hl, _ => by simp at hl
  | _ :: _, [], _, _, _, hl, _ => by simp at hl
theorem tgt_run {t : Tgt} {ws : List Nat} {v : V} {d : D} {Q : L2.St → Hp → Prop} (hs : ∀ i ∈ t.vs, i ∈ ws) (hf : t.fits d) (ex : Ex F H) (dp : Dp K F v d)
    (q : ∀ σ', L2.wipe σ' ws = L2.wipe σ ws → (∀ F' H', Ex F F' → Ok K F0 H0 F' σ H' Γ → Ok K F0 H0 F' σ' H' (t.put d (wipeG Γ ws))) → Q σ' H) : t.g K v (L2.wipe σ ws) H Q := by
  cases t with
  | one i =>
    refine q _ ?_ fun F' H' e ok => (ok.wipe ws).set i (dp_ex e _ _ dp)
    refine wipe_eq (by rw [List.length_set, wipe_len]) fun k hk => ?_
    rw [List.getElem?_set_ne (fun e => hk (by rw [← e]; exact hs i (by simp [Tgt.vs]))), wipe_get, if_neg hk]
  | many is =>
    obtain ⟨ds, e, hl⟩ := hf
    subst e
    cases dp with
    | tup h1 h2 =>
      have hl2 := (da_len h2).trans hl
      refine ⟨_, _, rfl, st_ex ex h1, hl2, gNs_run is _ _ H Q hl2 (q _ ?_ fun F' H' e ok => Ok.puts is (ok.wipe ws) (da_ex e _ _ h2))⟩
      refine wipe_eq (by rw [putV_len, wipe_len]) fun k hk => ?_
      rw [putV_get k is _ _ (fun e => hk (hs k e)), wipe_get, if_neg hk]
  | manyS is =>
    obtain ⟨ds, e, hl⟩ := hf
    rcases e with e | e
    · subst e
      cases dp with
      | tup h1 h2 =>
        have hl2 := (da_len h2).trans hl
        refine ⟨_, _, rfl, .inl (st_ex ex h1), hl2, gNs_run is _ _ H Q hl2 (q _ ?_ fun F' H' e ok => Ok.puts is (ok.wipe ws) (da_ex e _ _ h2))⟩
        refine wipe_eq (by rw [putV_len, wipe_len]) fun k hk => ?_
        rw [putV_get k is _ _ (fun e => hk (hs k e)), wipe_get, if_neg hk]
    · subst e
      cases dp with
      | lst h1 h2 =>
        have hl2 := (da_len h2).trans hl
        refine ⟨_, _, rfl, .inr (sl_ex ex h1), hl2, gNs_run is _ _ H Q hl2 (q _ ?_ fun F' H' e ok => Ok.puts is (ok.wipe ws) (da_ex e _ _ h2))⟩
        refine wipe_eq (by rw [putV_len, wipe_len]) fun k hk => ?_
        rw [putV_get k is _ _ (fun e => hk (hs k e)), wipe_get, if_neg hk]
/-- one walk: what is asked of it -/
theorem lcA_red {W : WX} {α : Type} {xs : List α} {enc : α → D} {t : Tgt} {f : α → D} {p : α → Bool} {tt : TT} (hf : ∀ a ∈ xs, t.fits (enc a)) (ht : ∀ a, a ∈ xs → ∀ σ H Q, tT K F0 H0 (t.put (enc a) (wipeG Γ t.vs)) (p a) σ H Q → tt σ H Q) (hl : xs.length < 100000) :
    ∀ σ H Q, tE K W F0 H0 Γ (.o ((xs.filter p).map f)) σ H Q → tLc (tI K F0 H0 Γ (xs.map enc)) (t.g K) tt (fun σ H Q => ∃ a, a ∈ xs ∧ p a = true ∧ tE K WF F0 H0 (t.put (enc a) (wipeG Γ t.vs)) (.v (f a)) σ H Q) t.vs σ H Q := by
  rintro σ H Q ⟨F, ok, q⟩
  refine ⟨F, ok, fun J F1 H1 z1 it1 D nD => ?_⟩
  have ok1 := ok.mono z1
  have nD1 : F1 D = none := z1.s.none nD
  refine ⟨fun k m H2 => m = xs.length - k ∧ k ≤ xs.length ∧ ∃ F2 acc, Fz F1 H1 F2 H2 ∧ H2 D = some (.lst acc) ∧ F2 D = none ∧ DpAll K F2 acc (((xs.take k).filter p).map f), ⟨xs.length, by simp, Nat.zero_le _, F1, [], Fz.fresh z1.s nD, upd_same, nD1, by simp; exact .nil⟩, ?_⟩
  rintro k m H2 ⟨rfl, hk, F2, acc, z2, a1, a2, a3⟩
  obtain ⟨go, stop⟩ := it1 F2 H2 k z2.f z2.s
  by_cases hlt : k < xs.length
  · have hd : xs[k]? = some xs[k] := List.getElem?_eq_getElem hlt
    have hmem : xs[k] ∈ xs := List.getElem_mem hlt
    have hdm : (xs.map enc)[k]? = some (enc xs[k]) := by rw [List.getElem?_map, hd]; rfl
    obtain ⟨g1, g2⟩ := go _ hdm
    have htk : xs.take (k + 1) = xs.take k ++ [xs[k]] := by rw [List.take_succ, hd]; rfl
    refine .inr ⟨g1, fun H' => ∃ F3 acc', Fz F1 H1 F3 H' ∧ H' D = some (.lst acc') ∧ F3 D = none ∧ DpAll K F3 acc' (((xs.take (k + 1)).filter p).map f), fun H' h' => ⟨xs.length - (k + 1), by omega, rfl, hlt, h'⟩, fun x H' y => ?_⟩
    obtain ⟨F3, z3, d3⟩ := g2 x H' y
    have a1' := z3.h D _ a1
    have a2' := z3.n D _ a2 a1
    refine tgt_run (Γ := Γ) (F0 := F0) (H0 := H0) (fun i h => h) (hf _ hmem) z3.s d3 fun σ' hw tr => ?_
    have o2 := tr _ _ (Ex.refl _) ((ok1.mono z2).mono z3)
    refine ⟨hw, ht _ hmem _ _ _ ⟨F3, o2, fun F4 H4 z4 => ?_⟩⟩
    have b1 := z4.h D _ a1'
    have b2 := z4.n D _ a2' a1'
    cases hp : p xs[k] with
    | false =>
      refine iteF ⟨F4, acc, (z2.trans z3).trans z4, b1, b2, ?_⟩
      rw [htk, List.filter_append, List.filter_cons_of_neg (by rw [hp]; exact Bool.false_ne_true), List.filter_nil, List.append_nil]
      exact da_ex (z3.f.trans z4.f) _ _ a3
    | true =>
      refine iteT ⟨xs[k], hmem, hp, F4, o2.mono z4, fun v F5 H5 z5 d5 => ⟨acc, z5.h D _ b1, ?_, F5, acc ++ [v], ?_, upd_same, z5.n D _ b2 b1, ?_⟩⟩
      · rw [da_len a3, List.length_map]
        have h1 := List.length_filter_le p (xs.take k)
        rw [List.length_take] at h1
        exact Nat.lt_of_lt_of_le (by omega : _ < 100000) (by decide)
      · have zz := ((z2.trans z3).trans z4).trans z5
        refine ⟨zz.f, fun c o hc => ?_, fun c o hc => ?_, zz.n⟩
        · rw [upd_ne (ne_of_none hc nD)]
          exact zz.h c o hc
        · rw [upd_ne (ne_of_none hc (z5.n D _ b2 b1))]
          exact zz.s c o hc
      · rw [htk, List.filter_append, List.filter_cons_of_pos (by rw [hp]), List.filter_nil, List.map_append]
        exact da_app (da_ex ((z3.f.trans z4.f).trans z5.f) _ _ a3) (.cons d5 .nil)
  · have hke : k = xs.length := by omega
    refine .inl ⟨stop (by rw [List.length_map]; exact hke), ?_⟩
    subst hke
    rw [List.take_length] at a3
    exact q D acc F2 H2 (z1.trans z2) (z1.h.none nD) a1 a2 a3
/-- two walks, the inner one over what hangs on the outer one -/
theorem lcB_red {W : WX} {α β : Type} {xs : List α} {enc : α → D} {ys : α → List β} {enc1 : β → D} {t t1 : Tgt} {f : α → β → D} {p : α → Bool} {p1 : α → β → Bool} {tt tt1 : TT} {wi1 : TI} {ws : List Nat} {m : Nat} (hws : ∀ i ∈ t.vs, i ∈ ws) (hf : ∀ a ∈ xs, t.fits (enc a)) (hf1 : ∀ a ∈ xs, ∀ b ∈ ys a, t1.fits (enc1 b)) (hv : ∀ i ∈ t1.vs, i ∈ ws)
    (ht : ∀ a, a ∈ xs → ∀ σ H Q, tT K F0 H0 (t.put (enc a) (wipeG Γ ws)) (p a) σ H Q → tt σ H Q)
    (hi : ∀ a, a ∈ xs → p a = true → ∀ σ H R, tI K F0 H0 (t.put (enc a) (wipeG Γ ws)) ((ys a).map enc1) σ H R → wi1 σ H R)
    (ht1 : ∀ a, a ∈ xs → p a = true → ∀ b, b ∈ ys a → ∀ σ H Q, tT K F0 H0 (t1.put (enc1 b) (wipeG (t.put (enc a) (wipeG Γ ws)) t1.vs)) (p1 a b) σ H Q → tt1 σ H Q) (hl : ((xs.filter p).flatMap fun a => (ys a).filter (p1 a)).length ≤ m) (hm : m < 100000) :
    ∀ σ H Q, tE K W F0 H0 Γ (.o ((xs.filter p).flatMap fun a => ((ys a).filter (p1 a)).map (f a))) σ H Q →
      tLc2 (tI K F0 H0 Γ (xs.map enc)) (t.g K) tt wi1 (t1.g K) tt1 (fun σ H Q => ∃ a b, a ∈ xs ∧ p a = true ∧ b ∈ ys a ∧ p1 a b = true ∧ tE K WF F0 H0 (t1.put (enc1 b) (wipeG (t.put (enc a) (wipeG Γ ws)) t1.vs)) (.v (f a b)) σ H Q) ws t1.vs σ H Q := by
  rintro σ H Q ⟨F, ok, q⟩
  refine ⟨F, ok, fun J F1 H1 z1 it1 D nD => ?_⟩
  have ok1 := ok.mono z1
  have nD1 : F1 D = none := z1.s.none nD
  let res : Nat → List PyData := fun k => ((xs.take k).filter p).flatMap fun a => ((ys a).filter (p1 a)).map (f a)
  refine ⟨fun k m H2 => m = xs.length - k ∧ k ≤ xs.length ∧ ∃ F2 acc, Fz F1 H1 F2 H2 ∧ H2 D = some (.lst acc) ∧ F2 D = none ∧ DpAll K F2 acc (res k), ⟨xs.length, by simp, Nat.zero_le _, F1, [], Fz.fresh z1.s nD, upd_same, nD1, by simp [res]; exact .nil⟩, ?_⟩
  rintro k m' H2 ⟨rfl, hk, F2, acc, z2, a1, a2, a3⟩
  obtain ⟨go, stop⟩ := it1 F2 H2 k z2.f z2.s
  by_cases hlt : k < xs.length
  · have hd : xs[k]? = some xs[k] := List.getElem?_eq_getElem hlt
    have hmem : xs[k] ∈ xs := List.getElem_mem hlt
    have hdm : (xs.map enc)[k]? = some (enc xs[k]) := by rw [List.getElem?_map, hd]; rfl
    obtain ⟨g1, g2⟩ := go _ hdm
    have htk : xs.take (k + 1) = xs.take k ++ [xs[k]] := by rw [List.take_succ, hd]; rfl
    refine .inr ⟨g1, fun H' => ∃ F3 acc', Fz F1 H1 F3 H' ∧ H' D = some (.lst acc') ∧ F3 D = none ∧ DpAll K F3 acc' (res (k + 1)), fun H' h' => ⟨xs.length - (k + 1), by omega, rfl, hlt, h'⟩, fun x H' y => ?_⟩
    obtain ⟨F3, z3, d3⟩ := g2 x H' y
    have a1' := z3.h D _ a1
    have a2' := z3.n D _ a2 a1
    refine tgt_run (Γ := Γ) (F0 := F0) (H0 := H0) hws (hf _ hmem) z3.s d3 fun σ' hw tr => ?_
    have o2 := tr _ _ (Ex.refl _) ((ok1.mono z2).mono z3)
    refine ⟨hw, ht _ hmem _ _ _ ⟨F3, o2, fun F4 H4 z4 => ?_⟩⟩
    have b1 := z4.h D _ a1'
    have b2 := z4.n D _ a2' a1'
    have z24 := (z2.trans z3).trans z4
    cases hp : p xs[k] with
    | false =>
      refine iteF ⟨F4, acc, z24, b1, b2, ?_⟩
      show DpAll K F4 acc (((xs.take (k + 1)).filter p).flatMap fun a => ((ys a).filter (p1 a)).map (f a))
      rw [htk, List.filter_append, List.filter_cons_of_neg (by rw [hp]; exact Bool.false_ne_true), List.filter_nil, List.append_nil]
      exact da_ex (z3.f.trans z4.f) _ _ a3
    | true =>
      have hres : res (k + 1) = res k ++ ((ys xs[k]).filter (p1 xs[k])).map (f xs[k]) := by
        show ((xs.take (k + 1)).filter p).flatMap _ = _
        rw [htk, List.filter_append, List.filter_cons_of_pos (by rw [hp]), List.filter_nil, List.flatMap_append]
        simp [res]
      refine iteT (hi _ hmem hp _ _ _ ⟨F4, o2.mono z4, fun J1 F5 H5 z5 it5 => ?_⟩)
      have z15 := z24.trans z5
      refine ⟨fun j n H6 => n = (ys xs[k]).length - j ∧ j ≤ (ys xs[k]).length ∧ ∃ F6 acc6, Ex F5 F6 ∧ H6 D = some (.lst acc6) ∧ F6 D = none ∧ DpAll K F6 acc6 (res k ++ (((ys xs[k]).take j).filter (p1 xs[k])).map (f xs[k])) ∧ Fz F1 H1 F6 H6,
        ⟨(ys xs[k]).length, by simp, Nat.zero_le _, F5, acc, Ex.refl _, z5.h D _ b1, z5.n D _ b2 b1, by simp; exact da_ex ((z3.f.trans z4.f).trans z5.f) _ _ a3, z24.trans z5⟩, ?_⟩
      rintro j n H6 ⟨rfl, hj, F6, acc6, z6, c1, c2, c3, z16⟩
      obtain ⟨go1, stop1⟩ := it5 F6 H6 j z6 z16.s
      by_cases hlt1 : j < (ys xs[k]).length
      · have hd1 : (ys xs[k])[j]? = some (ys xs[k])[j] := List.getElem?_eq_getElem hlt1
        have hmem1 : (ys xs[k])[j] ∈ ys xs[k] := List.getElem_mem hlt1
        have hdm1 : ((ys xs[k]).map enc1)[j]? = some (enc1 (ys xs[k])[j]) := by rw [List.getElem?_map, hd1]; rfl
        obtain ⟨e1, e2⟩ := go1 _ hdm1
        have htk1 : (ys xs[k]).take (j + 1) = (ys xs[k]).take j ++ [(ys xs[k])[j]] := by rw [List.take_succ, hd1]; rfl
        refine .inr ⟨e1, fun H' => ∃ F7 acc7, Ex F5 F7 ∧ H' D = some (.lst acc7) ∧ F7 D = none ∧ DpAll K F7 acc7 (res k ++ (((ys xs[k]).take (j + 1)).filter (p1 xs[k])).map (f xs[k])) ∧ Fz F1 H1 F7 H', fun H' h' => ⟨(ys xs[k]).length - (j + 1), by omega, rfl, hlt1, h'⟩, fun x1 H7 y1 => ?_⟩
        obtain ⟨F7, z7, d7⟩ := e2 x1 H7 y1
        have c1' := z7.h D _ c1
        have c2' := z7.n D _ c2 c1
        have o7 := tr F7 H7 (z4.f.trans (z5.f.trans (z6.trans z7.f))) (ok1.mono (z16.trans z7))
        refine tgt_run (Γ := t.put (enc xs[k]) (wipeG Γ ws)) (F0 := F0) (H0 := H0) (fun i h => h) (hf1 _ hmem _ hmem1) z7.s d7 fun σ3 hw3 tr1 => ?_
        have o3 := tr1 _ _ (Ex.refl _) o7
        refine ⟨hw3, ht1 _ hmem hp _ hmem1 _ _ _ ⟨F7, o3, fun F8 H8 z8 => ?_⟩⟩
        have f1 := z8.h D _ c1'
        have f2 := z8.n D _ c2' c1'
        cases hp1 : p1 xs[k] (ys xs[k])[j] with
        | false =>
          refine iteF ⟨F8, acc6, z6.trans (z7.f.trans z8.f), f1, f2, ?_, (z16.trans z7).trans z8⟩
          rw [htk1, List.filter_append, List.filter_cons_of_neg (by rw [hp1]; exact Bool.false_ne_true), List.filter_nil, List.append_nil]
          exact da_ex (z7.f.trans z8.f) _ _ c3
        | true =>
          refine iteT ⟨xs[k], (ys xs[k])[j], hmem, hp, hmem1, hp1, F8, o3.mono z8, fun v F9 H9 z9 d9 => ⟨acc6, z9.h D _ f1, ?_, F9, acc6 ++ [v], ?_, upd_same, z9.n D _ f2 f1, ?_, ?_⟩⟩
          · have hlen : acc6.length ≤ m := by
              rw [da_len c3, List.length_append, List.length_map]
              refine Nat.le_trans ?_ hl
              have e1 : (res k).length + (((ys xs[k]).filter (p1 xs[k])).map (f xs[k])).length ≤ (res xs.length).length := by
                rw [← List.length_append, ← hres]
                show (((xs.take (k + 1)).filter p).flatMap _).length ≤ (((xs.take xs.length).filter p).flatMap _).length
                rw [List.take_length]
                conv => rhs; rw [← List.take_append_drop (k + 1) xs]
                rw [List.filter_append, List.flatMap_append, List.length_append]
                exact Nat.le_add_right _ _
              have e2 : (res xs.length).length = ((xs.filter p).flatMap fun a => (ys a).filter (p1 a)).length := by
                show (((xs.take xs.length).filter p).flatMap _).length = _
                rw [List.take_length, List.length_flatMap, List.length_flatMap]
                congr 1
                apply List.map_congr_left
                intro a _
                rw [List.length_map]
              have e3 : (((ys xs[k]).take j).filter (p1 xs[k])).length ≤ ((ys xs[k]).filter (p1 xs[k])).length := by
                conv => rhs; rw [← List.take_append_drop j (ys xs[k])]
                rw [List.filter_append, List.length_append]
                exact Nat.le_add_right _ _
              rw [List.length_map] at e1
              omega
            exact Nat.lt_of_lt_of_le (Nat.lt_of_le_of_lt hlen hm) (by decide)
          · exact z6.trans (z7.f.trans (z8.f.trans z9.f))
          · rw [htk1, List.filter_append, List.filter_cons_of_pos (by rw [hp1]), List.filter_nil, List.map_append, ← List.append_assoc]
            exact da_app (da_ex ((z7.f.trans z8.f).trans z9.f) _ _ c3) (.cons d9 .nil)
          · have zz := (((z16.trans z7).trans z8).trans z9)
            refine ⟨zz.f, fun c o hc => ?_, fun c o hc => ?_, zz.n⟩
            · rw [upd_ne (ne_of_none hc nD)]
              exact zz.h c o hc
            · rw [upd_ne (ne_of_none hc (z9.n D _ f2 f1))]
              exact zz.s c o hc
      · have hje : j = (ys xs[k]).length := by omega
        refine .inl ⟨stop1 (by rw [List.length_map]; exact hje), F6, acc6, z16, c1, c2, ?_⟩
        subst hje
        rw [List.take_length] at c3
        rw [hres]
        exact c3
  · have hke : k = xs.length := by omega
    refine .inl ⟨stop (by rw [List.length_map]; exact hke), ?_⟩
    subst hke
    have a4 : DpAll K F2 acc ((xs.filter p).flatMap fun a => ((ys a).filter (p1 a)).map (f a)) := by
      have e : res xs.length = ((xs.filter p).flatMap fun a => ((ys a).filter (p1 a)).map (f a)) := by
        show ((xs.take xs.length).filter p).flatMap _ = _
        rw [List.take_length]
      rw [← e]
      exact a3
    exact q D acc F2 H2 (z1.trans z2) (z1.h.none nD) a1 a2 a4
end
end TB

namespace TB
open PySem L2 PySem.Spec PyProof.Rows
abbrev JTs (X : Cx) (F0 H0 : Hp) (Γ : List S) (ifs : List Expr) (b : Bool) : Prop := PTs X ifs (tT X.K F0 H0 Γ b)
theorem pts_imp {X : Cx} {e : List Expr} {t t' : TT} (h : PTs X e t) (k : ∀ σ H Q, t' σ H Q → t σ H Q) : PTs X e t' := ⟨fun pins s σ H Q I q => h.run pins s σ H Q I (k σ H Q q)⟩
section
variable {X : Cx} {W : WX} {F0 H0 : Hp} {Γ : List S} {elt tg it tg1 it1 c : Expr} {ifs ifs1 : List Expr} {pos : Pos} {scope : Scope} {α β : Type} {xs : List α} {enc : α → D} {f : α → D} {p : α → Bool} {own : List (Str × Nat)}
  {ys : α → List β} {enc1 : β → D} {f2 : α → β → D} {p1 : α → β → Bool} {b : Bool}
theorem jts_nil : JTs X F0 H0 Γ [] true := pts_imp pts_nil fun σ H Q ⟨F, ok, q⟩ => q F H (Fz.refl ok.fh)
theorem jts_one (h : JT X F0 H0 Γ c b) : JTs X F0 H0 Γ [c] b := pts_one h
theorem je_lcA (t : Tgt) (hc : X.calm = true) (hN : X.N.Nodup) (hi : JI X F0 H0 Γ tg it (xs.map enc)) (ok : BlkOk X.N X.env.scope scope own) (hl : xs.length < 100000) (hf : ∀ a ∈ xs, t.fits (enc a))
    (hg : ∀ (s : Shared) (H : Hp) (C : Addr) (cl : List (Str × Addr)) (fp : List Addr), PG (Bk X s H scope C cl fp) tg (t.g X.K))
    (ht : ∀ a, a ∈ xs → ∀ (s : Shared) (H : Hp) (C : Addr) (cl : List (Str × Addr)) (fp : List Addr), JTs (Bk X s H scope C cl fp) F0 H0 (t.put (enc a) (wipeG Γ t.vs)) ifs (p a))
    (he : ∀ a, a ∈ xs → p a = true → ∀ (s : Shared) (H : Hp) (C : Addr) (cl : List (Str × Addr)) (fp : List Addr), JE (Bk X s H scope C cl fp) WF F0 H0 (t.put (enc a) (wipeG Γ t.vs)) elt (.v (f a)))
    (ho : own.map (·.2) = t.vs := by rfl) (hs : ∀ x, foldedSetIterable it X.env x = pure x := by intro _; rfl) :
    JE X W F0 H0 Γ (.ListComp elt [⟨tg, it, ifs, 0⟩] scope pos) (.o ((xs.filter p).map f)) := by
  refine pe_imp (pe_lc (own := own) (g := t.g X.K) (tt := fun σ H Q => ∃ a, a ∈ xs ∧ tT X.K F0 H0 (t.put (enc a) (wipeG Γ t.vs)) (p a) σ H Q) (te := fun σ H Q => ∃ a, a ∈ xs ∧ p a = true ∧ tE X.K WF F0 H0 (t.put (enc a) (wipeG Γ t.vs)) (.v (f a)) σ H Q) hc hN hi ok hg
    (fun s H C cl fp => ⟨fun pins s' σ H' Q I ⟨a, ha, q⟩ => (ht a ha s H C cl fp).run pins s' σ H' Q I q⟩)
    (fun s H C cl fp => ⟨fun pins s' σ H' Q I ⟨a, ha, hp, q⟩ => (he a ha hp s H C cl fp).run pins s' σ H' Q I q⟩) hs) ?_
  rw [ho]
  exact lcA_red hf (fun a ha σ H Q q => ⟨a, ha, q⟩) hl
theorem je_lcA0 (t : Tgt) (hc : X.calm = true) (hN : X.N.Nodup) (hi : JI X F0 H0 Γ tg it (xs.map enc)) (ok : BlkOk X.N X.env.scope scope own) (hl : xs.length < 100000) (hf : ∀ a ∈ xs, t.fits (enc a))
    (hg : ∀ (s : Shared) (H : Hp) (C : Addr) (cl : List (Str × Addr)) (fp : List Addr), PG (Bk X s H scope C cl fp) tg (t.g X.K))
    (he : ∀ a, a ∈ xs → ∀ (s : Shared) (H : Hp) (C : Addr) (cl : List (Str × Addr)) (fp : List Addr), JE (Bk X s H scope C cl fp) WF F0 H0 (t.put (enc a) (wipeG Γ t.vs)) elt (.v (f a)))
    (ho : own.map (·.2) = t.vs := by rfl) (hs : ∀ x, foldedSetIterable it X.env x = pure x := by intro _; rfl) :
    JE X W F0 H0 Γ (.ListComp elt [⟨tg, it, [], 0⟩] scope pos) (.o (xs.map f)) := by
  have h := je_lcA (W := W) (pos := pos) (ifs := []) (p := fun _ => true) t hc hN hi ok hl hf hg (fun a ha s H C cl fp => jts_nil) (fun a ha _ s H C cl fp => he a ha s H C cl fp) ho hs
  rwa [List.filter_eq_self.mpr fun _ _ => rfl] at h
/-- a new list of one's own comes to a slot: what remains -/
theorem set_own {D' : Ends} {σ : L2.St} {H : Hp} {ds : List D} (j : Nat) (h : tS X.K W F0 H0 Γ (.nx (Γ.set j (.own ds))) D' σ H) : tE X.K W F0 H0 Γ (.o ds) σ H (fun x H1 => gName j x σ H1 D'.nx) := by
  obtain ⟨F, ok, q⟩ := h
  refine ⟨F, ok, fun p xs F' H' z n1 n2 n3 d => q _ F' H' z.f (ok.setNew z j n1 n2 n3 d)⟩
theorem js_setLcA (j : Nat) {y : Str} {py2 spos : Pos} (t : Tgt) (hc : X.calm = true) (hN : X.N.Nodup) (hi : JI X F0 H0 Γ tg it (xs.map enc)) (ok : BlkOk X.N X.env.scope scope own) (hl : xs.length < 100000) (hf : ∀ a ∈ xs, t.fits (enc a))
    (hsw : swapsWith (.ListComp elt [⟨tg, it, ifs, 0⟩] scope pos) (some (.Name y py2)) spos.line X.env = pure true)
    (hg : ∀ (s : Shared) (H : Hp) (C : Addr) (cl : List (Str × Addr)) (fp : List Addr), PG (Bk X s H scope C cl fp) tg (t.g X.K))
    (ht : ∀ a, a ∈ xs → ∀ (s : Shared) (H : Hp) (C : Addr) (cl : List (Str × Addr)) (fp : List Addr), JTs (Bk X s H scope C cl fp) F0 H0 (t.put (enc a) (wipeG Γ t.vs)) ifs (p a))
    (he : ∀ a, a ∈ xs → p a = true → ∀ (s : Shared) (H : Hp) (C : Addr) (cl : List (Str × Addr)) (fp : List Addr), JE (Bk X s H scope C cl fp) WF F0 H0 (t.put (enc a) (wipeG Γ t.vs)) elt (.v (f a)))
    (ho : own.map (·.2) = t.vs := by rfl) (hy : X.N[j]? = some y := by rfl) (hyl : X.env.scope.names.lookup y = some .local := by rfl) (hs : ∀ x, foldedSetIterable it X.env x = pure x := by intro _; rfl) :
    JS X W F0 H0 Γ (.Assign [.Name y py2] (.ListComp elt [⟨tg, it, ifs, 0⟩] scope pos) spos) (.nx (Γ.set j (.own ((xs.filter p).map f)))) := by
  refine ps_imp (ps_setLc (own := own) (g := t.g X.K) (tt := fun σ H Q => ∃ a, a ∈ xs ∧ tT X.K F0 H0 (t.put (enc a) (wipeG Γ t.vs)) (p a) σ H Q) (te := fun σ H Q => ∃ a, a ∈ xs ∧ p a = true ∧ tE X.K WF F0 H0 (t.put (enc a) (wipeG Γ t.vs)) (.v (f a)) σ H Q) hc hN hy hyl hsw hi ok hg
    (fun s H C cl fp => ⟨fun pins s' σ H' Q I ⟨a, ha, q⟩ => (ht a ha s H C cl fp).run pins s' σ H' Q I q⟩)
    (fun s H C cl fp => ⟨fun pins s' σ H' Q I ⟨a, ha, hp, q⟩ => (he a ha hp s H C cl fp).run pins s' σ H' Q I q⟩) hs) fun D' σ H h => ?_
  rw [ho]
  exact lcA_red (W := W) hf (fun a ha σ H Q q => ⟨a, ha, q⟩) hl _ _ _ (set_own j h)
theorem js_setLcA0 (j : Nat) {y : Str} {py2 spos : Pos} (t : Tgt) (hc : X.calm = true) (hN : X.N.Nodup) (hi : JI X F0 H0 Γ tg it (xs.map enc)) (ok : BlkOk X.N X.env.scope scope own) (hl : xs.length < 100000) (hf : ∀ a ∈ xs, t.fits (enc a))
    (hsw : swapsWith (.ListComp elt [⟨tg, it, [], 0⟩] scope pos) (some (.Name y py2)) spos.line X.env = pure true)
    (hg : ∀ (s : Shared) (H : Hp) (C : Addr) (cl : List (Str × Addr)) (fp : List Addr), PG (Bk X s H scope C cl fp) tg (t.g X.K))
    (he : ∀ a, a ∈ xs → ∀ (s : Shared) (H : Hp) (C : Addr) (cl : List (Str × Addr)) (fp : List Addr), JE (Bk X s H scope C cl fp) WF F0 H0 (t.put (enc a) (wipeG Γ t.vs)) elt (.v (f a)))
    (ho : own.map (·.2) = t.vs := by rfl) (hy : X.N[j]? = some y := by rfl) (hyl : X.env.scope.names.lookup y = some .local := by rfl) (hs : ∀ x, foldedSetIterable it X.env x = pure x := by intro _; rfl) :
    JS X W F0 H0 Γ (.Assign [.Name y py2] (.ListComp elt [⟨tg, it, [], 0⟩] scope pos) spos) (.nx (Γ.set j (.own (xs.map f)))) := by
  have h := js_setLcA (W := W) (pos := pos) (ifs := []) (p := fun _ => true) j t hc hN hi ok hl hf hsw hg (fun a ha s H C cl fp => jts_nil) (fun a ha _ s H C cl fp => he a ha s H C cl fp) ho hy hyl hs
  rwa [List.filter_eq_self.mpr fun _ _ => rfl] at h
theorem je_lcB (t t1 : Tgt) (m : Nat) (hc : X.calm = true) (hN : X.N.Nodup) (hi : JI X F0 H0 Γ tg it (xs.map enc)) (ok : BlkOk X.N X.env.scope scope own) (hf : ∀ a ∈ xs, t.fits (enc a)) (hf1 : ∀ a ∈ xs, ∀ b ∈ ys a, t1.fits (enc1 b))
    (hl : ((xs.filter p).flatMap fun a => (ys a).filter (p1 a)).length ≤ m) (hm : m < 100000)
    (hg : ∀ (s : Shared) (H : Hp) (C : Addr) (cl : List (Str × Addr)) (fp : List Addr), PG (Bk X s H scope C cl fp) tg (t.g X.K))
    (ht : ∀ a, a ∈ xs → ∀ (s : Shared) (H : Hp) (C : Addr) (cl : List (Str × Addr)) (fp : List Addr), JTs (Bk X s H scope C cl fp) F0 H0 (t.put (enc a) (wipeG Γ (own.map (·.2)))) ifs (p a))
    (hi1 : ∀ a, a ∈ xs → p a = true → ∀ (s : Shared) (H : Hp) (C : Addr) (cl : List (Str × Addr)) (fp : List Addr), JI (Bk X s H scope C cl fp) F0 H0 (t.put (enc a) (wipeG Γ (own.map (·.2)))) tg1 it1 ((ys a).map enc1))
    (hg1 : ∀ (s : Shared) (H : Hp) (C : Addr) (cl : List (Str × Addr)) (fp : List Addr), PG (Bk X s H scope C cl fp) tg1 (t1.g X.K))
    (ht1 : ∀ a, a ∈ xs → p a = true → ∀ b, b ∈ ys a → ∀ (s : Shared) (H : Hp) (C : Addr) (cl : List (Str × Addr)) (fp : List Addr), JTs (Bk X s H scope C cl fp) F0 H0 (t1.put (enc1 b) (wipeG (t.put (enc a) (wipeG Γ (own.map (·.2)))) t1.vs)) ifs1 (p1 a b))
    (he : ∀ a, a ∈ xs → p a = true → ∀ b, b ∈ ys a → p1 a b = true → ∀ (s : Shared) (H : Hp) (C : Addr) (cl : List (Str × Addr)) (fp : List Addr), JE (Bk X s H scope C cl fp) WF F0 H0 (t1.put (enc1 b) (wipeG (t.put (enc a) (wipeG Γ (own.map (·.2)))) t1.vs)) elt (.v (f2 a b)))
    (ho : ∀ i ∈ t.vs, i ∈ own.map (·.2) := by decide) (ho1 : ∀ i ∈ t1.vs, i ∈ own.map (·.2) := by decide) (hs : ∀ x, foldedSetIterable it X.env x = pure x := by intro _; rfl) (hs1 : ∀ env x, foldedSetIterable it1 env x = pure x := by intro _ _; rfl) :
    JE X W F0 H0 Γ (.ListComp elt [⟨tg, it, ifs, 0⟩, ⟨tg1, it1, ifs1, 0⟩] scope pos) (.o ((xs.filter p).flatMap fun a => ((ys a).filter (p1 a)).map (f2 a))) :=
  pe_imp (pe_lc2 (own := own) (vs1 := t1.vs) (g := t.g X.K) (g1 := t1.g X.K) (tt := fun σ H Q => ∃ a, a ∈ xs ∧ tT X.K F0 H0 (t.put (enc a) (wipeG Γ (own.map (·.2)))) (p a) σ H Q)
      (wi1 := fun σ H R => ∃ a, a ∈ xs ∧ p a = true ∧ tI X.K F0 H0 (t.put (enc a) (wipeG Γ (own.map (·.2)))) ((ys a).map enc1) σ H R)
      (tt1 := fun σ H Q => ∃ a, a ∈ xs ∧ p a = true ∧ ∃ b, b ∈ ys a ∧ tT X.K F0 H0 (t1.put (enc1 b) (wipeG (t.put (enc a) (wipeG Γ (own.map (·.2)))) t1.vs)) (p1 a b) σ H Q)
      (te := fun σ H Q => ∃ a b, a ∈ xs ∧ p a = true ∧ b ∈ ys a ∧ p1 a b = true ∧ tE X.K WF F0 H0 (t1.put (enc1 b) (wipeG (t.put (enc a) (wipeG Γ (own.map (·.2)))) t1.vs)) (.v (f2 a b)) σ H Q) hc hN hi ok ho1 hg
    (fun s H C cl fp => ⟨fun pins s' σ H' Q I ⟨a, ha, q⟩ => (ht a ha s H C cl fp).run pins s' σ H' Q I q⟩)
    (fun s H C cl fp => ⟨fun pins s' σ H' R I ⟨a, ha, hp, q⟩ => (hi1 a ha hp s H C cl fp).run pins s' σ H' R I q⟩) hg1
    (fun s H C cl fp => ⟨fun pins s' σ H' Q I ⟨a, ha, hp, b, hb, q⟩ => (ht1 a ha hp b hb s H C cl fp).run pins s' σ H' Q I q⟩)
    (fun s H C cl fp => ⟨fun pins s' σ H' Q I ⟨a, b, ha, hp, hb, hp1, q⟩ => (he a ha hp b hb hp1 s H C cl fp).run pins s' σ H' Q I q⟩) hs hs1)
  (lcB_red ho hf hf1 ho1 (fun a ha σ H Q q => ⟨a, ha, q⟩) (fun a ha hp σ H R q => ⟨a, ha, hp, q⟩) (fun a ha hp b hb σ H Q q => ⟨a, ha, hp, b, hb, q⟩) hl hm)
theorem js_setLcB (j : Nat) {y : Str} {py2 spos : Pos} (t t1 : Tgt) (m : Nat) (hc : X.calm = true) (hN : X.N.Nodup) (hi : JI X F0 H0 Γ tg it (xs.map enc)) (ok : BlkOk X.N X.env.scope scope own) (hf : ∀ a ∈ xs, t.fits (enc a)) (hf1 : ∀ a ∈ xs, ∀ b ∈ ys a, t1.fits (enc1 b))
    (hl : ((xs.filter p).flatMap fun a => (ys a).filter (p1 a)).length ≤ m) (hm : m < 100000)
    (hsw : swapsWith (.ListComp elt [⟨tg, it, ifs, 0⟩, ⟨tg1, it1, ifs1, 0⟩] scope pos) (some (.Name y py2)) spos.line X.env = pure true)
    (hg : ∀ (s : Shared) (H : Hp) (C : Addr) (cl : List (Str × Addr)) (fp : List Addr), PG (Bk X s H scope C cl fp) tg (t.g X.K))
    (ht : ∀ a, a ∈ xs → ∀ (s : Shared) (H : Hp) (C : Addr) (cl : List (Str × Addr)) (fp : List Addr), JTs (Bk X s H scope C cl fp) F0 H0 (t.put (enc a) (wipeG Γ (own.map (·.2)))) ifs (p a))
    (hi1 : ∀ a, a ∈ xs → p a = true → ∀ (s : Shared) (H : Hp) (C : Addr) (cl : List (Str × Addr)) (fp : List Addr), JI (Bk X s H scope C cl fp) F0 H0 (t.put (enc a) (wipeG Γ (own.map (·.2)))) tg1 it1 ((ys a).map enc1))
    (hg1 : ∀ (s : Shared) (H : Hp) (C : Addr) (cl : List (Str × Addr)) (fp : List Addr), PG (Bk X s H scope C cl fp) tg1 (t1.g X.K))
    (ht1 : ∀ a, a ∈ xs → p a = true → ∀ b, b ∈ ys a → ∀ (s : Shared) (H : Hp) (C : Addr) (cl : List (Str × Addr)) (fp : List Addr), JTs (Bk X s H scope C cl fp) F0 H0 (t1.put (enc1 b) (wipeG (t.put (enc a) (wipeG Γ (own.map (·.2)))) t1.vs)) ifs1 (p1 a b))
    (he : ∀ a, a ∈ xs → p a = true → ∀ b, b ∈ ys a → p1 a b = true → ∀ (s : Shared) (H : Hp) (C : Addr) (cl : List (Str × Addr)) (fp : List Addr), JE (Bk X s H scope C cl fp) WF F0 H0 (t1.put (enc1 b) (wipeG (t.put (enc a) (wipeG Γ (own.map (·.2)))) t1.vs)) elt (.v (f2 a b)))
    (ho : ∀ i ∈ t.vs, i ∈ own.map (·.2) := by decide) (ho1 : ∀ i ∈ t1.vs, i ∈ own.map (·.2) := by decide) (hy : X.N[j]? = some y := by rfl) (hyl : X.env.scope.names.lookup y = some .local := by rfl) (hs : ∀ x, foldedSetIterable it X.env x = pure x := by intro _; rfl) (hs1 : ∀ env x, foldedSetIterable it1 env x = pure x := by intro _ _; rfl) :
    JS X W F0 H0 Γ (.Assign [.Name y py2] (.ListComp elt [⟨tg, it, ifs, 0⟩, ⟨tg1, it1, ifs1, 0⟩] scope pos) spos) (.nx (Γ.set j (.own ((xs.filter p).flatMap fun a => ((ys a).filter (p1 a)).map (f2 a))))) :=
  ps_imp (ps_setLc2 (own := own) (vs1 := t1.vs) (g := t.g X.K) (g1 := t1.g X.K) (tt := fun σ H Q => ∃ a, a ∈ xs ∧ tT X.K F0 H0 (t.put (enc a) (wipeG Γ (own.map (·.2)))) (p a) σ H Q)
      (wi1 := fun σ H R => ∃ a, a ∈ xs ∧ p a = true ∧ tI X.K F0 H0 (t.put (enc a) (wipeG Γ (own.map (·.2)))) ((ys a).map enc1) σ H R)
      (tt1 := fun σ H Q => ∃ a, a ∈ xs ∧ p a = true ∧ ∃ b, b ∈ ys a ∧ tT X.K F0 H0 (t1.put (enc1 b) (wipeG (t.put (enc a) (wipeG Γ (own.map (·.2)))) t1.vs)) (p1 a b) σ H Q)
      (te := fun σ H Q => ∃ a b, a ∈ xs ∧ p a = true ∧ b ∈ ys a ∧ p1 a b = true ∧ tE X.K WF F0 H0 (t1.put (enc1 b) (wipeG (t.put (enc a) (wipeG Γ (own.map (·.2)))) t1.vs)) (.v (f2 a b)) σ H Q) hc hN hy hyl hsw hi ok ho1 hg
    (fun s H C cl fp => ⟨fun pins s' σ H' Q I ⟨a, ha, q⟩ => (ht a ha s H C cl fp).run pins s' σ H' Q I q⟩)
    (fun s H C cl fp => ⟨fun pins s' σ H' R I ⟨a, ha, hp, q⟩ => (hi1 a ha hp s H C cl fp).run pins s' σ H' R I q⟩) hg1
    (fun s H C cl fp => ⟨fun pins s' σ H' Q I ⟨a, ha, hp, b, hb, q⟩ => (ht1 a ha hp b hb s H C cl fp).run pins s' σ H' Q I q⟩)
    (fun s H C cl fp => ⟨fun pins s' σ H' Q I ⟨a, b, ha, hp, hb, hp1, q⟩ => (he a ha hp b hb hp1 s H C cl fp).run pins s' σ H' Q I q⟩) hs hs1)
  fun D' σ H h => lcB_red (W := W) ho hf hf1 ho1 (fun a ha σ H Q q => ⟨a, ha, q⟩) (fun a ha hp σ H R q => ⟨a, ha, hp, q⟩) (fun a ha hp b hb σ H Q q => ⟨a, ha, hp, b, hb, q⟩) hl hm _ _ _ (set_own j h)
theorem ji_is {ds es : List D} (h : JI X F0 H0 Γ tg it ds) (e : ds = es) : JI X F0 H0 Γ tg it es := e ▸ h
/-- the target's names -/
theorem fits_one {i : Nat} {d : D} : (Tgt.one i).fits d := trivial
theorem fits_tup {is : List Nat} {ds : List D} (h : ds.length = is.length) : (Tgt.many is).fits (.tuple ds) := ⟨ds, rfl, h⟩
end
end TB

namespace TB
open PySem L2 PySem.Spec PyProof.Rows
/-! ### the greatest associate by its first part -/
def firstL : List Int → List Int → Int
  | [a, b, c, d], [e, f, g, h] => a * e - b * f - c * g - d * h
  | _, _ => 0
theorem zip_maps {α β γ : Type} (f : α → β) (g : α → γ) : ∀ l : List α, (l.map f).zip (l.map g) = l.map fun a => (f a, g a)
  | [] => rfl
  | a :: l => by rw [List.map_cons, List.map_cons, List.zip_cons_cons, zip_maps f g l, List.map_cons]
theorem first_mul {x u : List Int} (hx : isNum x = true) (hu : isNum u = true) : ∃ r, mulL x u = (firstL x u / 2) :: r ∧ firstL x u % 2 = 0 := by
  obtain ⟨a, b, c, d, rfl⟩ := four (num_len hx)
  obtain ⟨e, f, g, h, rfl⟩ := four (num_len hu)
  obtain ⟨p, q, r, s, pr, _, em⟩ := mul_pr ((isNum4 _ _ _ _).mp hx) ((isNum4 _ _ _ _).mp hu)
  refine ⟨_, rfl, ?_⟩
  show (a * e - b * f - c * g - d * h) % 2 = 0
  have h1 : mulL [a, b, c, d] [e, f, g, h] = (a * e - b * f - c * g - d * h) / 2 :: _ := rfl
  have h2 := pr
  unfold Pr at h2
  omega
theorem max_int (xs : List Int) (x : Int) : ∃ m ∈ x :: xs, PySem.W.maxD (.int x) (xs.map .int) = .int m ∧ ∀ y ∈ x :: xs, y ≤ m := by
  have lt : ∀ a b : Int, PySem.W.dataLt (.int a) (.int b) = decide (a < b) := PySem.W.dataLt_int
  obtain ⟨m, h1, h2, h3⟩ := max_spec (enc := PyData.int) (fun a => by rw [lt]; exact decide_eq_false (Int.lt_irrefl a)) (fun a b h => by
      rw [lt] at h ⊢
      have h' : a < b := of_decide_eq_true h
      exact decide_eq_false (by omega)) (fun a b c h g => by
      rw [lt] at h g ⊢
      have h' : ¬ a < b := of_decide_eq_false h
      have g' : ¬ b < c := of_decide_eq_false g
      exact decide_eq_false (by omega)) xs x
  refine ⟨m, h1, h2, fun y hy => ?_⟩
  have h3' := h3 y hy
  rw [lt] at h3'
  have h' : ¬ m < y := of_decide_eq_false h3'
  omega
theorem max_first {x : List Int} (hx : isNum x = true) (h0 : zeroB x = false) {M : Int} (hM : M ∈ unitsL.map (firstL x)) (hm : ∀ y ∈ unitsL.map (firstL x), y ≤ M) :
    ∃ v vs, unitsL.filter (fun u => decide (firstL x u = M)) = v :: vs ∧ PySem.W.maxD (pd (mulL x) v) (vs.map (pd (mulL x))) = pd (mulL x) (leadU x) := by
  obtain ⟨u0, hu0, e0⟩ := List.mem_map.mp hM
  have hin : u0 ∈ unitsL.filter (fun u => decide (firstL x u = M)) := List.mem_filter.mpr ⟨hu0, decide_eq_true e0⟩
  cases hfl : unitsL.filter (fun u => decide (firstL x u = M)) with
  | nil =>
    rw [hfl] at hin
    cases hin
  | cons v vs =>
    obtain ⟨m, h1, h2, h3⟩ := max_pd (mulL x) vs v
    refine ⟨v, vs, rfl, ?_⟩
    rw [h2]
    have hmf : m ∈ unitsL.filter (fun u => decide (firstL x u = M)) := by rw [hfl]; exact h1
    obtain ⟨hmu, hme⟩ := List.mem_filter.mp hmf
    have hme' : firstL x m = M := of_decide_eq_true hme
    have e : m = leadU x := lead_eq hx h0 hmu (canon_eq (List.mem_map_of_mem hmu) fun y hy => by
      obtain ⟨u, hu, rfl⟩ := List.mem_map.mp hy
      by_cases hue : firstL x u = M
      · exact h3 u (by rw [← hfl]; exact List.mem_filter.mpr ⟨hu, decide_eq_true hue⟩)
      · have lt : firstL x u < firstL x m := by
          have := hm _ (List.mem_map_of_mem (f := firstL x) hu)
          omega
        obtain ⟨r1, e1, p1⟩ := first_mul hx (u_num hu)
        obtain ⟨r2, e2, p2⟩ := first_mul hx (u_num hmu)
        rw [e1, e2]
        refine List.not_lt.mp fun q => ?_
        rcases List.cons_lt_cons_iff.mp q with q | ⟨q, _⟩ <;> omega)
    rw [e]
theorem alike_all_int (xs : List Int) : PySem.W.AlikeAll (xs.map PyData.int) := by
  constructor
  · intro x hx y hy
    obtain ⟨a, _, rfl⟩ := List.mem_map.mp hx
    obtain ⟨b, _, rfl⟩ := List.mem_map.mp hy
    show PySem.W.alike (.int a) (.int b) = true
    simp only [PySem.W.alike]
  · intro x hx
    obtain ⟨a, _, rfl⟩ := List.mem_map.mp hx
    exact fun e => by cases e
theorem depth_all_int (xs : List Int) : PyData.depthAll (xs.map PyData.int) ≤ 60 := by
  rw [PySem.W.depth_ints]
  decide
def R_ga : List D → Out → Prop := fun ds o => ∃ d ns, ds = [d] ∧ Seq d ns ∧ isNum ns = true ∧ zeroB ns = false ∧ Sm 300000 ns ∧ o = .v (pd (mulL ns) (leadU ns))
end TB

namespace TB
open PySem L2 PySem.Spec PyProof.Rows
/-! ### k16: sums of two -/
section
variable {X : Cx} {W : WX} {F0 H0 : Hp} {Γ : List S} {e : Expr} {pos p1 p2 p3 : Pos} {kk : Nat} {ds : List D}
theorem da_rev {K : PySem.W.Frag} {F : Hp} : ∀ {xs : List V} {ds : List D}, DpAll K F xs ds → DpAll K F xs.reverse ds.reverse
  | _, [], h => by cases h; exact .nil
  | _, d :: ds, h => by
    cases h with
    | cons h1 h2 =>
      rw [List.reverse_cons, List.reverse_cons]
      exact da_app (da_rev h2) (.cons h1 .nil)
theorem je_revL (h : JE X W F0 H0 Γ e (.v (.list ds))) : JE X W F0 H0 Γ (.Subscript e (.Slice none none (some (.UnaryOp .USub (.Constant (.int 1) kk p1) p2)) p3) pos) (.o ds.reverse) :=
  pe_imp (pe_revL h) fun σ H Q ⟨F, ok, q⟩ => ⟨F, ok, fun v F1 H1 z1 d1 => by
    cases d1 with
    | lst h1 h2 => exact ⟨_, _, rfl, sl_ex z1.s h1, po_lst z1.s (da_rev h2) (po_mono z1 (show Po X.K F H Q E0 (.o ds.reverse) from q))⟩⟩
end
theorem cmF_ok2 {f x : List Int} {m : Nat} (gf : G m f) (gx : G 250 x) (hm : 250 ≤ m) : G (m + 30) (cmF f x) ∧ (zeroB (cmF f x) = true ↔ zeroB f = true ∧ zeroB x = true) := by
  unfold cmF
  cases hz : zeroB x with
  | true =>
    rw [if_pos rfl]
    exact ⟨gf.up (by omega), ⟨fun h => ⟨h, rfl⟩, fun h => h.1⟩⟩
  | false =>
    rw [if_neg Bool.false_ne_true]
    have h0 : ¬ (zeroB f = true ∧ zeroB x = true) := by rw [hz]; exact fun h => Bool.noConfusion h.2
    refine ⟨lgcd_G gf (gx.up hm) h0, ⟨fun h => ?_, fun h => Bool.noConfusion h.2⟩⟩
    rw [(lgcd_spec gf.num gx.num h0).2.1] at h
    cases h
theorem cmK_ok2 {xs : List (List Int)} (hx : ∀ x ∈ xs, G 250 x) : ∀ k, k ≤ xs.length → G (250 + 30 * k) (cmK xs k) ∧ (zeroB (cmK xs k) = true ↔ ∀ j, j < k → zeroB (xs.getD j []) = true)
  | 0, _ => ⟨(show G 250 zer4 from ⟨num_zero4, fun z hz => by
      have hz' : z = 0 := by simpa [zer4] using hz
      subst hz'
      exact Nat.two_pow_pos _⟩), ⟨fun _ j hj => absurd hj (Nat.not_lt_zero _), fun _ => rfl⟩⟩
  | k + 1, hk => by
    obtain ⟨g, i⟩ := cmK_ok2 hx k (by omega)
    obtain ⟨g2, i2⟩ := cmF_ok2 g (hx _ (getD_mem (by omega : k < xs.length))) (by omega)
    rw [cmK_succ (by omega)]
    refine ⟨g2.up (by omega), i2.trans ⟨fun ⟨h1, h2⟩ j hj => ?_, fun h => ⟨i.mpr fun j hj => h j (by omega), h k (by omega)⟩⟩⟩
    by_cases e : j = k
    · rw [e]; exact h2
    · exact i.mp h1 j (by omega)
def R_co2 (c q : Addr) : List D → Out → Prop := fun ds o => ∃ xs : List (List Int), ds = [.list (xs.map ti)] ∧ xs.length ≤ 10 ∧ (∀ x ∈ xs, x.length < 1000 ∧ Sm 250 x) ∧ o = if xs.all isNum = true then (if zeroB (cmK xs xs.length) = true then .x q else .v (ti (cmK xs xs.length))) else .x c
theorem gall_one {x : List Int} (hx : isNum x = true) (h0 : zeroB x = false) : GAll (fun y => y = x) (lgcd x zer4) := by
  have hz : ¬ (zeroB x = true ∧ zeroB zer4 = true) := by rw [h0]; exact fun h => Bool.noConfusion h.1
  have sp := lgcd_spec hx num_zero4 hz
  exact ⟨sp.1, fun y hy => by rw [hy]; exact sp.2.2.1, fun d hd h => gcd_great sp hd (h x rfl) (ldiv_zero hd)⟩
theorem gall_lg {S : List Int → Prop} {f x : List Int} (h : GAll S f) (f0 : zeroB f = false) (hx : isNum x = true) : GAll (fun y => S y ∨ y = x) (lgcd f x) ∧ zeroB (lgcd f x) = false ∧ canonL (lgcd f x) = lgcd f x := by
  have hz : ¬ (zeroB f = true ∧ zeroB x = true) := by rw [f0]; exact fun h => Bool.noConfusion h.1
  have sp := lgcd_spec h.num hx hz
  refine ⟨⟨sp.1, fun y hy => ?_, fun d hd g => gcd_great sp hd (h.great d hd fun y hy => g y (.inl hy)) (g x (.inr rfl))⟩, sp.2.1, lgcd_canon h.num hx hz⟩
  rcases hy with hy | rfl
  · exact LDiv.trans sp.1 sp.2.2.1 (h.div y hy)
  · exact sp.2.2.2.1
noncomputable def lgK (e : List Int) (xs : List (List Int)) (k : Nat) : List Int := (xs.take k).foldl lgcd e
theorem lgK_succ {e : List Int} {xs : List (List Int)} {k : Nat} (h : k < xs.length) : lgK e xs (k + 1) = lgcd (lgK e xs k) (xs.getD k []) := by
  unfold lgK
  rw [List.take_succ, List.getElem?_eq_getElem h, List.foldl_append]
  simp [List.getD_eq_getElem?_getD, List.getElem?_eq_getElem h]
theorem lgK_ok {x : List Int} {xs : List (List Int)} (gx : G 250 x) (h0 : zeroB x = false) (hx : ∀ y ∈ xs, G 250 y) : ∀ k, k ≤ xs.length → G (280 + 30 * k) (lgK (lgcd x zer4) xs k) ∧ GAll (fun y => y = x ∨ y ∈ xs.take k) (lgK (lgcd x zer4) xs k) ∧ zeroB (lgK (lgcd x zer4) xs k) = false ∧ canonL (lgK (lgcd x zer4) xs k) = lgK (lgcd x zer4) xs k
  | 0, _ => by
    have hz : ¬ (zeroB x = true ∧ zeroB zer4 = true) := by rw [h0]; exact fun h => Bool.noConfusion h.1
    have gz : G 250 zer4 := ⟨num_zero4, fun z hz => by
      have hz' : z = 0 := by simpa [zer4] using hz
      subst hz'
      exact Nat.two_pow_pos _⟩
    have g := gall_one gx.num h0
    refine ⟨lgcd_G gx gz hz, ⟨g.num, fun y hy => ?_, fun d hd h => g.great d hd fun y hy => h y (.inl hy)⟩, (lgcd_spec gx.num num_zero4 hz).2.1, lgcd_canon gx.num num_zero4 hz⟩
    rcases hy with hy | hy
    · exact g.div y hy
    · simp at hy
  | k + 1, hk => by
    obtain ⟨g, a, z, c⟩ := lgK_ok gx h0 hx k (by omega)
    have hk' : k < xs.length := by omega
    have gy := hx _ (getD_mem hk')
    obtain ⟨a2, z2, c2⟩ := gall_lg a z gy.num
    have hz : ¬ (zeroB (lgK (lgcd x zer4) xs k) = true ∧ zeroB (xs.getD k []) = true) := by rw [z]; exact fun h => Bool.noConfusion h.1
    rw [lgK_succ hk']
    refine ⟨(lgcd_G (m := 280 + 30 * k) g (gy.up (by omega)) hz).up (by omega), ⟨a2.num, fun y hy => a2.div y ?_, fun d hd h => a2.great d hd fun y hy => h y ?_⟩, z2, c2⟩
    · rcases hy with hy | hy
      · exact .inl (.inl hy)
      · rw [List.take_succ, List.getElem?_eq_getElem hk'] at hy
        rcases List.mem_append.mp hy with hy | hy
        · exact .inl (.inr hy)
        · refine .inr ?_
          have e : y = xs[k] := by simpa using hy
          rw [e]
          simp [List.getD_eq_getElem?_getD, List.getElem?_eq_getElem hk']
    · rcases hy with (hy | hy) | hy
      · exact .inl hy
      · refine .inr ?_
        rw [List.take_succ]
        exact List.mem_append_left _ hy
      · refine .inr ?_
        rw [List.take_succ, List.getElem?_eq_getElem hk', hy]
        refine List.mem_append_right _ ?_
        simp [List.getD_eq_getElem?_getD, List.getElem?_eq_getElem hk']
theorem lgK_cm {x : List Int} {xs : List (List Int)} (gx : G 250 x) (h0 : zeroB x = false) (hx : ∀ y ∈ xs, G 250 y) (hm : x ∈ xs) : zeroB (cmK xs xs.length) = false ∧ canonL (cmK xs xs.length) = cmK xs xs.length ∧ lgK (lgcd x zer4) xs xs.length = cmK xs xs.length := by
  have hn : ∀ y ∈ xs, isNum y = true := fun y hy => (hx y hy).num
  obtain ⟨_, a, z, c⟩ := lgK_ok gx h0 hx xs.length (Nat.le_refl _)
  have b := cmK_gall hn xs.length (Nat.le_refl _)
  rw [List.take_length] at a b
  have z2 : zeroB (cmK xs xs.length) = false := by
    cases q : zeroB (cmK xs xs.length) with
    | false => rfl
    | true =>
      obtain ⟨i, hi, e⟩ := List.mem_iff_getElem.mp hm
      have r := (cmK_ok2 hx xs.length (Nat.le_refl _)).2.mp q i hi
      have e2 : xs.getD i [] = x := by rw [← e]; simp [List.getD_eq_getElem?_getD, List.getElem?_eq_getElem hi]
      rw [e2, h0] at r
      cases r
  have c2 := cmK_self hn xs.length (Nat.le_refl _) z2
  have a' : GAll (fun y => y ∈ xs) (lgK (lgcd x zer4) xs xs.length) := ⟨a.num, fun y hy => a.div y (.inr hy), fun d hd h => a.great d hd fun y hy => by
    rcases hy with rfl | hy
    · exact h _ hm
    · exact h y hy⟩
  refine ⟨z2, c2, ?_⟩
  rw [← c, ← c2]
  exact gall_canon a' b z
def R_is (m : Nat) : List D → Out → Prop := fun ds o => ∃ a b x : List Int, ds = [ti a, ti b, ti x] ∧ G 150 a ∧ G 150 b ∧ G m x ∧ ¬ (zeroB a = true ∧ zeroB b = true) ∧ o = .v (.bool (zeroB (remLft x (lgcd a b))))
def R_bs (m : Nat) : List D → Out → Prop := fun ds o => ∃ a b x s t : List Int, ds = [ti a, ti b, ti x] ∧ G 150 a ∧ G 150 b ∧ G m x ∧ ¬ (zeroB a = true ∧ zeroB b = true) ∧ lsumL a b = .tuple [ti (lgcd a b), ti s, ti t] ∧ G 101000 s ∧ G 101000 t ∧
  o = .v (if zeroB (remLft x (lgcd a b)) = true then .tuple [ti (mulL s (quoLft x (lgcd a b))), ti (mulL t (quoLft x (lgcd a b)))] else .none)
/-- the quotient, where nothing remains -/
theorem quo_back {a d : List Int} (ha : isNum a = true) (hd : isNum d = true) (h0 : zeroB d = false) (h : zeroB (remLft a d) = true) : isNum (quoLft a d) = true ∧ a = mulL d (quoLft a d) := by
  have q := (rem_lft ha hd h0).1
  exact ⟨q, sub_zero ha (num_mul hd q) h⟩
theorem sums_back {a b s t d x : List Int} (ha : isNum a = true) (hb : isNum b = true) (hs : isNum s = true) (ht : isNum t = true) (hx : isNum x = true) (hd : isNum d = true) (h0 : zeroB d = false) (e : addL (mulL a s) (mulL b t) = d) (h : zeroB (remLft x d) = true) :
    addL (mulL a (mulL s (quoLft x d))) (mulL b (mulL t (quoLft x d))) = x := by
  obtain ⟨hq, ex⟩ := quo_back hx hd h0 h
  rw [← mul_asc ha hs hq, ← mul_asc hb ht hq, ← mul_addl (num_mul ha hs) (num_mul hb ht) hq, e]
  exact ex.symm
theorem sum_told {a b x y : List Int} (ha : isNum a = true) (hb : isNum b = true) (hx : isNum x = true) (hy : isNum y = true) (hz : ¬ (zeroB a = true ∧ zeroB b = true)) : zeroB (remLft (addL (mulL a x) (mulL b y)) (lgcd a b)) = true := by
  have sp := lgcd_spec ha hb hz
  exact (ldiv_iff (num_add (num_mul ha hx) (num_mul hb hy)) sp.1 sp.2.1).mpr (LDiv.add sp.1 (LDiv.mul sp.1 hx sp.2.2.1) (LDiv.mul sp.1 hy sp.2.2.2.1))
end TB
namespace TB
open PySem L2 PySem.Spec PyProof.Rows
section
variable {X : Cx} {W : WX} {F0 H0 : Hp} {Γ : List S} {a b : Expr} {x : D} {pos : Pos}
def isNone : D → Bool
  | .none => true
  | _ => false
theorem rd_isN2 {K : PySem.W.Frag} : RD K (fun x y H Q => y = .non ∧ Q (.bl (decide (x = .non))) H) x .none (.bool (isNone x)) := fun v u F H Q s d1 d2 q => by
  cases d2
  refine ⟨rfl, q _ F H (Fz.refl s) ?_⟩
  cases d1 <;> exact .bl _
theorem je_isN (ha : JE X W F0 H0 Γ a (.v x)) (hb : JE X W F0 H0 Γ b (.v .none)) : JE X W F0 H0 Γ (.Compare a [.Is] [b] pos) (.v (.bool (isNone x))) := je_cmp op_isN rd_isN2 ha hb (nomark _)
theorem jt_isN (ha : JE X WF F0 H0 Γ a (.v x)) (hb : JE X WF F0 H0 Γ b (.v .none)) : JT X F0 H0 Γ (.Compare a [.Is] [b] pos) (isNone x) := jt_cmp op_isN rd_isN2 ha hb (nomark _)
end
end TB

namespace TB
open PySem L2 PySem.Spec PyProof.Rows
/-! ### repr of data: defs that run where no repr is under way -/
section
variable {P : Program} {w : World} {K : PySem.W.Frag} {mg : Str → Option Value} {base : Heap}
/-- a promise kept wherever no repr is under way -/
structure FnG (P : Program) (w : World) (K : PySem.W.Frag) (mg : Str → Option Value) (base : Heap) (k : Nat) (f : Addr) (fd : FuncData) (ps : List Str) (sp : Sp) : Prop where
  len : ∀ vs H Q E, sp vs H Q E → vs.length = ps.length
  run : ∀ (A : Around) (outer : List Env) (s : Shared) (H : Hp) (args : Args) (us : List Value) (vs : List V) (Q : VK) (E : XK),
    A.guards = some [] → Room k A → Env0 P w K mg base A outer s H → BindsTo s fd args (ps.zip us) → Vals vs us → sp vs H Q E →
    codeAny (model P w) A (.call (.ref f) args) (CR (L2.CX P w) outer P w H s Q E) s
/-- a def of the text by its body, run there -/
theorem fnG_of {x qual : Str} {st : Stmt} {f : Addr} {fd : FuncData} {N ps : List Str} {k : Nat} {sp : Sp} (Fn : Fun K x qual st f fd) (Sc : FnScope N ps (defScope st)) (len : ∀ vs H Q E, sp vs H Q E → vs.length = ps.length)
    (body : ∀ (cdv : Value) (A : Around) (outer : List Env) (s : Shared) (H : Hp) (vs : List V) (Q : VK) (E : XK), A.guards = some [] →
      Room k (A.deeper (PyProof.Rows.envOfC qual (defScope st) s.heap.objs.size f cdv)) → sp vs H Q E →
      ∃ t, PSs (XO P w K mg base N qual st f cdv A outer s H E) (defBody st) t ∧ t { nx := fun _ H' => Q .non H', rt := Q } (L2.start N vs) H) :
    FnG P w K mg base (k + 1) f fd ps sp := by
  obtain ⟨_, _, _, _, _, _, cdv, _, _, rfl, look, code⟩ := Fn.ex
  refine ⟨len, ?_⟩
  intro A outer s H args us vs Q E gd room env bind vals want
  have lenv : vs.length = ps.length := len _ _ _ _ want
  have inK : K.In s.heap := env.mod.kin.keeps (fun b o e => (env.bs b o e).1)
  have noL : s.heap.NoLimit := env.mod.nolimit.keeps (fun b o e => (env.bs b o e).1)
  have kinds : ∀ y ∈ ps.zip us, (defScope st).names.lookup y.1 = some .local ∨
      ((defScope st).names.lookup y.1 = some .cell ∧ ((cellsFrom (s.heap.objs.size + 1) (defScope st).names []).lookup y.1).isSome = true) := by
    rintro ⟨n, v⟩ hy
    cases Sc.par n (List.of_mem_zip hy).1 with
    | inl q => exact .inl q
    | inr q => exact .inr ⟨q, PySem.W.cellsFrom_some _ _ _ (.inl q)⟩
  apply codeAny_call_function room.depth (inK _ _ look) rfl Sc.co Sc.gen rfl (PySem.W.codeRec_of inK code) (bind _ _ _ _ ?_)
  apply wpAny_newFunctionEnv_cells Sc.kind kinds
  intro en hen s1 started
  subst hen
  refine ⟨noL.keeps started.toInCall.keep, codeAny_func ?_⟩
  obtain ⟨t, run, need⟩ := body cdv A outer s H vs Q E gd (room.deeper _) want
  have I0 := inv_start (CX := L2.CX P w) (cd := cdv) (f := f) (qual := qual) (E := E) Sc room.hd env lenv vals started
  refine wpAny_mono (run.run [] s1 (L2.start N vs) H _ I0 need) (fun flow s' got => ?_) (fun _ _ got => got)
  cases flow with
  | ret u =>
    obtain ⟨v, _, H', J, rv, q⟩ := got
    exact ⟨v, H', J.os, J.bare, J.base, J.hok, rv, q⟩
  | next =>
    obtain ⟨_, H', J, q⟩ := got
    exact ⟨.non, H', J.os, J.bare, J.base, J.hok, rfl, q⟩
  | brk => exact (got.elim fun _ h => h.elim fun _ h => h.2.elim)
  | cont => exact (got.elim fun _ h => h.elim fun _ h => h.2.elim)
theorem fn_okG {x qual : Str} {st : Stmt} {f : Addr} {fd : FuncData} {N ps : List Str} {k : Nat} {R : List D → Out → Prop} (Fn : Fun K x qual st f fd) (Sc : FnScope N ps (defScope st)) (hlen : ∀ ds o, R ds o → ds.length = ps.length)
    (hb : ∀ (cdv : Value) (A : Around) (outer : List Env) (s : Shared) (H : Hp) (E : XK) (F : Hp) (ds : List D) (o : Out), A.guards = some [] → Room k (A.deeper (PyProof.Rows.envOfC qual (defScope st) s.heap.objs.size f cdv)) →
      L2.Takes (XO P w K mg base N qual st f cdv A outer s H E) (fun cls d _ H => E cls d H) → PassesOwn (model P w) (XO P w K mg base N qual st f cdv A outer s H E).A (XO P w K mg base N qual st f cdv A outer s H E).env (XO P w K mg base N qual st f cdv A outer s H E).xe → R ds o →
      ∃ so, JSs (XO P w K mg base N qual st f cdv A outer s H E) (fun cls d _ H => E cls d H) F H (begin_ N ds) (defBody st) so ∧ Fits o so) : FnG P w K mg base (k + 1) f fd ps (spD K R) := by
  refine fnG_of Fn Sc (fun vs H Q E ⟨F, ds, o, _, d, r, _⟩ => (da_len d).trans (hlen ds o r)) fun cdv A outer s H vs Q E hgd hr ⟨F, ds, o, s1, d, r, po⟩ => ?_
  obtain ⟨so, j, ft⟩ := hb cdv A outer s H E F ds o hgd hr (takes_of rfl rfl rfl rfl) (passes_of (E₁ := fun e' s'' => L2.CX P w outer H s E e' s'') rfl) r
  refine ⟨_, j, F, ok_start s1 d, ?_⟩
  exact fits_po po ft
end
/-! ### repr -/
/-- data that are written out -/
structure Shown (d : D) : Prop where
  s : d.showable = true
  n : d.hasDict = false
  l : d.shown.length ≤ sizeLine
  dp : d.depth ≤ 60
  t : ∀ x, d ≠ .str x
def rReprD (K : PySem.W.Frag) : List V → Hp → VK → Prop := fun vs H Q => ∃ v d, vs = [v] ∧ Dp K H v d ∧ Shown d ∧ Q (.str d.shown) H
theorem cr_repr {X : Cx} (hg : X.A.guards = some []) (hu : X.A.units + 64 < cLine) : CallR X (.builtin "repr") (rReprD X.K) := by
  rintro pins s σ H _ us Q I r ⟨v, d, rfl, dp, sh, q⟩
  have depth := sh.dp
  cases r with
  | cons rv r2 =>
    cases r2
    obtain ⟨as, rd⟩ := Dp.reads I _ _ _ dp rv
    cases dp with
    | non =>
      cases rv
      exact PySem.P.repr_of_none ⟨.str _, H, I.tok _, ⟨_, rfl⟩, q⟩
    | bl b =>
      cases rv
      refine PySem.P.repr_of_bool ⟨.str (PyData.shown (.bool b)), H, I.tok _, ⟨_, rfl⟩, ?_⟩
      cases b <;> exact q
    | int i =>
      obtain ⟨t, rfl⟩ := rv
      refine PySem.P.repr_of_int (of_decide_eq_true sh.s) ⟨.str _, H, I.tok _, ⟨_, rfl⟩, ?_⟩
      exact q
    | str x => exact absurd rfl (sh.t x)
    | lst h1 h2 =>
      cases rv
      exact repr_of_reads' rd sh.s (PyData.noDict_hsm sh.n) hg (by omega) (fun _ _ e => e) (fun h' u tk hk => ⟨.str _, H, I.kept hk, ⟨_, rfl⟩, q⟩) sh.l
    | tup h1 h2 =>
      cases rv
      exact repr_of_reads' rd sh.s (PyData.noDict_hsm sh.n) hg (by omega) (fun _ _ e => e) (fun h' u tk hk => ⟨.str _, H, I.kept hk, ⟨_, rfl⟩, q⟩) sh.l
section
variable {X : Cx} {W : WX} {F0 H0 : Hp} {Γ : List S} {e : Expr} {pos np : Pos} {x : D}
theorem je_repr (hgd : X.A.guards = some []) (hu : X.A.units + 64 < cLine) (hm : X.mg "repr" = none) (sh : Shown x) (h : JE X W F0 H0 Γ e (.v x)) (hg : Gl X "repr" := by rfl) (s1 : starEach [e] X.env = (false, eval e X.env) :: starEach [] X.env := by rfl) : JE X W F0 H0 Γ (.Call (.Name "repr" np) [e] [] pos) (.v (.str x.shown)) :=
  pe_imp (pe_callB (cr_repr hgd hu) hg hm (by decide +kernel) (ja_cons h ja_nil s1) (by decide) (by decide) s1 rfl) fun σ H Q ⟨F, ok, q⟩ => ⟨F, ok, fun vs F1 H1 z1 d1 => by
    cases d1 with
    | cons a1 a2 =>
      cases a2
      exact ⟨_, x, rfl, dp_ex z1.s _ _ a1, sh, q _ F1 H1 z1 (.str _)⟩⟩
end
section
variable {X : Cx} {W : WX} {F0 H0 : Hp} {Γ : List S} {a b : Expr} {pos : Pos} {t u : Str}
theorem dec_strV (t u : Str) : decide (V.str t = V.str u) = decide (t = u) := by
  by_cases h : t = u
  · rw [decide_eq_true h, decide_eq_true (by rw [h])]
  · rw [decide_eq_false h, decide_eq_false (fun e => h (V.str.inj e))]
theorem rd_eqS {K : PySem.W.Frag} : RD K rEq (.str t) (.str u) (.bool (decide (t = u))) := fun v w F H Q s d1 d2 q => by
  cases d1; cases d2
  refine ⟨rfl, ?_⟩
  rw [dec_strV]
  exact q _ F H (Fz.refl s) (.bl _)
theorem rd_neS {K : PySem.W.Frag} : RD K rNe (.str t) (.str u) (.bool (!decide (t = u))) := fun v w F H Q s d1 d2 q => by
  cases d1; cases d2
  refine ⟨rfl, ?_⟩
  rw [dec_strV]
  exact q _ F H (Fz.refl s) (.bl _)
theorem je_eqS (ha : JE X W F0 H0 Γ a (.v (.str t))) (hb : JE X W F0 H0 Γ b (.v (.str u))) : JE X W F0 H0 Γ (.Compare a [.Eq] [b] pos) (.v (.bool (decide (t = u)))) := je_cmp op_eq rd_eqS ha hb (nomark _)
theorem jt_eqS (ha : JE X WF F0 H0 Γ a (.v (.str t))) (hb : JE X WF F0 H0 Γ b (.v (.str u))) : JT X F0 H0 Γ (.Compare a [.Eq] [b] pos) (decide (t = u)) := jt_cmp op_eq rd_eqS ha hb (nomark _)
theorem jt_neS (ha : JE X WF F0 H0 Γ a (.v (.str t))) (hb : JE X WF F0 H0 Γ b (.v (.str u))) : JT X F0 H0 Γ (.Compare a [.NotEq] [b] pos) (!decide (t = u)) := jt_cmp op_ne rd_neS ha hb (nomark _)
theorem je_neS (ha : JE X W F0 H0 Γ a (.v (.str t))) (hb : JE X W F0 H0 Γ b (.v (.str u))) : JE X W F0 H0 Γ (.Compare a [.NotEq] [b] pos) (.v (.bool (!decide (t = u)))) := je_cmp op_ne rd_neS ha hb (nomark _)
end
/-! ### the law's own call, where nothing runs around it -/
theorem call_law {P : Program} {w : World} {K : PySem.W.Frag} {mg mb : Str → Option Value} {k : Nat} {fa a : Addr} {fd : FuncData} {x : Str} {sp : Sp} {st0 : Shared} {vs : List Value} {ns : List Int}
    (inK : K.In st0.heap) (nsM : st0.heap.Ns mainGlobals mg) (nsB : st0.heap.Ns builtinsNs mb) (boot : ∀ y : Str, y ≠ "__name__" → mb y = bootBuiltins y) (noL : st0.heap.NoLimit) (noG : st0.gens = #[])
    (atA : st0.heap.get? a = some { cls := .type "list", data := .seq vs.toArray }) (hints : IntsAre vs ns) (short : ns.length ≤ sizeLine) (room : Room k callerA)
    (F : ∀ base : Heap, K.In base → base.Ns mainGlobals mg → FnG P w K mg base k fa fd [x] sp) (bind : ∀ (s : Shared) (u : Value), BindsTo s fd ⟨[u], []⟩ [(x, u)])
    (want : ∀ H : Hp, Only H → SqL K H a (ns.map V.int) → sp [.ref a] H (fun v _ => v = .bl true) fun _ _ _ => False)
    (none_out : ∀ H e s', L2.CX P w [] H st0 (fun _ _ _ => False) e s' → False) :
    codeAny (model P w) callerA (.call (.ref fa) ⟨[.ref a], []⟩) (fun r s' => r = .ok (.ret (.bool true)) ∧ OldK st0.heap s'.heap ∧ s'.os = st0.os ∧ AllBare s'.gens) st0 := by
  have vals := vals_ints hints
  have many := hints.length
  suffices main : ∀ H : Hp, Only H → SqL K H a (ns.map V.int) → HOk P w H st0.heap → (∀ b, H b ≠ none → b = a) → (H a ≠ none → K.lookup a = none) →
      codeAny (model P w) callerA (.call (.ref fa) ⟨[.ref a], []⟩) (fun r s' => r = .ok (.ret (.bool true)) ∧ OldK st0.heap s'.heap ∧ s'.os = st0.os ∧ AllBare s'.gens) st0 by
    by_cases own : K.lookup a = none
    · let obj : Obj := { cls := .type "list", data := .seq vs.toArray }
      let H : Hp := fun b => if b = a then some (.frz obj (.lst (ns.map V.int))) else none
      have Ha : H a = some (.frz obj (.lst (ns.map V.int))) := if_pos rfl
      have Hb : ∀ {b : Addr}, b ≠ a → H b = none := fun n => if_neg n
      have back : ∀ {b : Addr} {u : HO}, H b = some u → b = a ∧ u = .frz obj (.lst (ns.map V.int)) := fun {b u} z => by
        by_cases e : b = a
        · subst e
          rw [Ha] at z
          exact ⟨rfl, (Option.some.inj z).symm⟩
        · rw [Hb e] at z
          cases z
      refine main H (fun b => ?_) (.inl (.inr ⟨obj, Ha⟩)) (fun b u z => ?_) (fun b z => ?_) (fun _ => own)
      · cases q : H b with
        | none => exact .inl rfl
        | some u => exact .inr ⟨_, _, by rw [(back q).2]⟩
      · obtain ⟨rfl, rfl⟩ := back z
        exact ⟨atA, by rw [List.length_map]; exact short, vs, _, vals, atA⟩
      · cases q : H b with
        | none => exact absurd q z
        | some u => exact (back q).1
    · obtain ⟨o, look⟩ := Option.ne_none_iff_exists'.mp own
      have same := inK a o look
      rw [atA] at same
      cases same
      refine main (fun _ => none) (fun _ => .inl rfl) ?_ (fun _ _ z => by cases z) (fun _ z => absurd rfl z) (fun z => absurd rfl z)
      exact .inr ⟨_, vs.toArray, _, look, rfl, rfl, rfl, by rw [List.size_toArray, many]; exact short, by simpa using vals⟩
  intro H only seq good sole apart
  have free : ∀ {b : Addr}, b ≠ a → H b = none := fun {b} n => by
    cases q : H b with
    | none => rfl
    | some u => exact absurd (sole b (by rw [q]; simp)) n
  have seen : ∀ {b : Addr} {o : Obj}, st0.heap.get? b = some o → H b = none → (hidT st0.heap H).get? b = some o := fun e n => hidT_get e n
  have freeD : ∀ {b : Addr} {o : Obj} {es : Array DictEntry} {ep : Nat}, st0.heap.get? b = some o → o.data = .dict es ep → H b = none := fun {b o es ep} e d => by
    by_cases n : b = a
    · subst n
      rw [atA] at e
      cases e
      cases d
    · exact free n
  have nsT : ∀ {b : Addr} {m : Str → Option Value}, st0.heap.Ns b m → (hidT st0.heap H).Ns b m := by
    rintro b m ⟨o, es, ep, e, d, r⟩
    exact ⟨o, es, ep, seen e (freeD e d), d, r⟩
  have inT : K.In (hidT st0.heap H) := by
    intro b o e
    refine seen (inK b o e) ?_
    by_cases n : b = a
    · subst n
      cases q : H b with
      | none => rfl
      | some u =>
        rw [apart (by rw [q]; simp)] at e
        cases e
    · exact free n
  obtain ⟨mc, c1, c2⟩ := noL
  have modT : Mod K mg (hidT st0.heap H) := ⟨inT, nsT nsM, ⟨mb, nsT nsB, boot⟩, mc, nsT c1, c2⟩
  have env : Env0 P w K mg (hidT st0.heap H) callerA [] st0 H := {
    frames := rfl
    mod := modT
    bs := fun b o e => of_hidT e
    bsz := Nat.le_of_eq (hidT_size _ _)
    funs := trivial
    frf := fun b hb => absurd (show b ∈ ([] : List Addr) from hb) List.not_mem_nil
    hok := good
    bare := .of_eq noG }
  have go := (F _ inT (nsT nsM)).run callerA [] st0 H ⟨[.ref a], []⟩ [.ref a] [.ref a] _ _ rfl room env (bind st0 (.ref a)) (.cons rfl .nil) (want H only seq)
  refine codeAny_mono go ?_
  intro r s' got
  match r, got with
  | .error e, got => exact (none_out H e s' got).elim
  | .ok (.ret u), got =>
    obtain ⟨v, H', os, bare, un, good', rv, q⟩ := got
    have q' : v = .bl true := q
    subst q'
    have eu : u = Value.bool true := rv
    subst eu
    refine ⟨rfl, OldK.of_keep ?_, os, bare⟩
    intro b o e
    cases q : H b with
    | none => exact un.keep b o e q (fun z => absurd (show b ∈ ([] : List Addr) from z) List.not_mem_nil) (by simp)
    | some u =>
      cases only b with
      | inl z => exact absurd (q.symm.trans z) (by simp)
      | inr z =>
        obtain ⟨ob, xs, z⟩ := z
        have e1 := (good b _ z).1
        have e2 := (good' b _ (un.frzs b ob _ z)).1
        rw [e] at e1
        cases e1
        exact e2
  | .ok .next, got => exact got.elim
  | .ok .brk, got => exact got.elim
  | .ok .cont, got => exact got.elim
theorem law_walkG {l : PySem.W.OpenLaw} {q : Program} {loose : List Str} {XP : (Str → Option Value) → Heap → Prop} {YP : World → Heap → Prop} {d : DefRec} {K : Params → PySem.W.Frag} {k : Nat} (hn : l.most = some 63) (hdf : d.params.defaults = []) (hr : Room k callerA)
    (hY : ∀ (w : World) (h : Heap), YP w h → (K w.params).In h)
    (F : ∀ (w : World) (mg : Str → Option Value) (fa : Addr) (h : Heap), (K w.params).In h → h.Ns mainGlobals mg → mg d.name = some (.ref fa) →
      ∃ fd : FuncData, (∀ (s : Shared) (u : Value), BindsTo s fd ⟨[u], []⟩ [("script", u)]) ∧ ∀ base : Heap, (K w.params).In base → base.Ns mainGlobals mg → FnG l.prog w (K w.params) mg base k fa fd ["script"] (spD (K w.params) R_law)) :
    PySem.W.WalkO q loose XP YP l.row.toRowW d [] (fun f vs => PySem.call f vs) := by
  apply Att.attach_call hn hdf
  intro w s₀ s₁ mg mb fa o pm cd doc a vs ns G Y ho hd hcd hmg hobj hints hlen hg
  have KX := hY w _ Y
  obtain ⟨fd, hb, hF⟩ := F w mg fa _ KX G.T.g hmg
  refine call_law KX G.T.g G.T.b G.T.builtins G.T.nolimit hg hobj hints (Nat.le_trans hlen (by decide)) hr hF hb (fun H _ hS => ?_) ?_
  · exact ⟨H, [li ns], _, Ex.refl _, .cons (.lst hS (da_of_ints ns)) .nil, ⟨ns, rfl, hlen, rfl⟩, fun v F' H' _ dp => by cases dp; rfl⟩
  · intro H e s' z
    obtain ⟨_, _, _, _, _, _, _, _, _, _, _, _, z⟩ := z
    exact z.elim
end TB

namespace TB
open PySem L2 PySem.Spec PyProof.Rows
/-! ### how long the texts of numbers are -/
theorem log_lt {b : Nat} {z : Int} (hb : 0 < b) (h : Bt b z) : z.natAbs.log2 < b := by
  by_cases e : z.natAbs = 0
  · rw [e]
    exact hb
  · exact (Nat.log2_lt e).mpr h
theorem int_len {b : Nat} {z : Int} (hb : 0 < b) (h : Bt b z) : (PyData.shown (.int z)).length ≤ b + 1 := by
  have e := int_text_length_le hb (log_lt hb h)
  show (Str.ofString (toString z)).length ≤ b + 1
  rw [PySem.ofString_length]
  exact e
theorem int_wt {b : Nat} {z : Int} (hb : 0 < b) (h : Bt b z) : (PyData.int z).weight ≤ b := by
  have e := log_lt hb h
  show (if z == 0 then 0 else z.natAbs.log2 + 1) ≤ b
  split <;> omega
/-- all that repr wants of a list of data, with its parts: B the length of an integer, m the weight -/
structure Leaf (b : Nat) (d : D) (m : Nat) : Prop where
  s : d.showable = true
  n : d.hasDict = false
  l : d.leavesShort (b + 1) = true
  w : d.weight ≤ m
  dp : d.depth ≤ 9
structure Leaves (b : Nat) (ds : List D) (m : Nat) : Prop where
  s : PyData.showableAll ds = true
  n : PyData.hasDictAll ds = false
  l : PyData.leavesShortAll (b + 1) ds = true
  w : PyData.weightAll ds ≤ m
  dp : PyData.depthAll ds ≤ 8
theorem leaf_int {b : Nat} {z : Int} (hb : 0 < b) (hb2 : b ≤ 1920) (h : Bt b z) : Leaf b (.int z) b := by
  refine ⟨?_, rfl, ?_, int_wt hb h, by show 0 ≤ 9; decide⟩
  · show decide (z.natAbs.log2 < 1920) = true
    have := log_lt hb h
    exact decide_eq_true (by omega)
  · show decide (_ ≤ b + 1) = true
    exact decide_eq_true (int_len hb h)
theorem leaf_bool {b : Nat} (p : Bool) : Leaf b (.bool p) 0 := ⟨rfl, rfl, rfl, Nat.le_refl _, by show 0 ≤ 9; decide⟩
theorem leaf_none {b : Nat} : Leaf b .none 0 := ⟨rfl, rfl, rfl, Nat.le_refl _, by decide⟩
theorem leaves_nil {b : Nat} : Leaves b [] 0 := ⟨rfl, rfl, rfl, Nat.le_refl _, by decide⟩
theorem leaves_cons {b m n k : Nat} {d : D} {ds : List D} (h : Leaf b d m) (hd : d.depth ≤ 8) (g : Leaves b ds n) (hk : m + 1 + n ≤ k := by omega) : Leaves b (d :: ds) k := by
  refine ⟨?_, ?_, ?_, ?_, ?_⟩
  · rw [PyData.showableAll, h.s, g.s]; rfl
  · rw [PyData.hasDictAll, h.n, g.n]; rfl
  · rw [PyData.leavesShortAll, h.l, g.l]; rfl
  · rw [PyData.weightAll]
    have := h.w
    have := g.w
    omega
  · rw [PyData.depthAll]
    have := g.dp
    omega
theorem leaf_tup {b m : Nat} {ds : List D} (g : Leaves b ds m) : Leaf b (.tuple ds) m := by
  refine ⟨?_, ?_, ?_, ?_, ?_⟩
  · rw [PyData.showable]; exact g.s
  · rw [PyData.hasDict]; exact g.n
  · rw [PyData.leavesShort]; exact g.l
  · rw [PyData.weight]; exact g.w
  · rw [PyData.depth]
    have := g.dp
    omega
theorem leaf_lst {b m : Nat} {ds : List D} (g : Leaves b ds m) : Leaf b (.list ds) m := by
  refine ⟨?_, ?_, ?_, ?_, ?_⟩
  · rw [PyData.showable]; exact g.s
  · rw [PyData.hasDict]; exact g.n
  · rw [PyData.leavesShort]; exact g.l
  · rw [PyData.weight]; exact g.w
  · rw [PyData.depth]
    have := g.dp
    omega
theorem leaves_ints {b : Nat} (hb : 0 < b) (hb2 : b ≤ 1920) : ∀ {ns : List Int}, (∀ z ∈ ns, Bt b z) → Leaves b (ns.map .int) (ns.length * (b + 1)) ∧ PyData.depthAll (ns.map PyData.int) ≤ 0
  | [], _ => ⟨⟨rfl, rfl, rfl, Nat.zero_le _, by decide⟩, Nat.le_refl _⟩
  | z :: ns, h => by
    obtain ⟨g, g2⟩ := leaves_ints hb hb2 (ns := ns) fun y hy => h y (List.mem_cons_of_mem _ hy)
    refine ⟨leaves_cons (leaf_int hb hb2 (h z List.mem_cons_self)) (Nat.zero_le _) g (by rw [List.length_cons, Nat.succ_mul]; omega), ?_⟩
    show max 0 (PyData.depthAll (ns.map PyData.int)) ≤ 0
    omega
theorem leaf_ti {b : Nat} (hb : 0 < b) (hb2 : b ≤ 1920) {ns : List Int} (h : ∀ z ∈ ns, Bt b z) : Leaf b (ti ns) (ns.length * (b + 1)) ∧ (ti ns).depth ≤ 1 := by
  obtain ⟨g, g2⟩ := leaves_ints hb hb2 h
  refine ⟨leaf_tup g, ?_⟩
  show PyData.depth (.tuple _) ≤ 1
  rw [PyData.depth]
  omega
theorem leaves_tis {b k : Nat} (hb : 0 < b) (hb2 : b ≤ 1920) : ∀ {xs : List (List Int)}, (∀ x ∈ xs, x.length ≤ k ∧ ∀ z ∈ x, Bt b z) → Leaves b (xs.map ti) (xs.length * (k * (b + 1) + 1)) ∧ PyData.depthAll (xs.map ti) ≤ 1
  | [], _ => ⟨⟨rfl, rfl, rfl, Nat.zero_le _, by decide⟩, Nat.zero_le _⟩
  | x :: xs, h => by
    obtain ⟨g, g2⟩ := leaves_tis hb hb2 (k := k) (xs := xs) fun y hy => h y (List.mem_cons_of_mem _ hy)
    obtain ⟨h1, h2⟩ := h x List.mem_cons_self
    obtain ⟨f, f2⟩ := leaf_ti hb hb2 h2
    have hm : x.length * (b + 1) ≤ k * (b + 1) := Nat.mul_le_mul_right _ h1
    refine ⟨leaves_cons f (by omega) g (by rw [List.length_cons, Nat.succ_mul]; omega), ?_⟩
    show PyData.depthAll (ti x :: xs.map ti) ≤ 1
    rw [PyData.depthAll]
    omega
theorem shown_of {b m : Nat} {d : D} (h : Leaf b d m) (ht : ∀ x, d ≠ .str x) (hb : 7 ≤ b) (hm : (b + 3) * m + (b + 1) ≤ 16777216) : Shown d := by
  refine ⟨h.s, h.n, ?_, Nat.le_trans h.dp (by decide), ht⟩
  have e := PyData.shown_le (b + 1) (by omega) d h.l
  have e2 : (b + 1 + 2) * d.weight ≤ (b + 3) * m := Nat.mul_le_mul (by omega) h.w
  show _ ≤ 2 ^ 24
  omega
theorem shown_ti {b : Nat} {ns : List Int} (h : ∀ z ∈ ns, Bt b z) (hb : 7 ≤ b) (hb2 : b ≤ 1920) (hl : ns.length ≤ 4) : Shown (ti ns) := by
  refine shown_of (leaf_ti (by omega) hb2 h).1 (fun _ e => by cases e) hb ?_
  have e1 : ns.length * (b + 1) ≤ 4 * 1921 := Nat.mul_le_mul hl (by omega)
  have e2 : (b + 3) * (ns.length * (b + 1)) ≤ 1923 * (4 * 1921) := Nat.mul_le_mul (by omega) e1
  omega
theorem shown_num {m : Nat} {x : List Int} (g : G m x) (h : m ≤ 1900) : Shown (ti x) := shown_ti (b := 1920) (fun z hz => (g.up (by omega : m ≤ 1920)).sm z hz) (by decide) (by decide) (by have := num_len g.num; omega)
theorem shown_none : Shown .none := shown_of (b := 7) leaf_none (fun _ e => by cases e) (by decide) (by decide)
theorem shown_bool (p : Bool) : Shown (.bool p) := shown_of (b := 7) (leaf_bool p) (fun _ e => by cases e) (by decide) (by decide)
theorem shown_int {b : Nat} {z : Int} (h : Bt b z) (hb : 7 ≤ b) (hb2 : b ≤ 1900) : Shown (.int z) := by
  refine shown_of (leaf_int (by omega) (by omega) h) (fun _ e => by cases e) hb ?_
  have : (b + 3) * b ≤ 1903 * 1900 := Nat.mul_le_mul (by omega) hb2
  omega
theorem shown_bools (p q : Bool) : Shown (.tuple [.bool p, .bool q]) := shown_of (b := 7) (leaf_tup (leaves_cons (k := 2) (leaf_bool p) (by show 0 ≤ 8; decide) (leaves_cons (k := 1) (leaf_bool q) (by show 0 ≤ 8; decide) leaves_nil))) (fun _ e => by cases e) (by decide) (by decide)
/-! ### k12: exact quotients -/
def lpartL (y : List Int) (m : Int) : D := if y.all (fun z => decide (z % m = 0)) = true then (if isNum (quoL m y) = true then ti (quoL m y) else .none) else .none
theorem quo_len (m : Int) (y : List Int) : (quoL m y).length = y.length := by
  unfold quoL
  exact List.length_map _
theorem part_lft {a b : List Int} (ha : isNum a = true) (hb : isNum b = true) (h0 : zeroB b = false) : lpartL (mulL (conjL b) a) (normL b) = if zeroB (remLft a b) = true then ti (quoLft a b) else .none := by
  have n0 := norm_pos hb h0
  by_cases h : zeroB (remLft a b) = true
  · obtain ⟨hq, e⟩ := quo_back ha hb h0 h
    rw [if_pos h]
    generalize quoLft a b = q at *
    rw [e, conj_back hb hq]
    unfold lpartL
    rw [quo_of_times n0, if_pos (List.all_eq_true.mpr fun z hz => ?_), if_pos hq]
    obtain ⟨y, _, rfl⟩ := List.mem_map.mp hz
    exact decide_eq_true (Int.mul_emod_left _ _)
  · rw [if_neg h]
    unfold lpartL
    by_cases h1 : (mulL (conjL b) a).all (fun z => decide (z % normL b = 0)) = true
    · rw [if_pos h1]
      by_cases h2 : isNum (quoL (normL b) (mulL (conjL b) a)) = true
      · refine absurd ((ldiv_iff ha hb h0).mpr ⟨_, h2, ?_⟩) h
        have e := quo_times n0 fun p hp => of_decide_eq_true (List.all_eq_true.mp h1 p hp)
        generalize quoL (normL b) (mulL (conjL b) a) = q at *
        apply times_inj (m := normL b) (by omega)
        rw [← (mul_int (normL b) ha).1, ← (mul_conj hb).1, mul_asc hb (num_conj hb) ha, ← e, ← (mul_int (normL b) h2).2, ← mul_asc hb h2 (num_int _), (mul_int (normL b) (num_mul hb h2)).2]
      · rw [if_neg h2]
    · rw [if_neg h1]
theorem part_rgt {a b : List Int} (ha : isNum a = true) (hb : isNum b = true) (h0 : zeroB b = false) : lpartL (mulL a (conjL b)) (normL b) = if zeroB (remRgt a b) = true then ti (quoRgt a b) else .none := by
  have n0 := norm_pos hb h0
  by_cases h : zeroB (remRgt a b) = true
  · have hq := (rem_rgt ha hb h0).1
    have e : a = mulL (quoRgt a b) b := sub_zero ha (num_mul hq hb) h
    rw [if_pos h]
    generalize quoRgt a b = q at *
    have e2 : mulL (mulL q b) (conjL b) = timesL (normL b) q := by rw [mul_asc hq hb (num_conj hb), (mul_conj hb).1, (mul_int (normL b) hq).2]
    rw [e, e2]
    unfold lpartL
    rw [quo_of_times n0, if_pos (List.all_eq_true.mpr fun z hz => ?_), if_pos hq]
    obtain ⟨y, _, rfl⟩ := List.mem_map.mp hz
    exact decide_eq_true (Int.mul_emod_left _ _)
  · rw [if_neg h]
    unfold lpartL
    by_cases h1 : (mulL a (conjL b)).all (fun z => decide (z % normL b = 0)) = true
    · rw [if_pos h1]
      by_cases h2 : isNum (quoL (normL b) (mulL a (conjL b))) = true
      · refine absurd ((rdiv_iff ha hb h0).mpr ⟨_, h2, ?_⟩) h
        have e := quo_times n0 fun p hp => of_decide_eq_true (List.all_eq_true.mp h1 p hp)
        generalize quoL (normL b) (mulL a (conjL b)) = q at *
        apply times_inj (m := normL b) (by omega)
        rw [← (mul_int (normL b) ha).2, ← (mul_conj hb).2, ← mul_asc ha (num_conj hb) hb, ← e, ← (mul_int (normL b) h2).1, mul_asc (num_int _) h2 hb, (mul_int (normL b) (num_mul h2 hb)).1]
      · rw [if_neg h2]
    · rw [if_neg h1]
def R_law_partL : List D → Out → Prop := fun ds o => ∃ (y : List Int) (m : Int), ds = [ti y, .int m] ∧ y.length = 4 ∧ 0 < m ∧ Bt 3000 m ∧ o = .v (lpartL y m)
def RQS : List D → Out → Prop := fun ds o => ∃ (d e : D) (a b : List Int), ds = [d, e] ∧ Seq d a ∧ Seq e b ∧ G 3000 a ∧ G 3000 b ∧ zeroB b = false ∧ o = .v (if zeroB (remLft a b) = true then ti (quoLft a b) else .none)
def RIS : List D → Out → Prop := fun ds o => ∃ (d e : D) (a b : List Int), ds = [e, d] ∧ Seq d a ∧ Seq e b ∧ G 3000 a ∧ G 3000 b ∧ zeroB b = false ∧ o = .v (.bool (zeroB (remLft a b)))
/-- same parity as the first one -/
theorem num_first {y : List Int} (hl : y.length = 4) : isNum y = (y.filter fun z => decide ((z - y.getD 0 0) % 2 ≠ 0)).isEmpty := by
  obtain ⟨a, b, c, d, rfl⟩ := four hl
  have h := isNum4 a b c d
  rw [Bool.eq_iff_iff, h, List.isEmpty_iff, List.filter_eq_nil_iff]
  unfold Par
  simp only [List.getD_cons_zero, List.mem_cons, List.not_mem_nil, or_false, forall_eq_or_imp, forall_eq, decide_eq_true_eq]
  omega
end TB

namespace TB
open PySem L2 PySem.Spec PyProof.Rows
/-! ### k14: the right side -/
theorem assoA_perm {x u : List Int} (hx : isNum x = true) (hu : u ∈ unitsL) : (assoA (mulL u x)).Perm (assoA x) := by
  have e : assoA (mulL u x) = (unitsL.map fun v => mulL v u).map fun v => mulL v x := by
    unfold assoA
    rw [List.map_map]
    refine List.map_congr_left fun v hv => ?_
    exact (mul_asc (u_num hv) (u_num hu) hx).symm
  rw [e]
  exact ((units_permL u hu).symm).map _
theorem canonA_asso {x u : List Int} (hx : isNum x = true) (hu : u ∈ unitsL) : canonA (mulL u x) = canonA x := by
  unfold canonA
  rw [sort_congr (assoA_perm hx hu)]
theorem canonA_canon {x : List Int} (hx : isNum x = true) : canonA (canonA x) = canonA x := by
  obtain ⟨h1, h2⟩ := leadA_ok x
  rw [← h2, canonA_asso hx h1, h2]
theorem canonA_num {x : List Int} (hx : isNum x = true) : isNum (canonA x) = true := by
  obtain ⟨h1, h2⟩ := leadA_ok x
  rw [← h2]
  exact num_mul (u_num h1) hx
theorem conj_addL {x y : List Int} (hx : isNum x = true) (hy : isNum y = true) : conjL (addL x y) = addL (conjL x) (conjL y) := by
  obtain ⟨a, b, c, d, rfl⟩ := four (num_len hx)
  obtain ⟨e, f, g, h, rfl⟩ := four (num_len hy)
  show [a + e, -(b + f), -(c + g), -(d + h)] = [a + e, -b + -f, -c + -g, -d + -h]
  congr 1
  congr 1
  · omega
  congr 1
  · omega
  congr 1
  omega
theorem max_canonA2 (x : List Int) : PySem.W.maxD (ti (mulL [-1, -1, -1, -1] x)) (((lunits.drop 1).map fun u => mulL u x).map ti) = ti (canonA x) := by
  obtain ⟨m, h1, h2, h3⟩ := max_ti ((lunits.drop 1).map fun u => mulL u x) (mulL [-1, -1, -1, -1] x)
  have pm : ((mulL [-1, -1, -1, -1] x) :: (lunits.drop 1).map fun u => mulL u x).Perm (assoA x) := lunits_perm.map fun u => mulL u x
  rw [h2, canonA_eq (x := x) (pm.mem_iff.mp h1) fun y hy => h3 y (pm.mem_iff.mpr hy)]
noncomputable def rsumR (a b : List Int) : Row := (rowsE (conjL a) (conjL b)).1
noncomputable def rsumL (a b : List Int) : D := .tuple ((rsumR a b).l.map fun y => ti (mulL (leadA (conjL (rsumR a b).x)) (conjL y)))
theorem rcom_ahead {a b : List Int} (ga : G 150 a) (gb : G 150 b) (h0 : ¬ (zeroB a = true ∧ zeroB b = true)) :
    isNum (rsumR a b).x = true ∧ zeroB (rsumR a b).x = false ∧ canonA (conjL (lgcd (conjL a) (conjL b))) = canonA (conjL (rsumR a b).x) := by
  obtain ⟨m, st, hm, er, R, gx, zx, zy, lg⟩ := rows_ok ga.conj gb.conj (conj_both ga.num gb.num h0)
  refine ⟨gx.num, zx, ?_⟩
  have e := lgcd_eq lg
  rw [← e]
  obtain ⟨h1, h2⟩ := lead_ok (rowsE (conjL a) (conjL b)).1.x
  rw [← h2, conj_mul gx.num (u_num h1)]
  exact canonA_asso gx.conj.num (units_cj _ h1).1
theorem rsum_ok {a b : List Int} (ga : G 150 a) (gb : G 150 b) (h0 : ¬ (zeroB a = true ∧ zeroB b = true)) :
    ∃ s t, rsumL a b = .tuple [ti (canonA (conjL (lgcd (conjL a) (conjL b)))), ti s, ti t] ∧ G 102000 s ∧ G 102000 t ∧ addL (mulL s a) (mulL t b) = canonA (conjL (lgcd (conjL a) (conjL b))) := by
  obtain ⟨nx, zx, ec⟩ := rcom_ahead ga gb h0
  obtain ⟨m, st, hm, er, R, gx, _⟩ := rows_ok ga.conj gb.conj (conj_both ga.num gb.num h0)
  have hs := R.s1
  have hn := R.n1
  have hg := R.g1
  rw [← er] at hs hn hg
  have hu := (leadA_ok (conjL (rsumR a b).x))
  have gu := units_G _ hu.1
  refine ⟨mulL (leadA (conjL (rsumR a b).x)) (conjL (rsumR a b).s), mulL (leadA (conjL (rsumR a b).x)) (conjL (rsumR a b).t), ?_, ?_, ?_, ?_⟩
  · rw [ec, ← hu.2]
    rfl
  · exact (gu.mul (hg (rsumR a b).s (by simp [Row.l, rsumR])).conj).up (by omega)
  · exact (gu.mul (hg (rsumR a b).t (by simp [Row.l, rsumR])).conj).up (by omega)
  · rw [ec, ← hu.2]
    have n1 : isNum (rsumR a b).s = true := hn.2.1
    have n2 : isNum (rsumR a b).t = true := hn.2.2
    have e : conjL (rsumR a b).x = addL (mulL (conjL (rsumR a b).s) a) (mulL (conjL (rsumR a b).t) b) := by
      have hs' : (rsumR a b).x = addL (mulL (conjL a) (rsumR a b).s) (mulL (conjL b) (rsumR a b).t) := hs
      rw [hs', conj_addL (num_mul ga.conj.num n1) (num_mul gb.conj.num n2), conj_mul ga.conj.num n1, conj_mul gb.conj.num n2, conj_conj ga.num, conj_conj gb.num]
    generalize leadA (conjL (rsumR a b).x) = u at *
    rw [e, mul_addr gu.num (num_mul (num_conj n1) ga.num) (num_mul (num_conj n2) gb.num), mul_asc gu.num (num_conj n1) ga.num, mul_asc gu.num (num_conj n2) gb.num]
theorem rquo_G {q t : List Int} {m : Nat} (hq : isNum q = true) (ht : isNum t = true) (h0 : zeroB t = false) (g : G m (mulL q t)) : G (m + 3) q := by
  have n0 := norm_pos ht h0
  have n1 := G_norm g
  rw [norm_mul hq ht] at n1
  have n2 := norm_nn hq
  refine norm_G (n := m + 2) hq ?_
  have : normL q * 1 ≤ normL q * normL t := Int.mul_le_mul_of_nonneg_left (by omega) n2
  omega
/-- it stands behind both -/
theorem rcom_div {a b : List Int} (ga : G 150 a) (gb : G 150 b) (h0 : ¬ (zeroB a = true ∧ zeroB b = true)) :
    isNum (canonA (conjL (lgcd (conjL a) (conjL b)))) = true ∧ zeroB (canonA (conjL (lgcd (conjL a) (conjL b)))) = false ∧ RDiv (canonA (conjL (lgcd (conjL a) (conjL b)))) a ∧ RDiv (canonA (conjL (lgcd (conjL a) (conjL b)))) b := by
  have sp := lgcd_spec ga.conj.num gb.conj.num (conj_both ga.num gb.num h0)
  have gz := conj_nz sp.1 sp.2.1
  obtain ⟨h1, h2⟩ := leadA_ok (conjL (lgcd (conjL a) (conjL b)))
  have hc := num_conj sp.1
  have back : ∀ z, isNum z = true → LDiv (lgcd (conjL a) (conjL b)) (conjL z) → RDiv (canonA (conjL (lgcd (conjL a) (conjL b)))) z := fun z hz ⟨y, hy, e⟩ => by
    have hu := units_cj _ h1
    refine ⟨mulL (conjL y) (conjL (leadA (conjL (lgcd (conjL a) (conjL b))))), num_mul (num_conj hy) (num_conj (u_num h1)), ?_⟩
    rw [← h2, mul_asc (num_conj hy) (num_conj (u_num h1)) (num_mul (u_num h1) hc), ← mul_asc (num_conj (u_num h1)) (u_num h1) hc, hu.2.2, mul_one' hc, ← conj_mul sp.1 hy, ← e, conj_conj hz]
  exact ⟨canonA_num hc, canonA_nz hc gz, back a ga.num sp.2.2.1, back b gb.num sp.2.2.2.1⟩
def R_law_ahead : List D → Out → Prop := fun ds o => ∃ ns, ds = [ti ns] ∧ isNum ns = true ∧ Sm 300000 ns ∧ o = .v (ti (canonA ns))
def R_iA : List D → Out → Prop := fun ds o => ∃ d q : List Int, ds = [ti d, ti (mulL q d)] ∧ G 1000 d ∧ zeroB d = false ∧ G 1000 q ∧ o = .v (.bool true)
theorem conj_backR {d q : List Int} (hd : isNum d = true) (hq : isNum q = true) : mulL (mulL q d) (conjL d) = timesL (normL d) q := by
  rw [mul_asc hq hd (num_conj hd), (mul_conj hd).1, (mul_int (normL d) hq).2]
def R_rsum : List D → Out → Prop := fun ds o => ∃ (d e : D) (a b : List Int), ds = [d, e] ∧ Seq d a ∧ Seq e b ∧ G 150 a ∧ G 150 b ∧ ¬ (zeroB a = true ∧ zeroB b = true) ∧ o = .v (rsumL a b)
end TB

namespace TB
open PySem L2 PySem.Spec PyProof.Rows
/-! ### rows that are tuples or lists -/
/-- a tuple, a list of these -/
def SqD (d : D) (ds : List D) : Prop := d = .tuple ds ∨ d = .list ds
theorem sq_of {d : D} {ns : List Int} (h : Seq d ns) : SqD d (ns.map .int) := h
section
variable {X : Cx} {W : WX} {F0 H0 : Hp} {Γ Γ1 : List S} {a b e it tg : Expr} {d d2 x : D} {ds es : List D} {pos np tp : Pos} {i : Int}
theorem je_ixQ (sq : SqD d ds) (h : atI ds i = some x) (ha : JE X W F0 H0 Γ a (.v d)) (hb : JE X W F0 H0 Γ b (.v (.int i))) (hs : PlainIx b := by exact fun _ _ => rfl) : JE X W F0 H0 Γ (.Subscript a b pos) (.v x) := by
  rcases sq with rfl | rfl
  · exact je_ixT h ha hb hs
  · exact je_ixL h ha hb hs
theorem je_lenD (sq : SqD d ds) (hm : X.mg "len" = none) (h : JE X W F0 H0 Γ e (.v d)) (hg : Gl X "len" := by rfl) (s1 : starEach [e] X.env = (false, eval e X.env) :: starEach [] X.env := by rfl) : JE X W F0 H0 Γ (.Call (.Name "len" np) [e] [] pos) (.v (.int ds.length)) := by
  rcases sq with rfl | rfl
  · exact je_lenT hm h hg s1
  · exact je_lenL hm h hg s1
theorem ji_sq (sq : SqD d ds) (h : JE X WF F0 H0 Γ it (.v d)) : JI X F0 H0 Γ tg it ds := by
  rcases sq with rfl | rfl
  · exact ji_tup h
  · exact ji_list h
theorem je_tupS (sq : SqD d ds) (hm : X.mg "tuple" = none) (h : JE X W F0 H0 Γ e (.v d)) (hg : Gl X "tuple" := by rfl) (s1 : starEach [e] X.env = (false, eval e X.env) :: starEach [] X.env := by rfl) : JE X W F0 H0 Γ (.Call (.Name "tuple" np) [e] [] pos) (.v (.tuple ds)) := by
  rcases sq with rfl | rfl
  · exact je_ct call_tuple_of rc_tupT noX hm (by decide +kernel) (ja_cons h ja_nil s1) hg (by decide) (by decide) s1
  · exact je_tupL hm h hg s1
theorem je_listS (sq : SqD d ds) (hm : X.mg "list" = none) (h : JE X W F0 H0 Γ e (.v d)) (hg : Gl X "list" := by rfl) (s1 : starEach [e] X.env = (false, eval e X.env) :: starEach [] X.env := by rfl) : JE X W F0 H0 Γ (.Call (.Name "list" np) [e] [] pos) (.o ds) := by
  rcases sq with rfl | rfl
  · exact je_listT hm h hg s1
  · exact je_listL hm h hg s1
theorem ji_zipS {elts : List Expr} {kk : Nat} (s1 : SqD d ds) (s2 : SqD d2 es) (hm : X.mg "zip" = none) (ha : JE X WF F0 H0 Γ a (.v d)) (hb : JE X WF F0 H0 Γ b (.v d2)) (hg : Gl X "zip" := by rfl)
    (hs : starEach [a, b] X.env = (false, eval a X.env) :: starEach [b] X.env := by rfl) (hs2 : starEach [b] X.env = (false, eval b X.env) :: starEach [] X.env := by rfl) (hpl : (backTo pos (starEach [b] X.env)).any (·.1) = false := by rfl) :
    JI X F0 H0 Γ (.Tuple elts kk tp) (.Call (.Name "zip" np) [a, b] [] pos) ((ds.zip es).map prD) := by
  rcases s1 with rfl | rfl <;> rcases s2 with rfl | rfl
  · exact ji_zipT hm ha hb hg hs hs2 hpl
  · exact ji_zipTL hm ha hb hg hs hs2 hpl
  · exact ji_zipLT hm ha hb hg hs hs2 hpl
  · exact ji_zipL hm ha hb hg hs hs2 hpl
/-- a, b, .. = a row, whichever it is -/
theorem jg_sq {es : List Expr} {k n : Nat} {T : List S → List D → List S → Prop} (hc : X.calm = true) (h : JGs X F0 H0 es T) (hn : (assignEach es X.env).length = n := by rfl) (hst : (assignEach es X.env).findIdx? (·.1) = none := by rfl) :
    JG X F0 H0 (.Tuple es k pos) (fun Γ d Γ' => ∃ ds, SqD d ds ∧ ds.length = n ∧ T Γ ds Γ') := by
  refine ⟨fun pins s σ H v u Q I rv q => ?_⟩
  obtain ⟨Γ, d, Γ', F, ⟨ds, sq, hl, t⟩, rest⟩ := q
  rcases sq with rfl | rfl
  · exact (jg_tup hc h hn hst).run pins s σ H v u Q I rv ⟨Γ, _, Γ', F, ⟨ds, rfl, hl, t⟩, rest⟩
  · exact (jg_lst hc h hn hst).run pins s σ H v u Q I rv ⟨Γ, _, Γ', F, ⟨ds, rfl, hl, t⟩, rest⟩
/-! ### isinstance over data -/
def tyN : D → String
  | .none => "NoneType"
  | .bool _ => "bool"
  | .int _ => "int"
  | .str _ => "str"
  | .list _ => "list"
  | .tuple _ => "tuple"
  | .dict _ => "dict"
theorem kit_dp {K : PySem.W.Frag} {v : V} {u : Value} {pins : List (Addr × Obj)} {σ : L2.St} {H : Hp} {s : Shared} (I : Inv X pins σ H s) (dp : Dp X.K H v d) (rv : RelV v u) : ∃ P : Heap → Prop, PySem.W.KitX X.K u (.type (tyN d)) P ∧ P s.heap ∧ u ≠ .builtin "__main__.__loader__#opaque" := by
  cases dp with
  | non => cases (show u = Value.none from rv); exact ⟨_, PySem.W.kitx_none, True.intro, fun z => nomatch z⟩
  | bl y => cases (show u = Value.bool y from rv); exact ⟨_, PySem.W.kitx_bool, True.intro, fun z => nomatch z⟩
  | int i => obtain ⟨t, q⟩ := (show ∃ t, u = Value.int i t from rv); cases q; exact ⟨_, PySem.W.kitx_int, True.intro, fun z => nomatch z⟩
  | str y => obtain ⟨t, q⟩ := (show ∃ t, u = Value.str y t from rv); cases q; exact ⟨_, PySem.W.kitx_str, True.intro, fun z => nomatch z⟩
  | lst h1 h2 =>
    cases rv
    obtain ⟨its, _, ⟨o, n, g1, g2, _⟩, _⟩ := I.list h1
    exact ⟨_, PySem.W.kitx_list, ⟨o, g1, g2⟩, fun z => nomatch z⟩
  | tup h1 h2 =>
    cases rv
    obtain ⟨its, _, ⟨o, g1, g2, _⟩, _⟩ := I.tuple h1
    exact ⟨_, PySem.W.kitx_tuple, ⟨o, g1, g2⟩, fun z => nomatch z⟩
def rIsD (K : PySem.W.Frag) : List V → Hp → VK → Prop := fun xs H Q => ∃ (v : V) (d : D) (T : String) (r : Bool), xs = [v, .ty T] ∧ Dp K H v d ∧ kitB (tyN d) T = some r ∧ Q (.bl r) H
theorem call_isD : CallR X (.builtin "isinstance") (rIsD X.K) := by
  rintro pins s σ H _ us Q I r ⟨v, d, T, b, rfl, dp, hk, q⟩
  obtain ⟨u1, u2, rfl, r1, r2⟩ := Vals.two r
  have e2 : u2 = Value.type T := r2
  subst e2
  obtain ⟨P, Z, p, hx⟩ := kit_dp (K := X.K) I dp r1
  exact PySem.W.kia_one Z I.kIn p (kit_ty hk) hx fun tk => ⟨.bl b, H, I.tok tk, rfl, q⟩
def rIsDD (K : PySem.W.Frag) : List V → Hp → VK → Prop := fun xs H Q => ∃ (v : V) (d : D) (tp : Addr) (T U : String) (r q : Bool), xs = [v, .ref tp] ∧ Dp K H v d ∧ H tp = some (.tup [.ty T, .ty U]) ∧ kitB (tyN d) T = some r ∧ kitB (tyN d) U = some q ∧ Q (.bl (r || q)) H
theorem call_isDD : CallR X (.builtin "isinstance") (rIsDD X.K) := by
  rintro pins s σ H _ us Q I r ⟨v, d, tp, T, U, b, c, rfl, dp, hT, hk, hl, q⟩
  obtain ⟨u1, u2, rfl, r1, r2⟩ := Vals.two r
  cases (show u2 = Value.ref tp from r2)
  obtain ⟨P, Z, p, hx⟩ := kit_dp (K := X.K) I dp r1
  obtain ⟨_, its, rv, o, h1, h2, n, h3⟩ := (show ObjOk X.prog X.w H s.heap tp (.tup [.ty T, .ty U]) from I.hok tp _ hT)
  have e3 := ClsV.all (Paired.cons (ClsV.ty T) (Paired.cons (ClsV.ty U) .nil)) rv
  subst e3
  obtain ⟨oc, od, dt, sl⟩ := o
  simp only at h2 h3
  subst h2 h3
  refine PySem.W.kia_tup (b := b || c) Z I.kIn p h1 ?_ hx fun tk => ⟨.bl (b || c), H, I.tok tk, rfl, q⟩
  refine kitAny_cons (kit_ty hk) (fun hb => ?_) (fun hb => by rw [hb]; rfl)
  rw [hb]
  exact kitAny_cons (kit_ty hl) (fun hc => by rw [hc]; rfl) (fun hc => by rw [hc]; rfl)
theorem je_isD {T : String} {n : Str} {r : Bool} {np2 : Pos} (hk : kitB (tyN d) T = some r) (hm : X.mg "isinstance" = none) (hm2 : X.mg n = none) (hv : bootBuiltins n = some (.type T)) (ha : JE X W F0 H0 Γ a (.v d)) (hg : Gl X "isinstance" := by rfl) (hg2 : Gl X n := by rfl)
    (hn : n ≠ "__name__" := by decide) (hdb : (n == ("__debug__" : Str)) = false := by decide)
    (s2 : starEach [a, .Name n np2] X.env = (false, eval a X.env) :: starEach [.Name n np2] X.env := by rfl) (s1 : starEach [.Name n np2] X.env = (false, eval (.Name n np2) X.env) :: starEach [] X.env := by rfl) (hpl : (backTo pos (starEach [.Name n np2] X.env)).any (·.1) = false := by rfl) :
    JE X W F0 H0 Γ (.Call (.Name "isinstance" np) [a, .Name n np2] [] pos) (.v (.bool r)) :=
  pe_imp (pe_callB call_isD hg hm (by decide +kernel) (pa_cons ha (pa_cons (pe_bltn (v := .ty T) hg2 hm2 hv rfl hn hdb) pa_nil s1) s2) (by decide) (by decide) s2 hpl) fun σ H Q ⟨F, ok, q⟩ => ⟨F, ok, fun v F1 H1 z1 d1 =>
    ⟨v, d, T, r, rfl, dp_ex z1.s _ _ d1, hk, q _ F1 H1 z1 (.bl r)⟩⟩
theorem je_isDD {T U : String} {n m : Str} {r q : Bool} {np2 np3 tp2 : Pos} {kk : Nat} (hk : kitB (tyN d) T = some r) (hl : kitB (tyN d) U = some q) (hm : X.mg "isinstance" = none) (hm2 : X.mg n = none) (hm3 : X.mg m = none) (hv : bootBuiltins n = some (.type T)) (hv2 : bootBuiltins m = some (.type U)) (ha : JE X W F0 H0 Γ a (.v d))
    (hg : Gl X "isinstance" := by rfl) (hg2 : Gl X n := by rfl) (hg3 : Gl X m := by rfl) (hn : n ≠ "__name__" := by decide) (hdb : (n == ("__debug__" : Str)) = false := by decide) (hn2 : m ≠ "__name__" := by decide) (hdb2 : (m == ("__debug__" : Str)) = false := by decide)
    (s2 : starEach [a, .Tuple [.Name n np2, .Name m np3] kk tp2] X.env = (false, eval a X.env) :: starEach [.Tuple [.Name n np2, .Name m np3] kk tp2] X.env := by rfl)
    (s1 : starEach [.Tuple [.Name n np2, .Name m np3] kk tp2] X.env = (false, eval (.Tuple [.Name n np2, .Name m np3] kk tp2) X.env) :: starEach [] X.env := by rfl) (hpl : (backTo pos (starEach [.Tuple [.Name n np2, .Name m np3] kk tp2] X.env)).any (·.1) = false := by rfl)
    (s3 : starEach [.Name n np2, .Name m np3] X.env = (false, eval (.Name n np2) X.env) :: starEach [.Name m np3] X.env := by rfl) (s4 : starEach [.Name m np3] X.env = (false, eval (.Name m np3) X.env) :: starEach [] X.env := by rfl) :
    JE X W F0 H0 Γ (.Call (.Name "isinstance" np) [a, .Tuple [.Name n np2, .Name m np3] kk tp2] [] pos) (.v (.bool (r || q))) :=
  pe_imp (pe_callB call_isDD hg hm (by decide +kernel) (pa_cons ha (pa_cons (pe_tup (pa_cons (pe_bltn (v := .ty T) hg2 hm2 hv rfl hn hdb) (pa_cons (pe_bltn (v := .ty U) hg3 hm3 hv2 rfl hn2 hdb2) pa_nil s4) s3)) pa_nil s1) s2) (by decide) (by decide) s2 hpl) fun σ H Q ⟨F, ok, q0⟩ => ⟨F, ok, fun v F1 H1 z1 d1 =>
    ⟨by show 2 ≤ sizeLine; decide, fun p hp => ⟨v, d, p, T, U, r, q, rfl, dp_ex (z1.s.trans (Ex.new hp)) _ _ d1, upd_same, hk, hl, q0 _ F1 _ (z1.trans (Fz.fresh z1.s hp)) (.bl _)⟩⟩⟩
/-! ### all, any of truth values -/
theorem da_bools {K : PySem.W.Frag} {F : Hp} : ∀ {bs : List Bool} {vs : List V}, DpAll K F vs (bs.map PyData.bool) → vs = bs.map V.bl
  | [], _, h => by cases h; rfl
  | n :: ns, _, h => by
    cases h with
    | cons h1 h2 =>
      cases h1
      rw [da_bools h2]
      rfl
theorem je_allB {bs : List Bool} (hc : X.calm = true) (hm : X.mg "all" = none) (h : JE X W F0 H0 Γ e (.v (.list (bs.map .bool)))) (hg : Gl X "all" := by rfl) (s1 : starEach [e] X.env = (false, eval e X.env) :: starEach [] X.env := by rfl) : JE X W F0 H0 Γ (.Call (.Name "all" np) [e] [] pos) (.v (.bool (bs.all id))) :=
  pe_imp (pe_callB (cr_all hc) hg hm (by decide +kernel) (ja_cons h ja_nil s1) (by decide) (by decide) s1 rfl) fun σ H Q ⟨F, ok, q⟩ => ⟨F, ok, fun vs F1 H1 z1 d1 => by
    cases d1 with
    | cons a1 a2 =>
      cases a2
      cases a1 with
      | lst h1 h2 => exact ⟨_, bs, rfl, by rw [← da_bools h2]; exact sl_ex z1.s h1, q _ F1 H1 z1 (.bl _)⟩⟩
theorem je_anyB {bs : List Bool} (hc : X.calm = true) (hm : X.mg "any" = none) (h : JE X W F0 H0 Γ e (.v (.list (bs.map .bool)))) (hg : Gl X "any" := by rfl) (s1 : starEach [e] X.env = (false, eval e X.env) :: starEach [] X.env := by rfl) : JE X W F0 H0 Γ (.Call (.Name "any" np) [e] [] pos) (.v (.bool (bs.any id))) :=
  pe_imp (pe_callB (cr_any hc) hg hm (by decide +kernel) (ja_cons h ja_nil s1) (by decide) (by decide) s1 rfl) fun σ H Q ⟨F, ok, q⟩ => ⟨F, ok, fun vs F1 H1 z1 d1 => by
    cases d1 with
    | cons a1 a2 =>
      cases a2
      cases a1 with
      | lst h1 h2 => exact ⟨_, bs, rfl, by rw [← da_bools h2]; exact sl_ex z1.s h1, q _ F1 H1 z1 (.bl _)⟩⟩
end
end TB

namespace TB
open PySem L2 PySem.Spec PyProof.Rows
/-! ### turns: the mathematics -/
def gStep (g : Int) (r : List Int) : Int := ((gcd4 g (r.getD 0 0) (r.getD 1 0) (r.getD 2 0) : Nat) : Int)
def gT (s : Int) (rs : List (List Int)) : Int := rs.foldl gStep s
theorem three {ns : List Int} (h : ns.length = 3) : ∃ a b c, ns = [a, b, c] := by
  match ns, h with
  | [a, b, c], _ => exact ⟨a, b, c, rfl⟩
theorem gStep_dvd {g : Int} {r : List Int} (h : r.length = 3) : gStep g r ∣ g ∧ ∀ z ∈ r, gStep g r ∣ z := by
  obtain ⟨a, b, c, rfl⟩ := three h
  obtain ⟨h1, h2, h3, h4⟩ := gcd4_dvd g a b c
  refine ⟨h1, fun z hz => ?_⟩
  rcases List.mem_cons.mp hz with rfl | hz
  · exact h2
  rcases List.mem_cons.mp hz with rfl | hz
  · exact h3
  rcases List.mem_cons.mp hz with rfl | hz
  · exact h4
  · cases hz
theorem gStep_great {g m : Int} {r : List Int} (h : r.length = 3) (hg : m ∣ g) (hr : ∀ z ∈ r, m ∣ z) : m ∣ gStep g r := by
  obtain ⟨a, b, c, rfl⟩ := three h
  exact gcd4_great hg (hr a (by simp)) (hr b (by simp)) (hr c (by simp))
theorem pos_of_dvd {g m : Int} (h0 : 0 ≤ m) (hg : 0 < g) (h : m ∣ g) : 0 < m := by
  rcases Int.lt_or_eq_of_le h0 with q | q
  · exact q
  · rw [← q] at h
    obtain ⟨k, e⟩ := h
    rw [Int.zero_mul] at e
    omega
theorem gStep_pos {g : Int} {r : List Int} (h : r.length = 3) (hg : 0 < g) : 0 < gStep g r := pos_of_dvd (Int.natCast_nonneg _) hg (gStep_dvd h).1
theorem gT_ok : ∀ {rs : List (List Int)} {s : Int}, (∀ r ∈ rs, r.length = 3) → 0 < s → 0 < gT s rs ∧ gT s rs ∣ s ∧ ∀ r ∈ rs, ∀ z ∈ r, gT s rs ∣ z
  | [], s, _, hs => ⟨hs, Int.dvd_refl _, fun r hr => by cases hr⟩
  | r :: rs, s, h, hs => by
    have hr := h r List.mem_cons_self
    obtain ⟨h1, h2, h3⟩ := gT_ok (rs := rs) (s := gStep s r) (fun q hq => h q (List.mem_cons_of_mem _ hq)) (gStep_pos hr hs)
    obtain ⟨d1, d2⟩ := gStep_dvd (g := s) hr
    refine ⟨h1, Int.dvd_trans h2 d1, fun q hq z hz => ?_⟩
    rcases List.mem_cons.mp hq with rfl | hq
    · exact Int.dvd_trans h2 (d2 z hz)
    · exact h3 q hq z hz
theorem gT_great : ∀ {rs : List (List Int)} {s m : Int}, (∀ r ∈ rs, r.length = 3) → m ∣ s → (∀ r ∈ rs, ∀ z ∈ r, m ∣ z) → m ∣ gT s rs
  | [], s, m, _, hs, _ => hs
  | r :: rs, s, m, h, hs, hr => gT_great (rs := rs) (s := gStep s r) (fun q hq => h q (List.mem_cons_of_mem _ hq)) (gStep_great (h r List.mem_cons_self) hs (hr r List.mem_cons_self)) fun q hq => hr q (List.mem_cons_of_mem _ hq)
theorem gT_succ (s : Int) (rs : List (List Int)) {k : Nat} (h : k < rs.length) : gT s (rs.take (k + 1)) = gStep (gT s (rs.take k)) (rs.getD k []) := by
  unfold gT
  rw [List.take_succ, List.getElem?_eq_getElem h, List.foldl_append]
  simp [List.getD_eq_getElem?_getD, List.getElem?_eq_getElem h]
/-- a multiple of all: m times as great -/
theorem dvd_antisymm' {a b : Int} (ha : 0 < a) (hb : 0 < b) (h1 : a ∣ b) (h2 : b ∣ a) : a = b := by
  have := Int.le_of_dvd hb h1
  have := Int.le_of_dvd ha h2
  omega
theorem gT_times {rs : List (List Int)} {s m : Int} (h : ∀ r ∈ rs, r.length = 3) (hs : 0 < s) (hm : 0 < m) : gT (m * s) (rs.map (timesL m)) = m * gT s rs := by
  have hl : ∀ r ∈ rs.map (timesL m), r.length = 3 := fun r hr => by
    obtain ⟨q, hq, rfl⟩ := List.mem_map.mp hr
    unfold timesL
    rw [List.length_map]
    exact h q hq
  obtain ⟨p1, p2, p3⟩ := gT_ok h hs
  obtain ⟨q1, q2, q3⟩ := gT_ok hl (Int.mul_pos hm hs)
  refine dvd_antisymm' q1 (Int.mul_pos hm p1) ?_ ?_
  · obtain ⟨k, e⟩ : m ∣ gT (m * s) (rs.map (timesL m)) := gT_great hl ⟨s, rfl⟩ fun r hr z hz => by
      obtain ⟨q, hq, rfl⟩ := List.mem_map.mp hr
      obtain ⟨y, hy, rfl⟩ := List.mem_map.mp hz
      exact ⟨y, Int.mul_comm _ _⟩
    have hk : k ∣ gT s rs := gT_great h (by
      rw [e] at q2
      exact Int.dvd_of_mul_dvd_mul_left (by omega) q2) fun r hr z hz => by
      have := q3 (timesL m r) (List.mem_map_of_mem hr) (z * m) (List.mem_map_of_mem (f := fun p => p * m) hz)
      rw [e, Int.mul_comm z m] at this
      exact Int.dvd_of_mul_dvd_mul_left (by omega) this
    rw [e]
    exact Int.mul_dvd_mul_left m hk
  · exact gT_great hl (Int.mul_dvd_mul_left m p2) fun r hr z hz => by
      obtain ⟨q, hq, rfl⟩ := List.mem_map.mp hr
      obtain ⟨y, hy, rfl⟩ := List.mem_map.mp hz
      rw [Int.mul_comm y m]
      exact Int.mul_dvd_mul_left m (p3 q hq y hy)
def sqS (x : List Int) : Int := (x.map fun p => p * p).sum
def rowsT : List Int → List (List Int)
  | [a, b, c, d] => [[a * a + b * b - c * c - d * d, 2 * (b * c - a * d), 2 * (b * d + a * c)], [2 * (b * c + a * d), a * a - b * b + c * c - d * d, 2 * (c * d - a * b)], [2 * (b * d - a * c), 2 * (c * d + a * b), a * a - b * b - c * c + d * d]]
  | _ => []
/-- a size and rows, in lowest terms -/
def lowS (s : Int) (rs : List (List Int)) : Int := s / gT s rs
def lowR (s : Int) (rs : List (List Int)) : List (List Int) := rs.map (quoL (gT s rs))
def turnD (s : Int) (rs : List (List Int)) : D := .tuple [.int s, .tuple (rs.map ti)]
def turnS (x : List Int) : Int := lowS (sqS x) (rowsT x)
def turnR (x : List Int) : List (List Int) := lowR (sqS x) (rowsT x)
theorem sq_norm {x : List Int} (h : isNum x = true) : sqS x = 4 * normL x := by
  have := norm_sum h
  unfold sqS
  omega
theorem sq_pos {x : List Int} (h : isNum x = true) (h0 : zeroB x = false) : 0 < sqS x := by
  have := norm_pos h h0
  rw [sq_norm h]
  omega
theorem rot_len {x : List Int} (h : x.length = 4) : (∀ r ∈ rowsT x, r.length = 3) ∧ (rowsT x).length = 3 := by
  obtain ⟨a, b, c, d, rfl⟩ := four h
  refine ⟨fun r hr => ?_, rfl⟩
  rcases List.mem_cons.mp hr with rfl | hr
  · rfl
  rcases List.mem_cons.mp hr with rfl | hr
  · rfl
  rcases List.mem_cons.mp hr with rfl | hr
  · rfl
  · cases hr
theorem rot_times (m : Int) {x : List Int} (h : x.length = 4) : rowsT (timesL m x) = (rowsT x).map (timesL (m * m)) ∧ sqS (timesL m x) = m * m * sqS x := by
  obtain ⟨a, b, c, d, rfl⟩ := four h
  constructor
  · show [[_, _, _], [_, _, _], [_, _, _]] = [[_, _, _], [_, _, _], [_, _, _]]
    congr 1
    · congr 1
      · grind
      congr 1
      · grind
      congr 1
      grind
    congr 1
    · congr 1
      · grind
      congr 1
      · grind
      congr 1
      grind
    congr 1
    · congr 1
      · grind
      congr 1
      · grind
      congr 1
      grind
  · unfold sqS timesL
    simp only [List.map_cons, List.map_nil, List.sum_cons, List.sum_nil]
    grind
/-- m times a size and rows: the same in lowest terms -/
theorem low_times {rs : List (List Int)} {s m : Int} (h : ∀ r ∈ rs, r.length = 3) (hs : 0 < s) (hm : 0 < m) : lowS (m * s) (rs.map (timesL m)) = lowS s rs ∧ lowR (m * s) (rs.map (timesL m)) = lowR s rs := by
  obtain ⟨p1, _, _⟩ := gT_ok h hs
  unfold lowS lowR
  rw [gT_times h hs hm]
  refine ⟨Int.mul_ediv_mul_of_pos _ _ hm, ?_⟩
  rw [List.map_map]
  refine List.map_congr_left fun r hr => ?_
  show quoL _ (timesL m r) = quoL _ r
  unfold quoL timesL
  rw [List.map_map]
  refine List.map_congr_left fun z hz => ?_
  show z * m / (m * gT s rs) = z / gT s rs
  rw [Int.mul_comm z m, Int.mul_ediv_mul_of_pos _ _ hm]
theorem turn_times {m : Int} {x : List Int} (hm : m ≠ 0) (hx : isNum x = true) (h0 : zeroB x = false) : turnS (timesL m x) = turnS x ∧ turnR (timesL m x) = turnR x := by
  have hl := num_len hx
  obtain ⟨e1, e2⟩ := rot_times m hl
  have hp : 0 < m * m := by
    rcases Int.lt_or_gt_of_ne hm with h | h
    · exact Int.mul_pos_of_neg_of_neg h h
    · exact Int.mul_pos h h
  unfold turnS turnR
  rw [e1, e2]
  exact low_times (rot_len hl).1 (sq_pos hx h0) hp
/-- in lowest terms, g times what is told is what was handed in -/
theorem low_back {rs : List (List Int)} {s : Int} (h : ∀ r ∈ rs, r.length = 3) (hs : 0 < s) : s = gT s rs * lowS s rs ∧ rs = (lowR s rs).map (timesL (gT s rs)) := by
  obtain ⟨p1, p2, p3⟩ := gT_ok h hs
  constructor
  · unfold lowS
    rw [Int.mul_ediv_cancel' p2]
  · unfold lowR
    rw [List.map_map]
    conv => lhs; rw [← List.map_id rs]
    refine List.map_congr_left fun r hr => ?_
    show r = timesL (gT s rs) (quoL (gT s rs) r)
    exact (quo_times p1 fun z hz => Int.emod_eq_zero_of_dvd (p3 r hr z hz)).symm
/-- the products of two parts, from the turn -/
theorem parts_of_turn {x : List Int} (hx : isNum x = true) (h0 : zeroB x = false) : ∃ g : Int, 0 < g ∧ sqS x = g * turnS x ∧ rowsT x = (turnR x).map (timesL g) := by
  obtain ⟨e1, e2⟩ := low_back (rot_len (num_len hx)).1 (sq_pos hx h0)
  exact ⟨_, (gT_ok (rot_len (num_len hx)).1 (sq_pos hx h0)).1, e1, e2⟩
def crossE (x y : List Int) (i j : Nat) : Bool := decide (x.getD i 0 * y.getD j 0 = x.getD j 0 * y.getD i 0)
theorem sq_zero {z G : Int} (hG : 0 < G) (h : G * (z * z) = 0) : z = 0 := by
  rcases Int.mul_eq_zero.mp h with q | q
  · omega
  · rcases Int.mul_eq_zero.mp q with q | q <;> exact q
theorem cross_one {G G' xi xj yi yj : Int} (hG : 0 < G') (h1 : xi * xi * G' = yi * yi * G) (h2 : xj * xj * G' = yj * yj * G) (h3 : xi * xj * G' = yi * yj * G) : xi * yj = xj * yi := by
  have e : G' * ((xi * yj - xj * yi) * (xi * yj - xj * yi)) = 0 := by
    have : G' * ((xi * yj - xj * yi) * (xi * yj - xj * yi)) = (xi * xi * G') * (yj * yj) - 2 * ((xi * xj * G') * (yi * yj)) + (xj * xj * G') * (yi * yi) := by grind
    rw [this, h1, h2, h3]
    grind
  have := sq_zero hG e
  omega
end TB

namespace TB
open PySem L2 PySem.Spec PyProof.Rows
def allCross (x y : List Int) : Bool := (List.range 4).all fun i => (List.range i).all fun j => crossE x y i j
theorem all_cross {a b c d a' b' c' d' : Int} : allCross [a, b, c, d] [a', b', c', d'] = true ↔ b * a' = a * b' ∧ c * a' = a * c' ∧ c * b' = b * c' ∧ d * a' = a * d' ∧ d * b' = b * d' ∧ d * c' = c * d' := by
  unfold allCross
  have e : List.range 4 = [0, 1, 2, 3] := rfl
  have e0 : List.range 0 = [] := rfl
  have e1 : List.range 1 = [0] := rfl
  have e2 : List.range 2 = [0, 1] := rfl
  have e3 : List.range 3 = [0, 1, 2] := rfl
  rw [e]
  simp only [List.all_cons, List.all_nil, e0, e1, e2, e3, crossE, Bool.and_true, Bool.true_and, Bool.and_eq_true, decide_eq_true_eq]
  simp only [List.getD_cons_zero, List.getD_cons_succ]
  constructor
  · rintro ⟨h1, ⟨h2, h3⟩, h4, h5, h6⟩
    exact ⟨h1, h2, h3, h4, h5, h6⟩
  · rintro ⟨h1, h2, h3, h4, h5, h6⟩
    exact ⟨h1, ⟨h2, h3⟩, h4, h5, h6⟩
theorem cross_sym {x y : List Int} {i j : Nat} (h : x.getD i 0 * y.getD j 0 = x.getD j 0 * y.getD i 0) : y.getD i 0 * x.getD j 0 = y.getD j 0 * x.getD i 0 := by
  rw [Int.mul_comm (y.getD i 0), Int.mul_comm (y.getD j 0)]
  exact h.symm
/-- all cross products are 0: one is the other one times a fraction -/
theorem cross_times {x y : List Int} (hx : isNum x = true) (hy : isNum y = true) (zx : zeroB x = false) (zy : zeroB y = false) (h : allCross x y = true) : ∃ m n : Int, m ≠ 0 ∧ n ≠ 0 ∧ timesL m x = timesL n y := by
  obtain ⟨a, b, c, d, rfl⟩ := four (num_len hx)
  obtain ⟨a', b', c', d', rfl⟩ := four (num_len hy)
  obtain ⟨h1, h2, h3, h4, h5, h6⟩ := all_cross.mp h
  have tm : ∀ m p q r s : Int, timesL m [p, q, r, s] = [p * m, q * m, r * m, s * m] := fun _ _ _ _ _ => rfl
  have nz : ∀ {p q r s : Int}, zeroB [p, q, r, s] = false → p ≠ 0 ∨ q ≠ 0 ∨ r ≠ 0 ∨ s ≠ 0 := fun {p q r s} z => by
    by_cases e1 : p = 0
    · by_cases e2 : q = 0
      · by_cases e3 : r = 0
        · by_cases e4 : s = 0
          · subst e1 e2 e3 e4
            cases z
          · exact .inr (.inr (.inr e4))
        · exact .inr (.inr (.inl e3))
      · exact .inr (.inl e2)
    · exact .inl e1
  have key : ∀ (u v : Int), v ≠ 0 → (a * v = u * a' ∧ b * v = u * b' ∧ c * v = u * c' ∧ d * v = u * d') → ∃ m n : Int, m ≠ 0 ∧ n ≠ 0 ∧ timesL m [a, b, c, d] = timesL n [a', b', c', d'] := by
    intro u v hv ⟨k1, k2, k3, k4⟩
    refine ⟨v, u, hv, fun hu => ?_, ?_⟩
    · subst hu
      rw [Int.zero_mul] at k1 k2 k3 k4
      have z : ∀ {t : Int}, t * v = 0 → t = 0 := fun {t} e => (Int.mul_eq_zero.mp e).resolve_right hv
      have e1 := z k1
      have e2 := z k2
      have e3 := z k3
      have e4 := z k4
      subst e1 e2 e3 e4
      cases zx
    · rw [tm, tm, k1, k2, k3, k4, Int.mul_comm u, Int.mul_comm u, Int.mul_comm u, Int.mul_comm u]
  rcases nz zy with q | q | q | q
  · exact key a a' q ⟨rfl, h1, h2, h4⟩
  · exact key b b' q ⟨by rw [h1], rfl, h3, h5⟩
  · exact key c c' q ⟨by rw [h2], by rw [h3], rfl, h6⟩
  · exact key d d' q ⟨by rw [h4], by rw [h5], by rw [h6], rfl⟩
theorem turn_cross {x y : List Int} (hx : isNum x = true) (hy : isNum y = true) (zx : zeroB x = false) (zy : zeroB y = false) : (turnS x = turnS y ∧ turnR x = turnR y) ↔ allCross x y = true := by
  constructor
  · rintro ⟨es, er⟩
    obtain ⟨g, hg, s1, r1⟩ := parts_of_turn hx zx
    obtain ⟨g', hg', s2, r2⟩ := parts_of_turn hy zy
    rw [es] at s1
    rw [er] at r1
    generalize turnS y = t at s1 s2
    have hl2 := (rot_len (num_len hy)).1
    have hl3 := (rot_len (num_len hy)).2
    obtain ⟨a, b, c, d, rfl⟩ := four (num_len hx)
    obtain ⟨a', b', c', d', rfl⟩ := four (num_len hy)
    have hR : (turnR [a', b', c', d']).length = 3 ∧ ∀ r ∈ turnR [a', b', c', d'], r.length = 3 := by
      rw [r2] at hl2 hl3
      rw [List.length_map] at hl3
      refine ⟨hl3, fun r hr => ?_⟩
      have := hl2 _ (List.mem_map_of_mem hr)
      unfold timesL at this
      rwa [List.length_map] at this
    generalize turnR [a', b', c', d'] = R at *
    obtain ⟨hR1, hR2⟩ := hR
    match R, hR1, hR2, r1, r2 with
    | [q1, q2, q3], _, hR2, r1, r2 =>
      obtain ⟨p1, p2, p3, rfl⟩ := three (hR2 q1 (by simp))
      obtain ⟨p4, p5, p6, rfl⟩ := three (hR2 q2 (by simp))
      obtain ⟨p7, p8, p9, rfl⟩ := three (hR2 q3 (by simp))
      have r1' : [[a * a + b * b - c * c - d * d, 2 * (b * c - a * d), 2 * (b * d + a * c)], [2 * (b * c + a * d), a * a - b * b + c * c - d * d, 2 * (c * d - a * b)], [2 * (b * d - a * c), 2 * (c * d + a * b), a * a - b * b - c * c + d * d]] = [[p1 * g, p2 * g, p3 * g], [p4 * g, p5 * g, p6 * g], [p7 * g, p8 * g, p9 * g]] := r1
      have r2' : [[a' * a' + b' * b' - c' * c' - d' * d', 2 * (b' * c' - a' * d'), 2 * (b' * d' + a' * c')], [2 * (b' * c' + a' * d'), a' * a' - b' * b' + c' * c' - d' * d', 2 * (c' * d' - a' * b')], [2 * (b' * d' - a' * c'), 2 * (c' * d' + a' * b'), a' * a' - b' * b' - c' * c' + d' * d']] = [[p1 * g', p2 * g', p3 * g'], [p4 * g', p5 * g', p6 * g'], [p7 * g', p8 * g', p9 * g']] := r2
      simp only [List.cons.injEq, and_true] at r1' r2'
      have s1' : a * a + (b * b + (c * c + (d * d + 0))) = g * t := s1
      have s2' : a' * a' + (b' * b' + (c' * c' + (d' * d' + 0))) = g' * t := s2
      obtain ⟨⟨x1, x2, x3⟩, ⟨x4, x5, x6⟩, x7, x8, x9⟩ := r1'
      obtain ⟨⟨y1, y2, y3⟩, ⟨y4, y5, y6⟩, y7, y8, y9⟩ := r2'
      have mul4 : ∀ {u v k l : Int}, 4 * u = k → 4 * v = l → k * g' = l * g → 4 * (u * g') = 4 * (v * g) := fun {u v k l} e1 e2 e3 => by
        rw [← e1, ← e2] at e3
        rw [← Int.mul_assoc, ← Int.mul_assoc]
        exact e3
      have k1 : 4 * (a * a * g') = 4 * (a' * a' * g) := mul4 (k := g * t + p1 * g + p5 * g + p9 * g) (l := g' * t + p1 * g' + p5 * g' + p9 * g') (by omega) (by omega) (by grind)
      have k2 : 4 * (b * b * g') = 4 * (b' * b' * g) := mul4 (k := g * t + p1 * g - p5 * g - p9 * g) (l := g' * t + p1 * g' - p5 * g' - p9 * g') (by omega) (by omega) (by grind)
      have k3 : 4 * (c * c * g') = 4 * (c' * c' * g) := mul4 (k := g * t - p1 * g + p5 * g - p9 * g) (l := g' * t - p1 * g' + p5 * g' - p9 * g') (by omega) (by omega) (by grind)
      have k4 : 4 * (d * d * g') = 4 * (d' * d' * g) := mul4 (k := g * t - p1 * g - p5 * g + p9 * g) (l := g' * t - p1 * g' - p5 * g' + p9 * g') (by omega) (by omega) (by grind)
      have k5 : 4 * (a * b * g') = 4 * (a' * b' * g) := mul4 (k := p8 * g - p6 * g) (l := p8 * g' - p6 * g') (by omega) (by omega) (by grind)
      have k6 : 4 * (a * c * g') = 4 * (a' * c' * g) := mul4 (k := p3 * g - p7 * g) (l := p3 * g' - p7 * g') (by omega) (by omega) (by grind)
      have k7 : 4 * (a * d * g') = 4 * (a' * d' * g) := mul4 (k := p4 * g - p2 * g) (l := p4 * g' - p2 * g') (by omega) (by omega) (by grind)
      have k8 : 4 * (b * c * g') = 4 * (b' * c' * g) := mul4 (k := p2 * g + p4 * g) (l := p2 * g' + p4 * g') (by omega) (by omega) (by grind)
      have k9 : 4 * (b * d * g') = 4 * (b' * d' * g) := mul4 (k := p3 * g + p7 * g) (l := p3 * g' + p7 * g') (by omega) (by omega) (by grind)
      have k10 : 4 * (c * d * g') = 4 * (c' * d' * g) := mul4 (k := p6 * g + p8 * g) (l := p6 * g' + p8 * g') (by omega) (by omega) (by grind)
      have dv : ∀ {u v : Int}, 4 * u = 4 * v → u = v := fun h => by omega
      refine all_cross.mpr ⟨?_, ?_, ?_, ?_, ?_, ?_⟩
      · exact (cross_one hg' (dv k1) (dv k2) (dv k5)).symm
      · exact (cross_one hg' (dv k1) (dv k3) (dv k6)).symm
      · exact (cross_one hg' (dv k2) (dv k3) (dv k8)).symm
      · exact (cross_one hg' (dv k1) (dv k4) (dv k7)).symm
      · exact (cross_one hg' (dv k2) (dv k4) (dv k9)).symm
      · exact (cross_one hg' (dv k3) (dv k4) (dv k10)).symm
  · intro h
    obtain ⟨m, n, hm, hn, e⟩ := cross_times hx hy zx zy h
    obtain ⟨e1, e2⟩ := turn_times hm hx zx
    obtain ⟨e3, e4⟩ := turn_times hn hy zy
    rw [← e1, ← e2, ← e3, ← e4, e]
    exact ⟨rfl, rfl⟩
end TB

namespace TB
open PySem L2 PySem.Spec PyProof.Rows
/-! ### the numbers that the laws of turns draw -/
def rawT (ns : List Int) (p : Nat) (m : Int) : List Int := (List.range 4).map fun k => 2 * (ns.getD (p + 1 + k) 0 % (2 * m + 1) - m) + ns.getD p 0 % 2
def numT (ns : List Int) (p : Nat) (m : Int) : List Int := if zeroB (rawT ns p m) = true then [2, 0, 2 * m, 0] else rawT ns p m
theorem isNum_map4 {f : Nat → Int} {u : Int} (h : ∀ k, k < 4 → f k % 2 = u) : isNum ((List.range 4).map f) = true := by
  have e : List.range 4 = [0, 1, 2, 3] := rfl
  rw [e]
  show isNum [f 0, f 1, f 2, f 3] = true
  have h0 := h 0 (by omega)
  have h1 := h 1 (by omega)
  have h2 := h 2 (by omega)
  have h3 := h 3 (by omega)
  exact isNum_of ⟨by omega, by omega, by omega⟩
theorem numT_ok {ns : List Int} (h : In9 ns) (p : Nat) {m : Int} (hm : 1 ≤ m ∧ m ≤ 9) : G 10 (numT ns p m) ∧ zeroB (numT ns p m) = false := by
  unfold numT
  have b0 := h.get p
  cases hz : zeroB (rawT ns p m) with
  | true =>
    rw [if_pos rfl]
    refine ⟨⟨isNum_of ⟨by omega, by omega, by omega⟩, fun z hz => ?_⟩, ?_⟩
    · have hz' : z = 2 ∨ z = 0 ∨ z = 2 * m ∨ z = 0 := by simpa using hz
      show z.natAbs < 2 ^ 10
      omega
    · unfold zeroB
      rfl
  | false =>
    rw [if_neg Bool.false_ne_true]
    refine ⟨⟨isNum_map4 (u := ns.getD p 0 % 2) fun k hk => by omega, fun z hz => ?_⟩, hz⟩
    obtain ⟨k, hk, rfl⟩ := List.mem_map.mp hz
    have hk' := List.mem_range.mp hk
    have b1 := h.get (p + 1 + k)
    have b2 : 0 ≤ ns.getD (p + 1 + k) 0 % (2 * m + 1) := Int.emod_nonneg _ (by omega)
    have b3 : ns.getD (p + 1 + k) 0 % (2 * m + 1) < 2 * m + 1 := Int.emod_lt_of_pos _ (by omega)
    show (_ : Int).natAbs < 2 ^ 10
    omega
def valG (ns : List Int) (q : Nat) : Nat → Int
  | 0 => 0
  | j + 1 => 1009 * valG ns q j + ns.getD (q + 1 + j) 0 - 504
theorem valG_bt {ns : List Int} (h : In9 ns) (q : Nat) : ∀ j, j ≤ 4 → (valG ns q j).natAbs < 2 ^ (10 * j + 1)
  | 0, _ => by
    show (0 : Int).natAbs < 2 ^ 1
    decide
  | j + 1, hj => by
    have ih := valG_bt h q j (by omega)
    have b := h.get (q + 1 + j)
    show (1009 * valG ns q j + ns.getD (q + 1 + j) 0 - 504).natAbs < 2 ^ (10 * (j + 1) + 1)
    have e : (2 : Nat) ^ (10 * (j + 1) + 1) = 1024 * 2 ^ (10 * j + 1) := by
      rw [show 10 * (j + 1) + 1 = 10 + (10 * j + 1) by omega, Nat.pow_add]
    rw [e]
    have e2 : 2 ≤ (2 : Nat) ^ (10 * j + 1) := by
      rw [Nat.pow_succ]
      have := Nat.one_le_two_pow (n := 10 * j)
      omega
    by_cases e3 : (2 : Nat) ^ (10 * j + 1) ≤ 34
    · have : j = 0 := by
        cases j with
        | zero => rfl
        | succ j =>
          have := Nat.pow_le_pow_right (n := 2) (by decide) (show 6 ≤ 10 * (j + 1) + 1 by omega)
          omega
      subst this
      have e4 : valG ns q 0 = 0 := rfl
      rw [e4]
      omega
    · omega
def cntG (ns : List Int) (q : Nat) : Nat := (1 + ns.getD q 0 % 4).toNat
def rawG (ns : List Int) (p : Nat) : List Int := (List.range 4).map fun k => 2 * valG ns (p + 5 * k) (cntG ns (p + 5 * k)) + ns.getD p 0 % 2
def greatG (ns : List Int) (p : Nat) : List Int := if zeroB (rawG ns p) = true then [2, 2, 0, 0] else rawG ns p
theorem greatG_ok {ns : List Int} (h : In9 ns) (p : Nat) : G 43 (greatG ns p) ∧ zeroB (greatG ns p) = false := by
  unfold greatG
  cases hz : zeroB (rawG ns p) with
  | true =>
    rw [if_pos rfl]
    refine ⟨⟨isNum_of ⟨by omega, by omega, by omega⟩, fun z hz => ?_⟩, rfl⟩
    have hz' : z = 2 ∨ z = 0 := by simpa using hz
    show z.natAbs < 2 ^ 43
    omega
  | false =>
    rw [if_neg Bool.false_ne_true]
    refine ⟨⟨isNum_map4 (u := ns.getD p 0 % 2) fun k hk => by omega, fun z hz => ?_⟩, hz⟩
    obtain ⟨k, hk, rfl⟩ := List.mem_map.mp hz
    have hc : cntG ns (p + 5 * k) ≤ 4 := by unfold cntG; omega
    have b := valG_bt h (p + 5 * k) _ hc
    have b2 := Nat.pow_le_pow_right (n := 2) (by decide) (show 10 * cntG ns (p + 5 * k) + 1 ≤ 41 by omega)
    have b0 := h.get p
    show (_ : Int).natAbs < 2 ^ 43
    omega
def givenL : List (List Int) := [[2, 0, 0, 0], [0, 2, 0, 0], [2, 2, 0, 0], [1, 1, 1, 1], [3, 1, 1, 1], [0, 2, 2, 0], [1, -1, 1, -1], [4, 2, 0, 0]]
theorem given_ok : ∀ x ∈ givenL, (isNum x = true ∧ zeroB x = false) ∧ ∀ z ∈ x, z.natAbs < 2 ^ 3 := by decide +kernel
def drawnG (ns : List Int) (p : Nat) : List Int :=
  if ns.getD p 0 % 6 = 0 then greatG ns (p + 1) else if ns.getD p 0 % 6 = 1 then givenL.getD (ns.getD (p + 1) 0 % 8).toNat [] else numT ns (p + 1) (([1, 2, 4, 9] : List Int).getD (ns.getD p 0 % 6 - 2).toNat 0)
theorem most_ok : ∀ k, k < 4 → 1 ≤ ([1, 2, 4, 9] : List Int).getD k 0 ∧ ([1, 2, 4, 9] : List Int).getD k 0 ≤ 9 := by decide
theorem drawnG_ok {ns : List Int} (h : In9 ns) (p : Nat) : G 43 (drawnG ns p) ∧ zeroB (drawnG ns p) = false := by
  unfold drawnG
  split
  · exact greatG_ok h _
  · split
    · have hi : (ns.getD (p + 1) 0 % 8).toNat < givenL.length := by
        show _ < 8
        omega
      have hm := getD_mem hi
      obtain ⟨⟨h1, h2⟩, h3⟩ := given_ok _ hm
      exact ⟨⟨h1, fun z hz => Nat.lt_of_lt_of_le (h3 z hz) (by decide)⟩, h2⟩
    · have := numT_ok h (p + 1) (most_ok (ns.getD p 0 % 6 - 2).toNat (by omega))
      exact ⟨this.1.up (by decide), this.2⟩
def R_law_numT : List D → Out → Prop := fun ds o => ∃ (ns : List Int) (p : Nat) (z m : Int), ds = [li ns, .int z, .int m] ∧ z = (p : Int) ∧ In9 ns ∧ p + 5 ≤ ns.length ∧ 1 ≤ m ∧ m ≤ 9 ∧ o = .v (ti (numT ns p m))
def R_law_greatG : List D → Out → Prop := fun ds o => ∃ (ns : List Int) (p : Nat) (z : Int), ds = [li ns, .int z] ∧ z = (p : Int) ∧ In9 ns ∧ p + 20 ≤ ns.length ∧ o = .v (ti (greatG ns p))
def R_law_drawnG : List D → Out → Prop := fun ds o => ∃ (ns : List Int) (p : Nat) (z : Int), ds = [li ns, .int z] ∧ z = (p : Int) ∧ In9 ns ∧ p + 21 ≤ ns.length ∧ o = .v (ti (drawnG ns p))
/-! ### the law's own greatest common divisor -/
def es : Nat → Nat × Nat → Nat × Nat
  | 0, p => p
  | k + 1, p => es k (p.2, p.1 % p.2)
theorem es_back : ∀ (k : Nat) (p : Nat × Nat), es (k + 1) p = ((es k p).2, (es k p).1 % (es k p).2)
  | 0, _ => rfl
  | k + 1, p => es_back k (p.2, p.1 % p.2)
theorem mod_half {o q : Nat} (h0 : 0 < q) (h : q < o) : 2 * (o % q) < o := by
  have h1 := Nat.mod_lt o h0
  by_cases e : 2 * q ≤ o
  · omega
  · have e2 : o % q = o - q := by
      rw [Nat.mod_eq_sub_mod (by omega), Nat.mod_eq_of_lt (by omega)]
    omega
theorem es_stop : ∀ (n f o : Nat), o < 2 ^ n → ∃ m, m ≤ 2 * n ∧ (es m (f, o)).2 = 0 ∧ (∀ k, k < m → (es k (f, o)).2 ≠ 0) ∧ (es m (f, o)).1 = Nat.gcd f o
  | 0, f, o, h => by
    have h' : o = 0 := by simpa using h
    subst h'
    exact ⟨0, Nat.le_refl _, rfl, fun k hk => absurd hk (Nat.not_lt_zero _), (Nat.gcd_zero_right f).symm⟩
  | n + 1, f, o, h => by
    by_cases e0 : o = 0
    · subst e0
      exact ⟨0, Nat.zero_le _, rfl, fun k hk => absurd hk (Nat.not_lt_zero _), (Nat.gcd_zero_right f).symm⟩
    by_cases e1 : f % o = 0
    · refine ⟨1, by omega, e1, fun k hk => ?_, ?_⟩
      · have : k = 0 := by omega
        subst this
        exact e0
      · show o = Nat.gcd f o
        exact (Nat.gcd_eq_right (Nat.dvd_of_mod_eq_zero e1)).symm
    · have hlt := Nat.mod_lt f (Nat.pos_of_ne_zero e0)
      have hh := mod_half (Nat.pos_of_ne_zero e1) hlt
      have h2 : o % (f % o) < 2 ^ n := by
        rw [Nat.pow_succ] at h
        omega
      obtain ⟨m, m1, m2, m3, m4⟩ := es_stop n (f % o) (o % (f % o)) h2
      refine ⟨m + 2, by omega, m2, fun k hk => ?_, ?_⟩
      · match k, hk with
        | 0, _ => exact e0
        | 1, _ => exact e1
        | k + 2, hk => exact m3 k (by omega)
      · show (es m (f % o, o % (f % o))).1 = _
        rw [m4]
        exact (Nat.gcd_comm _ _).trans ((Nat.gcd_rec (f % o) o).symm.trans ((Nat.gcd_rec o f).symm.trans (Nat.gcd_comm o f)))
def dvN (xs : List Int) : Nat := xs.foldl (fun g z => Nat.gcd g z.natAbs) 0
def dvL (xs : List Int) : Int := ((dvN xs : Nat) : Int)
theorem dv_succ {xs : List Int} {k : Nat} (h : k < xs.length) : dvN (xs.take (k + 1)) = Nat.gcd (dvN (xs.take k)) (xs.getD k 0).natAbs := by
  unfold dvN
  rw [List.take_succ, List.getElem?_eq_getElem h, List.foldl_append]
  simp [List.getD_eq_getElem?_getD, List.getElem?_eq_getElem h]
theorem dvN_gen : ∀ (xs : List Int) (g : Nat), (xs.foldl (fun g z => Nat.gcd g z.natAbs) g ∣ g ∧ ∀ z ∈ xs, xs.foldl (fun g z => Nat.gcd g z.natAbs) g ∣ z.natAbs) ∧ ∀ m, m ∣ g → (∀ z ∈ xs, m ∣ z.natAbs) → m ∣ xs.foldl (fun g z => Nat.gcd g z.natAbs) g
  | [], g => ⟨⟨Nat.dvd_refl _, fun z hz => by cases hz⟩, fun m hm _ => hm⟩
  | x :: xs, g => by
    obtain ⟨⟨h1, h2⟩, h3⟩ := dvN_gen xs (Nat.gcd g x.natAbs)
    refine ⟨⟨Nat.dvd_trans h1 (Nat.gcd_dvd_left _ _), fun z hz => ?_⟩, fun m hm hz => h3 m (Nat.dvd_gcd hm (hz x List.mem_cons_self)) fun z q => hz z (List.mem_cons_of_mem _ q)⟩
    rcases List.mem_cons.mp hz with rfl | hz
    · exact Nat.dvd_trans h1 (Nat.gcd_dvd_right _ _)
    · exact h2 z hz
theorem dvL_dvd {xs : List Int} {z : Int} (hz : z ∈ xs) : dvL xs ∣ z := Int.natAbs_dvd_natAbs.mp ((dvN_gen xs 0).1.2 z hz)
theorem dvL_great {xs : List Int} {m : Int} (h : ∀ z ∈ xs, m ∣ z) : m ∣ dvL xs := Int.natAbs_dvd_natAbs.mp ((dvN_gen xs 0).2 m.natAbs (Nat.dvd_zero _) fun z hz => Int.natAbs_dvd_natAbs.mpr (h z hz))
theorem dvL_nn (xs : List Int) : 0 ≤ dvL xs := Int.natCast_nonneg _
theorem dvL_pos {xs : List Int} {z : Int} (hz : z ∈ xs) (h : z ≠ 0) : 0 < dvL xs := by
  have h1 := dvL_dvd hz
  have h2 := dvL_nn xs
  rcases Int.lt_or_eq_of_le h2 with q | q
  · exact q
  · rw [← q] at h1
    exact absurd (Int.zero_dvd.mp h1) h
theorem dv_le {xs : List Int} {n : Nat} (h : ∀ z ∈ xs, z.natAbs < 2 ^ n) (k : Nat) : dvN (xs.take k) < 2 ^ n := by
  by_cases e : dvN (xs.take k) = 0
  · rw [e]
    exact Nat.two_pow_pos _
  · have hz : ∃ z ∈ xs.take k, z ≠ 0 := by
      refine Classical.byContradiction fun q => e ?_
      have : dvN (xs.take k) ∣ 0 ∧ 0 ∣ dvN (xs.take k) := ⟨Nat.dvd_zero _, (dvN_gen (xs.take k) 0).2 0 (Nat.dvd_refl _) fun z hz => by
        have : z = 0 := Classical.byContradiction fun r => q ⟨z, hz, r⟩
        rw [this]
        exact Nat.dvd_refl _⟩
      exact Nat.zero_dvd.mp this.2
    obtain ⟨z, hz, h0⟩ := hz
    have h1 := (dvN_gen (xs.take k) 0).1.2 z hz
    have h2 := Nat.le_of_dvd (by omega) h1
    exact Nat.lt_of_le_of_lt h2 (h z (List.mem_of_mem_take hz))
def R_law_dv : List D → Out → Prop := fun ds o => ∃ (d : D) (xs : List Int), ds = [d] ∧ Seq d xs ∧ xs.length ≤ 1000 ∧ (∀ z ∈ xs, z.natAbs < 2 ^ 190) ∧ o = .v (.int (dvL xs))
end TB

namespace TB
open PySem L2 PySem.Spec PyProof.Rows
theorem eqv_li (ns ms : List Int) : PyData.eqv (li ns) (li ms) = decide (ns = ms) := by
  show PyData.eqv (.list _) (.list _) = _
  rw [PyData.eqv]
  exact eqvAll_ints ns ms
/-! ### turns as data -/
inductive SeqAll : List D → List (List Int) → Prop
  | nil : SeqAll [] []
  | cons {d : D} {r : List Int} {ds : List D} {rs : List (List Int)} : Seq d r → SeqAll ds rs → SeqAll (d :: ds) (r :: rs)
theorem SeqAll.len : ∀ {ds : List D} {rs : List (List Int)}, SeqAll ds rs → ds.length = rs.length
  | _, _, .nil => rfl
  | _, _, .cons _ h => by rw [List.length_cons, List.length_cons, h.len]
theorem SeqAll.get : ∀ {ds : List D} {rs : List (List Int)} {k : Nat} {d : D}, SeqAll ds rs → ds[k]? = some d → k < rs.length ∧ Seq d (rs.getD k [])
  | _, _, k, _, .nil, e => by simp at e
  | _, _, 0, _, .cons h _, e => by
    simp at e
    subst e
    exact ⟨by simp, h⟩
  | _, _, k + 1, _, .cons _ h, e => by
    obtain ⟨h1, h2⟩ := h.get (k := k) (by simpa using e)
    exact ⟨by simpa using h1, by simpa using h2⟩
theorem SeqAll.mem : ∀ {ds : List D} {rs : List (List Int)} {p : D × List Int}, SeqAll ds rs → p ∈ ds.zip rs → Seq p.1 p.2 ∧ p.2 ∈ rs
  | _, _, p, .nil, hp => by cases hp
  | _, _, p, .cons h t, hp => by
    rcases List.mem_cons.mp hp with rfl | hp
    · exact ⟨h, List.mem_cons_self⟩
    · obtain ⟨h1, h2⟩ := t.mem hp
      exact ⟨h1, List.mem_cons_of_mem _ h2⟩
theorem SeqAll.fst : ∀ {ds : List D} {rs : List (List Int)}, SeqAll ds rs → (ds.zip rs).map Prod.fst = ds ∧ (ds.zip rs).map Prod.snd = rs
  | _, _, .nil => ⟨rfl, rfl⟩
  | _, _, .cons _ h => by
    obtain ⟨h1, h2⟩ := h.fst
    constructor
    · rw [List.zip_cons_cons, List.map_cons, h1]
    · rw [List.zip_cons_cons, List.map_cons, h2]
theorem seqAll_ti : ∀ rs : List (List Int), SeqAll (rs.map ti) rs
  | [] => .nil
  | r :: rs => .cons (.inl rfl) (seqAll_ti rs)
theorem seqAll_li : ∀ rs : List (List Int), SeqAll (rs.map li) rs
  | [] => .nil
  | r :: rs => .cons (.inr rfl) (seqAll_li rs)
/-- rows of three integers, not too great -/
structure Rows3 (m : Nat) (rs : List (List Int)) : Prop where
  n : rs.length ≤ 10
  l : ∀ r ∈ rs, r.length = 3
  b : ∀ r ∈ rs, ∀ z ∈ r, Bt m z
def R_low : List D → Out → Prop := fun ds o => ∃ (s : Int) (dr : D) (es : List D) (rs : List (List Int)), ds = [.int s, dr] ∧ 0 < s ∧ Bt 400 s ∧ SqD dr es ∧ SeqAll es rs ∧ Rows3 400 rs ∧ o = .v (turnD (lowS s rs) (lowR s rs))
theorem gT_take_pos {rs : List (List Int)} {s : Int} (h : ∀ r ∈ rs, r.length = 3) (hs : 0 < s) (k : Nat) : 0 < gT s (rs.take k) ∧ gT s (rs.take k) ∣ s := by
  obtain ⟨h1, h2, _⟩ := gT_ok (rs := rs.take k) (fun r hr => h r (List.mem_of_mem_take hr)) hs
  exact ⟨h1, h2⟩
theorem bt_dvd {m : Nat} {a b : Int} (hb : 0 < b) (h : a ∣ b) (hB : Bt m b) : Bt m a := by
  have := Nat.le_of_dvd (by omega) (Int.natAbs_dvd_natAbs.mpr h)
  unfold Bt at *
  omega
theorem bt_mul {m n : Nat} {x y : Int} (h : Bt m x) (g : Bt n y) : Bt (m + n) (x * y) := by
  unfold Bt at *
  rw [Int.natAbs_mul, Nat.pow_add]
  exact Nat.mul_lt_mul_of_lt_of_lt h g
theorem bt_up {m n : Nat} {x : Int} (h : Bt m x) (hn : m ≤ n) : Bt n x := Nat.lt_of_lt_of_le h (Nat.pow_le_pow_right (by decide) hn)
theorem rr_a {N : Nat} {p q r s : Int} (h1 : p.natAbs < N) (h2 : q.natAbs < N) (h3 : r.natAbs < N) (h4 : s.natAbs < N) : (p + q - r - s).natAbs < 8 * N := by omega
theorem rr_b {N : Nat} {p q r s : Int} (h1 : p.natAbs < N) (h2 : q.natAbs < N) (h3 : r.natAbs < N) (h4 : s.natAbs < N) : (p - q + r - s).natAbs < 8 * N := by omega
theorem rr_c {N : Nat} {p q r s : Int} (h1 : p.natAbs < N) (h2 : q.natAbs < N) (h3 : r.natAbs < N) (h4 : s.natAbs < N) : (p - q - r + s).natAbs < 8 * N := by omega
theorem rr_s {N : Nat} {p q r s : Int} (h1 : p.natAbs < N) (h2 : q.natAbs < N) (h3 : r.natAbs < N) (h4 : s.natAbs < N) : (p + (q + (r + (s + 0)))).natAbs < 8 * N := by omega
theorem rr_m {N : Nat} {p q : Int} (h1 : p.natAbs < N) (h2 : q.natAbs < N) : (2 * (p - q)).natAbs < 8 * N := by omega
theorem rr_p {N : Nat} {p q : Int} (h1 : p.natAbs < N) (h2 : q.natAbs < N) : (2 * (p + q)).natAbs < 8 * N := by omega
theorem rows_rot {x : List Int} {m : Nat} (hx : x.length = 4) (h : ∀ z ∈ x, Bt m z) : Rows3 (m + m + 3) (rowsT x) ∧ Bt (m + m + 3) (sqS x) := by
  obtain ⟨a, b, c, d, rfl⟩ := four hx
  have ba := h a (by simp)
  have bb := h b (by simp)
  have bc := h c (by simp)
  have bd := h d (by simp)
  have p : ∀ {u v : Int}, Bt m u → Bt m v → (u * v).natAbs < 2 ^ (m + m) := fun h g => bt_mul h g
  have e : (2 : Nat) ^ (m + m + 3) = 8 * 2 ^ (m + m) := by rw [Nat.pow_add, Nat.mul_comm]
  have aa := p ba ba
  have bb' := p bb bb
  have cc := p bc bc
  have dd := p bd bd
  have ab := p ba bb
  have ac := p ba bc
  have ad := p ba bd
  have bc' := p bb bc
  have bd' := p bb bd
  have cd := p bc bd
  refine ⟨⟨by rw [(rot_len hx).2]; decide, (rot_len hx).1, fun r hr z hz => ?_⟩, ?_⟩
  · unfold Bt
    rw [e]
    rcases List.mem_cons.mp hr with rfl | hr
    · rcases List.mem_cons.mp hz with rfl | hz
      · exact rr_a aa bb' cc dd
      rcases List.mem_cons.mp hz with rfl | hz
      · exact rr_m bc' ad
      rcases List.mem_cons.mp hz with rfl | hz
      · exact rr_p bd' ac
      · cases hz
    rcases List.mem_cons.mp hr with rfl | hr
    · rcases List.mem_cons.mp hz with rfl | hz
      · exact rr_p bc' ad
      rcases List.mem_cons.mp hz with rfl | hz
      · exact rr_b aa bb' cc dd
      rcases List.mem_cons.mp hz with rfl | hz
      · exact rr_m cd ab
      · cases hz
    rcases List.mem_cons.mp hr with rfl | hr
    · rcases List.mem_cons.mp hz with rfl | hz
      · exact rr_m bd' ac
      rcases List.mem_cons.mp hz with rfl | hz
      · exact rr_p cd ab
      rcases List.mem_cons.mp hz with rfl | hz
      · exact rr_c aa bb' cc dd
      · cases hz
    · cases hr
  · show Bt _ (a * a + (b * b + (c * c + (d * d + 0))))
    unfold Bt
    rw [e]
    exact rr_s aa bb' cc dd
def R_turn (c q : Addr) : List D → Out → Prop := fun ds o => ∃ d x, ds = [d] ∧ Seq d x ∧ isNum x = true ∧ zeroB x = false ∧ (∀ z ∈ x, Bt 190 z) ∧ o = .v (turnD (turnS x) (turnR x))
theorem sh_turn (s : Int) (rs : List (List Int)) : SeqAt.shaped (turnD s rs) = true := by
  obtain ⟨h1, h2⟩ := lay_tis rs
  unfold turnD
  simp only [SeqAt.shaped, PyData.canLay0, PyData.canLayAll0, PyData.depth, PyData.depthAll, h1, Bool.and_self, Bool.true_and]
  exact decide_eq_true (by omega)
theorem eqv_turn (s t : Int) (rs qs : List (List Int)) : PyData.eqv (turnD s rs) (turnD t qs) = (decide (s = t) && decide (rs = qs)) := by
  show PyData.eqv (.tuple [.int s, .tuple (rs.map ti)]) (.tuple [.int t, .tuple (qs.map ti)]) = _
  rw [PyData.eqv, PyData.eqvAll, PyData.eqvAll, PyData.eqvAll, Bool.and_true]
  congr 1
  show PyData.eqv (.tuple (rs.map ti)) (.tuple (qs.map ti)) = _
  rw [PyData.eqv]
  exact eqv_tis rs qs
end TB

namespace TB
open PySem L2 PySem.Spec PyProof.Rows
theorem turn_bool {x y : List Int} (hx : isNum x = true) (hy : isNum y = true) (zx : zeroB x = false) (zy : zeroB y = false) : (decide (turnS x = turnS y) && decide (turnR x = turnR y)) = allCross x y := by
  rw [Bool.eq_iff_iff, Bool.and_eq_true, decide_eq_true_eq, decide_eq_true_eq]
  exact turn_cross hx hy zx zy
def R_aot (c q : Addr) : List D → Out → Prop := fun ds o => ∃ d e x y, ds = [d, e] ∧ Seq d x ∧ Seq e y ∧ isNum x = true ∧ isNum y = true ∧ zeroB x = false ∧ zeroB y = false ∧ (∀ z ∈ x, Bt 190 z) ∧ (∀ z ∈ y, Bt 190 z) ∧ o = .v (.bool (allCross x y))
/-! ### the law's own primitive number of a turn -/
theorem zeroB_iff {x : List Int} : zeroB x = true ↔ ∀ z ∈ x, z = 0 := by
  unfold zeroB
  simp
def primP (x : List Int) : List Int := if ((quoL (dvL x) x).filter fun z => decide (z % 2 = 1)).length < 4 then (quoL (dvL x) x).map (fun z => 2 * z) else quoL (dvL x) x
def primT (x : List Int) : List Int := if primP x < (primP x).map (fun z => 0 - z) then (primP x).map (fun z => 0 - z) else primP x
theorem dv_ok {x : List Int} (hx : isNum x = true) (h0 : zeroB x = false) : 0 < dvL x ∧ timesL (dvL x) (quoL (dvL x) x) = x := by
  have hp : 0 < dvL x := by
    have hz : ∃ z ∈ x, z ≠ 0 := by
      refine Classical.byContradiction fun q => ?_
      have : zeroB x = true := zeroB_iff.mpr fun z hz => Classical.byContradiction fun r => q ⟨z, hz, r⟩
      rw [h0] at this
      cases this
    obtain ⟨z, hz, h⟩ := hz
    exact dvL_pos hz h
  exact ⟨hp, quo_times hp fun z hz => Int.emod_eq_zero_of_dvd (dvL_dvd hz)⟩
theorem filter_all {α : Type} {p : α → Bool} : ∀ {l : List α}, (l.filter p).length = l.length → ∀ z ∈ l, p z = true
  | [], _, z, hz => by cases hz
  | a :: l, h, z, hz => by
    have hle := List.length_filter_le p l
    by_cases ha : p a = true
    · rw [List.filter_cons_of_pos ha, List.length_cons, List.length_cons] at h
      rcases List.mem_cons.mp hz with rfl | hz
      · exact ha
      · exact filter_all (by omega) z hz
    · rw [List.filter_cons_of_neg ha, List.length_cons] at h
      omega
theorem primP_num {x : List Int} (hx : isNum x = true) (h0 : zeroB x = false) : isNum (primP x) = true ∧ zeroB (primP x) = false ∧ ∃ m n : Int, 0 < m ∧ 0 < n ∧ timesL m (primP x) = timesL n x := by
  obtain ⟨hp, e⟩ := dv_ok hx h0
  have hl : (quoL (dvL x) x).length = 4 := by rw [quo_len, num_len hx]
  have hz : zeroB (quoL (dvL x) x) = false := by
    cases q : zeroB (quoL (dvL x) x) with
    | false => rfl
    | true =>
      have : zeroB x = true := by
        rw [← e]
        refine zeroB_iff.mpr fun z hz => ?_
        obtain ⟨y, hy, rfl⟩ := List.mem_map.mp hz
        rw [zeroB_iff.mp q y hy, Int.zero_mul]
      rw [h0] at this
      cases this
  unfold primP
  generalize hq : quoL (dvL x) x = q at *
  obtain ⟨a, b, c, d, rfl⟩ := four hl
  split
  · have hev : isNum [2 * a, 2 * b, 2 * c, 2 * d] = true := isNum_of ⟨by omega, by omega, by omega⟩
    refine ⟨hev, ?_, dvL x, 2, hp, by decide, ?_⟩
    · have e2 : ([a, b, c, d].map fun z => 2 * z) = [2 * a, 2 * b, 2 * c, 2 * d] := rfl
      rw [e2]
      cases r : zeroB [2 * a, 2 * b, 2 * c, 2 * d] with
      | false => rfl
      | true =>
        have h1 := zeroB_iff.mp r
        have ha : a = 0 := by have := h1 (2 * a) (by simp); omega
        have hb : b = 0 := by have := h1 (2 * b) (by simp); omega
        have hc : c = 0 := by have := h1 (2 * c) (by simp); omega
        have hd : d = 0 := by have := h1 (2 * d) (by simp); omega
        subst ha hb hc hd
        cases hz
    · conv => rhs; rw [← e]
      show [2 * a * dvL x, 2 * b * dvL x, 2 * c * dvL x, 2 * d * dvL x] = [a * dvL x * 2, b * dvL x * 2, c * dvL x * 2, d * dvL x * 2]
      congr 1
      · grind
      congr 1
      · grind
      congr 1
      · grind
      congr 1
      grind
  · next h =>
    have hle := List.length_filter_le (fun z => decide (z % 2 = 1)) [a, b, c, d]
    have ho := filter_all (p := fun z : Int => decide (z % 2 = 1)) (l := [a, b, c, d]) (by
      have : [a, b, c, d].length = 4 := rfl
      omega)
    have oa := of_decide_eq_true (ho a (by simp))
    have ob := of_decide_eq_true (ho b (by simp))
    have oc := of_decide_eq_true (ho c (by simp))
    have od := of_decide_eq_true (ho d (by simp))
    refine ⟨isNum_of ⟨by omega, by omega, by omega⟩, hz, dvL x, 1, hp, by decide, ?_⟩
    rw [e]
    unfold timesL
    conv => lhs; rw [← List.map_id x]
    refine List.map_congr_left fun z _ => ?_
    show z = z * 1
    omega
theorem neg_is (x : List Int) : x.map (fun z => 0 - z) = negL x := neg_zero_sub x
theorem primT_ok {x : List Int} {m : Nat} (g : G m x) (h0 : zeroB x = false) : G (m + 1) (primT x) ∧ zeroB (primT x) = false := by
  obtain ⟨hn, hz, _⟩ := primP_num g.num h0
  obtain ⟨hp, _⟩ := dv_ok g.num h0
  have hb : ∀ z ∈ primP x, Bt (m + 1) z := fun z hz => by
    have hq : ∀ y ∈ quoL (dvL x) x, Bt m y := fun y hy => by
      obtain ⟨w, hw, rfl⟩ := List.mem_map.mp hy
      exact quo_bt hp (g.sm w hw)
    unfold primP at hz
    split at hz
    · obtain ⟨y, hy, rfl⟩ := List.mem_map.mp hz
      have := hq y hy
      unfold Bt at *
      rw [Nat.pow_succ]
      omega
    · exact bt_up (hq z hz) (by omega)
  have gp : G (m + 1) (primP x) := ⟨hn, hb⟩
  unfold primT
  split
  · rw [neg_is]
    refine ⟨gp.neg, ?_⟩
    cases q : zeroB (negL (primP x)) with
    | false => rfl
    | true =>
      have : zeroB (primP x) = true := zeroB_iff.mpr fun z hz => by
        have h : -z = 0 := zeroB_iff.mp q (-z) (List.mem_map_of_mem (f := fun p => -p) hz)
        omega
      rw [hz] at this
      cases this
  · exact ⟨gp, hz⟩
def R_law_primT : List D → Out → Prop := fun ds o => ∃ x, ds = [ti x] ∧ isNum x = true ∧ zeroB x = false ∧ (∀ z ∈ x, Bt 190 z) ∧ o = .v (ti (primT x))
/-! ### k39 -/
def setP (x : List Int) (t : Nat) : List Int := x.take t ++ [x.getD t 0 + 2] ++ x.drop (t + 1)
theorem setP_G {m : Nat} {x : List Int} (g : G m x) {t : Nat} (ht : t < 4) (hm : 3 ≤ m) : G (m + 1) (setP x t) := by
  obtain ⟨hn, hs⟩ := g
  obtain ⟨a, b, c, d, rfl⟩ := four (num_len hn)
  obtain ⟨k1, k2, k3⟩ := (isNum4 a b c d).mp hn
  have ba : a.natAbs < 2 ^ m := hs a (by simp)
  have bb : b.natAbs < 2 ^ m := hs b (by simp)
  have bc : c.natAbs < 2 ^ m := hs c (by simp)
  have bd : d.natAbs < 2 ^ m := hs d (by simp)
  have e : (2 : Nat) ^ (m + 1) = 2 ^ m * 2 := Nat.pow_succ ..
  have e2 : 8 ≤ (2 : Nat) ^ m := Nat.pow_le_pow_right (n := 2) (by decide) hm
  have key : ∀ p q r u : Int, Par p q r u → p.natAbs < 2 ^ m * 2 → q.natAbs < 2 ^ m * 2 → r.natAbs < 2 ^ m * 2 → u.natAbs < 2 ^ m * 2 → G (m + 1) [p, q, r, u] := fun p q r u hp h1 h2 h3 h4 => by
    refine ⟨isNum_of hp, fun z hz => ?_⟩
    unfold Bt
    rw [e]
    rcases List.mem_cons.mp hz with rfl | hz
    · exact h1
    rcases List.mem_cons.mp hz with rfl | hz
    · exact h2
    rcases List.mem_cons.mp hz with rfl | hz
    · exact h3
    rcases List.mem_cons.mp hz with rfl | hz
    · exact h4
    · cases hz
  match t, ht with
  | 0, _ => exact key (a + 2) b c d ⟨by omega, by omega, by omega⟩ (by omega) (by omega) (by omega) (by omega)
  | 1, _ => exact key a (b + 2) c d ⟨by omega, by omega, by omega⟩ (by omega) (by omega) (by omega) (by omega)
  | 2, _ => exact key a b (c + 2) d ⟨by omega, by omega, by omega⟩ (by omega) (by omega) (by omega) (by omega)
  | 3, _ => exact key a b c (d + 2) ⟨by omega, by omega, by omega⟩ (by omega) (by omega) (by omega) (by omega)
def facL : List Int := [2, -1, 3, -5, 7]
def othK (ns x : List Int) : List Int :=
  if ns.getD 60 0 % 4 = 0 then drawnG ns 30 else if ns.getD 60 0 % 4 = 1 then timesL (facL.getD (ns.getD 61 0 % 5).toNat 0) x else if ns.getD 60 0 % 4 = 2 then primT x else setP x (ns.getD 61 0 % 4).toNat
theorem fac_ok : ∀ k, k < 5 → (facL.getD k 0).natAbs < 2 ^ 3 := by decide
theorem othK_G {ns x : List Int} (h : In9 ns) (g : G 43 x) (h0 : zeroB x = false) : G 60 (othK ns x) := by
  unfold othK
  split
  · exact (drawnG_ok h 30).1.up (by decide)
  split
  · exact (g.times (fac_ok _ (by omega))).up (by decide)
  split
  · exact (primT_ok g h0).1.up (by decide)
  · exact (setP_G g (by omega) (by decide)).up (by decide)
def R_law_oth : List D → Out → Prop := fun ds o => ∃ ns x, ds = [li ns, ti x] ∧ In9 ns ∧ ns.length = 70 ∧ G 43 x ∧ zeroB x = false ∧ o = .v (ti (othK ns x))
def oth2 (x : List Int) : List Int := if zeroB x = true then [2, 0, 0, 0] else x
def dueA (x y : List Int) (a : Nat) : Bool := (List.range a).all fun i => (List.range i).all fun j => crossE x y i j
def dueB (x y : List Int) (a b : Nat) : Bool := dueA x y a && (List.range b).all fun j => crossE x y a j
theorem due_A (x y : List Int) (a : Nat) : dueB x y a a = dueA x y (a + 1) := by
  unfold dueB dueA
  rw [List.range_succ, List.all_append]
  simp
theorem due_B (x y : List Int) (a b : Nat) : dueB x y a (b + 1) = (dueB x y a b && crossE x y a b) := by
  unfold dueB
  rw [List.range_succ, List.all_append]
  simp [Bool.and_assoc]
end TB
namespace TB
theorem getD_mem4 {x : List Int} {k : Nat} (h : k < x.length) : x.getD k 0 ∈ x := by
  rw [List.getD_eq_getElem?_getD, List.getElem?_eq_getElem h]
  exact List.getElem_mem h
end TB

namespace TB
open PySem L2 PySem.Spec PyProof.Rows
/-! ### a walk down: range(i, j, -1) -/
def rngC (lo c : Int) (n : Nat) : List D := (List.range n).map fun i => .int (lo + (i : Nat) * c)
theorem rngC_len (lo c : Int) (n : Nat) : (rngC lo c n).length = n := by unfold rngC; rw [List.length_map, List.length_range]
theorem rngC_get {lo c : Int} {n i : Nat} {d : D} (h : (rngC lo c n)[i]? = some d) : i < n ∧ d = .int (lo + (i : Nat) * c) := by
  have hi := (List.getElem?_eq_some_iff.mp h).1
  rw [rngC_len] at hi
  refine ⟨hi, ?_⟩
  unfold rngC at h
  rw [List.getElem?_map, List.getElem?_eq_getElem (by rw [List.length_range]; exact hi)] at h
  simp at h
  exact h.symm
theorem itc_d {K : PySem.W.Frag} {F : Hp} {lo c : Int} {n : Nat} : ItD K F (Itc lo c n) (rngC lo c n) := fun F1 H i e1 e2 => by
  refine ⟨fun d e => ?_, fun e => by rw [rngC_len] at e; exact Nat.le_of_eq e.symm⟩
  obtain ⟨h1, h2⟩ := rngC_get e
  subst h2
  refine ⟨h1, fun x H' y => ?_⟩
  obtain ⟨e1', e2'⟩ := y
  subst e1' e2'
  exact ⟨F1, Fz.refl e2, .int _⟩
section
variable {X : Cx} {F0 H0 : Hp} {Γ : List S} {a b c tg : Expr} {pos np : Pos} {i j : Int}
theorem ji_down (hm : X.mg "range" = none) (h0 : -(2 ^ 62) ≤ i ∧ i < 2 ^ 62 ∧ -(2 ^ 62) ≤ j ∧ j < 2 ^ 62) (ha : JE X WF F0 H0 Γ a (.v (.int i))) (hb : JE X WF F0 H0 Γ b (.v (.int j))) (hc : JE X WF F0 H0 Γ c (.v (.int (-1)))) (hg : Gl X "range" := by rfl)
    (hs : starEach [a, b, c] X.env = (false, eval a X.env) :: starEach [b, c] X.env := by rfl) (hs2 : starEach [b, c] X.env = (false, eval b X.env) :: starEach [c] X.env := by rfl) (hs3 : starEach [c] X.env = (false, eval c X.env) :: starEach [] X.env := by rfl) (hpl : (backTo pos (starEach [b, c] X.env)).any (·.1) = false := by rfl) :
    JI X F0 H0 Γ tg (.Call (.Name "range" np) [a, b, c] [] pos) (rngC i (-1) (i - j).toNat) :=
  pi_imp (pi_range3 hg hm (ja_cons ha (ja_cons hb (ja_cons hc ja_nil hs3) hs2) hs) hs hpl) fun σ H R ⟨F, ok, q⟩ => ⟨F, ok, fun vs F1 H1 z1 d1 => by
    cases d1 with
    | cons k1 k2 =>
      cases k2 with
      | cons k2 k3 =>
        cases k3 with
        | cons k3 k4 =>
          cases k1; cases k2; cases k3; cases k4
          exact ⟨i, j, -1, (i - j).toNat, rfl, RgC.neg h0.1 h0.2.1 h0.2.2.1 h0.2.2.2, q _ F1 H1 z1 itc_d⟩⟩
end
/-! ### k19: primes of a norm -/
def primsL : List Int := [3, 5, 7, 11, 13, 17, 19, 23, 29, 31]
def wp (p : Int) : List Int := [2 * p, 0, 0, 0]
theorem prims_inv : ∀ p ∈ primsL, ∀ r ∈ List.range 31, (r : Int) ≠ 0 → (r : Int) < p → ((List.range 31).any fun u => decide (((u : Int) * r) % p = 1)) = true := by decide +kernel
theorem prims_sq : ∀ p ∈ primsL, ∀ n ∈ List.range 962, n ≠ 0 → (p * p) % (n : Int) = 0 → (n : Int) = 1 ∨ (n : Int) = p ∨ (n : Int) = p * p := by decide +kernel
theorem prims_in : ∀ p ∈ primsL, 3 ≤ p ∧ p ≤ 31 ∧ p % 2 = 1 := by decide
theorem bez {p N : Int} (hp : p ∈ primsL) (h : N % p ≠ 0) : ∃ u v : Int, u * N + v * p = 1 := by
  obtain ⟨p1, p2, _⟩ := prims_in p hp
  have r0 : 0 ≤ N % p := Int.emod_nonneg _ (by omega)
  have r1 : N % p < p := Int.emod_lt_of_pos _ (by omega)
  have q := prims_inv p hp (N % p).toNat (List.mem_range.mpr (by omega)) (by omega) (by omega)
  obtain ⟨u, _, hu⟩ := List.any_eq_true.mp q
  have hu' := of_decide_eq_true hu
  have e1 : (((N % p).toNat : Nat) : Int) = N % p := by omega
  rw [e1] at hu'
  have e2 : ((u : Int) * N) % p = 1 := by
    rw [Int.mul_emod, Int.mul_emod] at hu'
    rw [Int.mul_emod]
    simpa [Int.emod_emod_of_dvd] using hu'
  refine ⟨u, -(((u : Int) * N) / p), ?_⟩
  have := Int.emod_add_mul_ediv ((u : Int) * N) p
  rw [e2] at this
  have e3 : -(((u : Int) * N) / p) * p = -(p * (((u : Int) * N) / p)) := by rw [Int.neg_mul, Int.mul_comm]
  rw [e3]
  omega
theorem one_num : isNum [2, 0, 0, 0] = true := by decide
theorem unit_one {d : List Int} (hd : isNum d = true) (h : normL d = 1) (hc : canonL d = d) : d = [2, 0, 0, 0] := by
  have hu : d ∈ unitsL := by
    have := unit_iff hd
    rw [decide_eq_true h] at this
    exact of_decide_eq_true this.symm
  have e := canon_asso (x := [2, 0, 0, 0]) one_num hu
  rw [mul_one' hd, hc] at e
  rw [e]
  exact (canon_eq (x := [2, 0, 0, 0]) (m := [2, 0, 0, 0]) (by decide +kernel) (by decide +kernel)).symm
theorem conj_timesL (m : Int) {x : List Int} (hx : isNum x = true) : conjL (timesL m x) = timesL m (conjL x) := by
  obtain ⟨a, b, c, d, rfl⟩ := four (num_len hx)
  show [a * m, -(b * m), -(c * m), -(d * m)] = [a * m, -b * m, -c * m, -d * m]
  rw [Int.neg_mul, Int.neg_mul, Int.neg_mul]
theorem wp_ok {p : Int} (hp : p ∈ primsL) : isNum (wp p) = true ∧ zeroB (wp p) = false ∧ normL (wp p) = p * p ∧ conjL (wp p) = wp p ∧ G 10 (wp p) := by
  revert p
  have h : ∀ p ∈ primsL, isNum (wp p) = true ∧ zeroB (wp p) = false ∧ normL (wp p) = p * p ∧ conjL (wp p) = wp p ∧ ∀ z ∈ wp p, z.natAbs < 2 ^ 10 := by decide +kernel
  intro p hp
  obtain ⟨h1, h2, h3, h4, h5⟩ := h p hp
  exact ⟨h1, h2, h3, h4, h1, h5⟩
theorem norm_one' : normL [2, 0, 0, 0] = 1 := by decide
theorem lg_apart {p : Int} {x : List Int} (hp : p ∈ primsL) (hx : isNum x = true) (h : normL x % p ≠ 0) : lgcd x (wp p) = [2, 0, 0, 0] := by
  obtain ⟨w1, w2, w3, w4, _⟩ := wp_ok hp
  have hz : ¬ (zeroB x = true ∧ zeroB (wp p) = true) := by rw [w2]; exact fun h => Bool.noConfusion h.2
  have sp := lgcd_spec hx w1 hz
  obtain ⟨u, v, e⟩ := bez hp h
  have d1 : LDiv (lgcd x (wp p)) [2, 0, 0, 0] := by
    have e1 : ([2, 0, 0, 0] : List Int) = addL (mulL x (mulL (conjL x) [2 * u, 0, 0, 0])) (mulL (wp p) [2 * v, 0, 0, 0]) := by
      rw [← mul_asc hx (num_conj hx) (num_int u), (mul_conj hx).1]
      unfold wp
      rw [(mul_int (normL x) (num_int u)).1, (mul_int p (num_int v)).1]
      show _ = [2 * u * normL x + 2 * v * p, 0 * normL x + 0 * p, 0 * normL x + 0 * p, 0 * normL x + 0 * p]
      simp only [Int.zero_mul, Int.add_zero]
      congr 1
      rw [Int.mul_assoc, Int.mul_assoc, ← Int.mul_add, e]
      rfl
    rw [e1]
    exact LDiv.add sp.1 (LDiv.mul sp.1 (num_mul (num_conj hx) (num_int u)) sp.2.2.1) (LDiv.mul sp.1 (num_int v) sp.2.2.2.1)
  obtain ⟨y, hy, ey⟩ := d1
  have en := congrArg normL ey
  rw [norm_one', norm_mul sp.1 hy] at en
  have n1 := norm_pos sp.1 sp.2.1
  have n2 := norm_nn hy
  have n3 : normL (lgcd x (wp p)) = 1 := by
    have : normL (lgcd x (wp p)) ∣ 1 := ⟨_, en⟩
    have := Int.le_of_dvd (by decide) this
    omega
  exact unit_one sp.1 n3 (lgcd_canon hx w1 hz)
theorem lg_prime {p : Int} {x : List Int} (hp : p ∈ primsL) (hx : isNum x = true) (hd : ¬ Div p x) (h : normL x % p = 0) : normL (lgcd x (wp p)) = p := by
  obtain ⟨w1, w2, w3, w4, _⟩ := wp_ok hp
  obtain ⟨p1, p2, _⟩ := prims_in p hp
  have hz : ¬ (zeroB x = true ∧ zeroB (wp p) = true) := by rw [w2]; exact fun h => Bool.noConfusion h.2
  have sp := lgcd_spec hx w1 hz
  obtain ⟨hdn, hdz, ⟨f, hf, ef⟩, ⟨e, he, ee⟩, x', y', hx', hy', es⟩ := sp
  generalize lgcd x (wp p) = d at *
  have n1 := norm_pos hdn hdz
  have en := congrArg normL ee
  rw [w3, norm_mul hdn he] at en
  have n2 : 0 < normL e := by
    have n2' := norm_nn he
    rcases Int.lt_or_eq_of_le n2' with q | q
    · exact q
    · rw [← q, Int.mul_zero] at en
      have : 0 < p * p := Int.mul_pos (by omega) (by omega)
      omega
  have hdv : normL d ∣ p * p := ⟨_, en⟩
  have hp2 : p * p ≤ 961 := by
    have : p * p ≤ 31 * 31 := Int.mul_le_mul p2 p2 (by omega) (by decide)
    omega
  have hle := Int.le_of_dvd (Int.mul_pos (by omega) (by omega)) hdv
  have cs := prims_sq p hp (normL d).toNat (List.mem_range.mpr (by omega)) (by omega)
  have e1 : (((normL d).toNat : Nat) : Int) = normL d := by omega
  rw [e1] at cs
  rcases cs (Int.emod_eq_zero_of_dvd hdv) with c | c | c
  · exfalso
    refine hd ?_
    have e2 : ([2, 0, 0, 0] : List Int) = addL (mulL x (mulL x' (conjL d))) (mulL (wp p) (mulL y' (conjL d))) := by
      rw [← mul_asc hx hx' (num_conj hdn), ← mul_asc w1 hy' (num_conj hdn), ← mul_addl (num_mul hx hx') (num_mul w1 hy') (num_conj hdn), ← es, (mul_conj hdn).1, c]
      rfl
    have hX := num_mul hx' (num_conj hdn)
    have hY := num_mul hy' (num_conj hdn)
    generalize mulL x' (conjL d) = X at *
    generalize mulL y' (conjL d) = Y at *
    obtain ⟨k, ek⟩ : p ∣ normL x := Int.dvd_of_emod_eq_zero h
    have e3 : conjL x = timesL p (addL (timesL k X) (mulL (conjL x) Y)) := by
      have e4 := congrArg (mulL (conjL x)) e2
      rw [mul_oneR (num_conj hx), mul_addr (num_conj hx) (num_mul hx hX) (num_mul w1 hY), ← mul_asc (num_conj hx) hx hX, (mul_conj hx).2, (mul_int (normL x) hX).1] at e4
      have e5 : mulL (conjL x) (mulL (wp p) Y) = timesL p (mulL (conjL x) Y) := by
        unfold wp
        rw [(mul_int p hY).1, ← (mul_int p hY).2, ← mul_asc (num_conj hx) hY (num_int p), (mul_int p (num_mul (num_conj hx) hY)).2]
      rw [e5, ek] at e4
      refine e4.trans ?_
      have hZ := num_mul (num_conj hx) hY
      generalize mulL (conjL x) Y = Z at hZ
      obtain ⟨a, b, c', d', rfl⟩ := four (num_len hX)
      obtain ⟨q, r, s, t, rfl⟩ := four (num_len hZ)
      show [a * (p * k) + q * p, b * (p * k) + r * p, c' * (p * k) + s * p, d' * (p * k) + t * p] = [(a * k + q) * p, (b * k + r) * p, (c' * k + s) * p, (d' * k + t) * p]
      congr 1
      · grind
      congr 1
      · grind
      congr 1
      · grind
      congr 1
      grind
    have hW : isNum (addL (timesL k X) (mulL (conjL x) Y)) = true := num_add (num_times k hX) (num_mul (num_conj hx) hY)
    refine ⟨conjL (addL (timesL k X) (mulL (conjL x) Y)), num_conj hW, ?_⟩
    rw [← conj_timesL p hW, ← e3, conj_conj hx]
  · exact c
  · exfalso
    refine hd ?_
    have ne : normL e = 1 := by
      rw [c] at en
      have hpp : 0 < p * p := Int.mul_pos (by omega) (by omega)
      have : p * p * normL e = p * p * 1 := by rw [Int.mul_one]; exact en.symm
      exact Int.eq_of_mul_eq_mul_left (by omega) this
    have e2 : d = timesL p (conjL e) := by
      have := congrArg (fun z => mulL z (conjL e)) ee
      have this : mulL (wp p) (conjL e) = mulL (mulL d e) (conjL e) := this
      rw [mul_asc hdn he (num_conj he), (mul_conj he).1, ne] at this
      rw [show ([2 * 1, 0, 0, 0] : List Int) = [2, 0, 0, 0] from rfl, mul_oneR hdn] at this
      rw [← this]
      unfold wp
      exact (mul_int p (num_conj he)).1
    refine ⟨mulL (conjL e) f, num_mul (num_conj he) hf, ?_⟩
    rw [ef, e2, times_mul p (num_conj he) hf]
/-! the law's own primitive number -/
def stepP (D : Int) (x : List Int) : List Int := if x.all (fun z => decide (z % D = 0)) = true then (if isNum (quoL D x) = true then quoL D x else x) else x
def rawP (ns : List Int) (p : Nat) : List Int := (List.range 4).map fun k => 2 * (ns.getD (p + 1 + k) 0 % 13 - 6) + ns.getD p 0 % 2
def prP (x : List Int) : Nat → List Int
  | 0 => x
  | k + 1 => stepP (13 + (k : Nat) * (-1)) (prP x k)
def begP (ns : List Int) (p : Nat) : List Int := if zeroB (rawP ns p) = true then [2, 4, 0, 0] else rawP ns p
structure InvP (D : Int) (x : List Int) : Prop where
  n : isNum x = true
  z : zeroB x = false
  b : ∀ z ∈ x, z.natAbs ≤ 13
  d : ∀ m : Int, D ≤ m → m % 2 = 1 → ∃ z ∈ x, z % m ≠ 0
theorem nz_mem {x : List Int} (h : zeroB x = false) : ∃ z ∈ x, z ≠ 0 := by
  refine Classical.byContradiction fun q => ?_
  have : zeroB x = true := zeroB_iff.mpr fun z hz => Classical.byContradiction fun r => q ⟨z, hz, r⟩
  rw [h] at this
  cases this
theorem invP_beg {ns : List Int} (h : In9 ns) (p : Nat) : InvP 14 (begP ns p) := by
  have b0 := h.get p
  have hr : (isNum (begP ns p) = true ∧ zeroB (begP ns p) = false) ∧ ∀ z ∈ begP ns p, z.natAbs ≤ 13 := by
    unfold begP
    cases hz : zeroB (rawP ns p) with
    | true =>
      rw [if_pos rfl]
      decide
    | false =>
      rw [if_neg Bool.false_ne_true]
      refine ⟨⟨isNum_map4 (u := ns.getD p 0 % 2) fun k hk => by omega, hz⟩, fun z hm => ?_⟩
      obtain ⟨k, hk, rfl⟩ := List.mem_map.mp hm
      have b1 := h.get (p + 1 + k)
      omega
  refine ⟨hr.1.1, hr.1.2, hr.2, fun m hm _ => ?_⟩
  obtain ⟨z, hz, h0⟩ := nz_mem hr.1.2
  refine ⟨z, hz, fun e => ?_⟩
  have hb := hr.2 z hz
  have := Int.le_of_dvd (a := m) (b := z.natAbs) (by omega) (Int.dvd_natAbs.mpr (Int.dvd_of_emod_eq_zero e))
  omega
theorem invP_step {D : Int} {x : List Int} (hD : 2 ≤ D) (h : InvP (D + 1) x) : InvP D (stepP D x) := by
  unfold stepP
  by_cases h1 : x.all (fun z => decide (z % D = 0)) = true
  · rw [if_pos h1]
    have hdv : ∀ z ∈ x, z % D = 0 := fun z hz => of_decide_eq_true (List.all_eq_true.mp h1 z hz)
    have e := quo_times (m := D) (by omega) hdv
    by_cases h2 : isNum (quoL D x) = true
    · rw [if_pos h2]
      refine ⟨h2, ?_, fun z hz => ?_, fun m hm ho => ?_⟩
      · cases q : zeroB (quoL D x) with
        | false => rfl
        | true =>
          have : zeroB x = true := by
            rw [← e]
            refine zeroB_iff.mpr fun z hz => ?_
            obtain ⟨y, hy, rfl⟩ := List.mem_map.mp hz
            rw [zeroB_iff.mp q y hy, Int.zero_mul]
          rw [h.z] at this
          cases this
      · obtain ⟨y, hy, rfl⟩ := List.mem_map.mp hz
        have hb := h.b y hy
        have := Int.natAbs_ediv_le_natAbs y D
        omega
      · by_cases em : m = D
        · subst em
          -- all parts of the quotient divided by m: all of x by m * m
          refine Classical.byContradiction fun q => ?_
          have hall : ∀ z ∈ quoL m x, z % m = 0 := fun z hz => Classical.byContradiction fun r => q ⟨z, hz, r⟩
          have hx2 : ∀ z ∈ x, z % (m * m) = 0 := fun z hz => by
            have h5 := hall (z / m) (List.mem_map_of_mem (f := fun p => p / m) hz)
            obtain ⟨k, ek⟩ := Int.dvd_of_emod_eq_zero h5
            have h6 := Int.mul_ediv_cancel' (Int.dvd_of_emod_eq_zero (hdv z hz))
            rw [ek] at h6
            exact Int.emod_eq_zero_of_dvd ⟨k, by rw [Int.mul_assoc]; exact h6.symm⟩
          have hmm : (m * m) % 2 = 1 := by rw [Int.mul_emod, ho]; rfl
          have hge : m + 1 ≤ m * m := by
            have : m * 2 ≤ m * m := Int.mul_le_mul_of_nonneg_left hD (by omega)
            omega
          obtain ⟨z, hz, hnz⟩ := h.d (m * m) hge hmm
          exact hnz (hx2 z hz)
        · obtain ⟨z, hz, hnz⟩ := h.d m (by omega) ho
          refine ⟨z / D, List.mem_map_of_mem (f := fun p => p / D) hz, fun r => hnz ?_⟩
          have h6 := Int.mul_ediv_cancel' (Int.dvd_of_emod_eq_zero (hdv z hz))
          obtain ⟨k, ek⟩ := Int.dvd_of_emod_eq_zero r
          rw [ek] at h6
          exact Int.emod_eq_zero_of_dvd ⟨D * k, by rw [← h6, Int.mul_left_comm]⟩
    · rw [if_neg h2]
      -- an odd divisor keeps the parity
      refine ⟨h.n, h.z, h.b, fun m hm ho => ?_⟩
      by_cases em : m = D
      · subst em
        exfalso
        refine h2 ?_
        obtain ⟨hn, _, _, _⟩ := h
        obtain ⟨a, b, c, d, rfl⟩ := four (num_len hn)
        obtain ⟨k1, k2, k3⟩ := (isNum4 a b c d).mp hn
        have par : ∀ z, z % m = 0 → (z / m) % 2 = z % 2 := fun z hz => by
          have h6 := Int.mul_ediv_cancel' (Int.dvd_of_emod_eq_zero hz)
          have : z % 2 = (m * (z / m)) % 2 := by rw [h6]
          rw [this, Int.mul_emod, ho, Int.one_mul, Int.emod_emod_of_dvd _ (Int.dvd_refl 2)]
        have pa := par a (hdv a (by simp))
        have pb := par b (hdv b (by simp))
        have pc := par c (hdv c (by simp))
        have pd' := par d (hdv d (by simp))
        exact isNum_of (a := a / m) (b := b / m) (c := c / m) (d := d / m) ⟨by omega, by omega, by omega⟩
      · exact h.d m (by omega) ho
  · rw [if_neg h1]
    refine ⟨h.n, h.z, h.b, fun m hm ho => ?_⟩
    by_cases em : m = D
    · subst em
      refine Classical.byContradiction fun q => h1 (List.all_eq_true.mpr fun z hz => decide_eq_true (Classical.byContradiction fun r => q ⟨z, hz, r⟩))
    · exact h.d m (by omega) ho
theorem invP_all {x : List Int} (h : InvP 14 x) : ∀ k, k ≤ 12 → InvP (14 - (k : Nat)) (prP x k)
  | 0, _ => h
  | k + 1, hk => by
    have ih := invP_all h k (by omega)
    have e : (13 : Int) + (k : Nat) * (-1) = 14 - ((k + 1 : Nat) : Int) := by omega
    show InvP _ (stepP (13 + (k : Nat) * (-1)) (prP x k))
    rw [e]
    refine invP_step (by omega) ?_
    have e2 : (14 : Int) - ((k + 1 : Nat) : Int) + 1 = 14 - (k : Nat) := by omega
    rw [e2]
    exact ih
def primQ (ns : List Int) (p : Nat) : List Int := prP (begP ns p) 12
theorem primQ_ok {ns : List Int} (h : In9 ns) (p : Nat) : G 10 (primQ ns p) ∧ zeroB (primQ ns p) = false ∧ ∀ q ∈ primsL, ¬ Div q (primQ ns p) := by
  have i := invP_all (invP_beg h p) 12 (Nat.le_refl _)
  refine ⟨⟨i.n, fun z hz => ?_⟩, i.z, fun q hq ⟨y, hy, e⟩ => ?_⟩
  · have := i.b z hz
    show z.natAbs < 2 ^ 10
    omega
  · obtain ⟨q1, _, q3⟩ := prims_in q hq
    obtain ⟨z, hz, hn⟩ := i.d q (by omega) q3
    have hz' : z ∈ timesL q y := by rw [← e]; exact hz
    obtain ⟨w, _, rfl⟩ := List.mem_map.mp hz'
    exact hn (Int.mul_emod_left _ _)
def R_law_primQ : List D → Out → Prop := fun ds o => ∃ (ns : List Int) (p : Nat) (z : Int), ds = [li ns, .int z] ∧ z = (p : Int) ∧ In9 ns ∧ p + 5 ≤ ns.length ∧ o = .v (ti (primQ ns p))
end TB

namespace TB
open PySem L2 PySem.Spec PyProof.Rows
/-! ### a walk down: range(i, j, -1) -/
theorem norm_unit {u : List Int} (h : u ∈ unitsL) : normL u = 1 := units_n1 u h
theorem rquo_back {a d : List Int} (ha : isNum a = true) (hd : isNum d = true) (h0 : zeroB d = false) (h : zeroB (remRgt a d) = true) : isNum (quoRgt a d) = true ∧ a = mulL (quoRgt a d) d := by
  have q := (rem_rgt ha hd h0).1
  exact ⟨q, sub_zero ha (num_mul q hd) h⟩
end TB

namespace TB
open PySem L2 PySem.Spec PyProof.Rows
/-! ### sorted(xs, reverse=True) of integers -/
def descL (ns : List Int) : List Int := ns.mergeSort fun a b => decide (b ≤ a)
theorem desc_perm (ns : List Int) : (descL ns).Perm ns := List.mergeSort_perm ns _
theorem desc_pw (ns : List Int) : (descL ns).Pairwise (· ≥ ·) := (List.pairwise_mergeSort (le := fun a b : Int => decide (b ≤ a)) (fun a b c h g => decide_eq_true (Int.le_trans (of_decide_eq_true g) (of_decide_eq_true h))) (fun a b => by
  rcases Int.le_total a b with h | h
  · rw [decide_eq_true h, Bool.or_true]
  · rw [decide_eq_true h, Bool.true_or]) ns).imp fun h => of_decide_eq_true h
theorem desc_uniq : ∀ {xs ys : List Int}, xs.Perm ys → xs.Pairwise (· ≥ ·) → ys.Pairwise (· ≥ ·) → xs = ys
  | [], _, p, _, _ => p.symm.eq_nil.symm
  | x :: xs, [], p, _, _ => absurd p.eq_nil (List.cons_ne_nil _ _)
  | x :: xs, y :: ys, p, .cons h1 h2, .cons g1 g2 => by
    have hx : x ∈ y :: ys := p.mem_iff.mp List.mem_cons_self
    have hy : y ∈ x :: xs := p.mem_iff.mpr List.mem_cons_self
    have e : x = y := by
      rcases List.mem_cons.mp hx with e | m
      · exact e
      · rcases List.mem_cons.mp hy with e | m2
        · exact e.symm
        · exact Int.le_antisymm (g1 x m) (h1 y m2)
    subst e
    rw [desc_uniq p.cons_inv h2 g2]
theorem desc_eq {xs ns : List Int} (p : xs.Perm ns) (h : xs.Pairwise (· ≥ ·)) : xs = descL ns := desc_uniq (p.trans (desc_perm ns).symm) h (desc_pw ns)
section
variable {X : Cx} {W : WX} {F0 H0 : Hp} {Γ : List S} {e : Expr} {pos np kp cp : Pos} {ns : List Int} {kd : Nat}
theorem je_sortRev (hm : X.mg "sorted" = none) (h : JE X W F0 H0 Γ e (.v (.list (ns.map .int)))) (hg : Gl X "sorted" := by rfl) (s1 : starEach [e] X.env = (false, eval e X.env) :: starEach [] X.env := by rfl)
    (he : backTo pos (starEach [e] X.env) = (false, eval e X.env) :: backTo pos (starEach [] X.env) := by rfl) (hpl : (backTo pos (starEach [e] X.env)).any (·.1) = false := by rfl)
    (hall : (backToKw pos (keywordEach [⟨some (Str.ofString "reverse"), .Constant (.bool true) kd cp, kp⟩] X.env)).all (·.1.isSome) = true := by rfl) (hnone : (backToKw pos (keywordEach [⟨some (Str.ofString "reverse"), .Constant (.bool true) kd cp, kp⟩] X.env)).any (·.1.isNone) = false := by rfl)
    (hks : (backToKw pos (keywordEach [⟨some (Str.ofString "reverse"), .Constant (.bool true) kd cp, kp⟩] X.env)).filterMap (·.1) = [Str.ofString "reverse"] := by rfl) :
    JE X W F0 H0 Γ (.Call (.Name "sorted" np) [e] [⟨some (Str.ofString "reverse"), .Constant (.bool true) kd cp, kp⟩] pos) (.o ((descL ns).map .int)) :=
  pe_imp (pe_callBK (cr_sortedRev (b := true)) hg hm (by decide +kernel) (ja_cons h ja_nil s1) (pk_cons pe_bl pk_nil) (by decide) (by decide) he hpl hall hnone hks) fun σ H Q h => by
    obtain ⟨F, ok, q⟩ := po_of (F := H) (by trivial) h
    exact ⟨F, ok, fun vs F1 H1 z1 d1 => by
      cases d1 with
      | cons a1 a2 =>
        cases a2
        cases a1 with
        | lst h1 h2 =>
          rw [da_ints h2] at h1
          refine ⟨_, ns, rfl, rfl, sl_ex z1.s h1, fun ns' p hp ho hn => ?_⟩
          have e : ns' = descL ns := desc_eq hp (by unfold OrdB at ho; rwa [if_pos rfl] at ho)
          subst e
          exact po_lst (ds := (descL ns).map .int) (F := F1) z1.s (da_of_ints _) (po_mono z1 q) p hn⟩
end
section
variable {X : Cx} {W : WX} {F0 H0 : Hp} {Γ : List S} {e elt it tg : Expr} {ifs : List Expr} {scope : Scope} {pos np : Pos} {c : Addr} {own : List (Str × Nat)}
/-- what a comprehension goes over raises -/
theorem je_lcX (hc : X.calm = true) (hN : X.N.Nodup) (h : JE X W F0 H0 Γ it (.x c)) (ok : BlkOk X.N X.env.scope scope own) (hs : ∀ x, foldedSetIterable it X.env x = pure x := by intro _; rfl) : JE X W F0 H0 Γ (.ListComp elt [⟨tg, it, ifs, 0⟩] scope pos) (.x c) :=
  pe_imp (pe_lc (own := own) (g := fun _ _ _ _ => False) (tt := fun _ _ _ => False) (te := fun _ _ _ => False) hc hN (pi_list h) ok (fun _ _ _ _ _ => ⟨fun _ _ _ _ _ _ _ _ _ h => h.elim⟩) (fun _ _ _ _ _ => ⟨fun _ _ _ _ _ _ h => h.elim⟩) (fun _ _ _ _ _ => ⟨fun _ _ _ _ _ _ h => h.elim⟩) hs) fun σ H Q h => h
theorem je_maxX (hm : X.mg "max" = none) (h : JE X W F0 H0 Γ e (.x c)) (hg : Gl X "max" := by rfl) (s1 : starEach [e] X.env = (false, eval e X.env) :: starEach [] X.env := by rfl) : JE X W F0 H0 Γ (.Call (.Name "max" np) [e] [] pos) (.x c) :=
  pe_imp (pe_callB (id := "max") (r := fun _ _ _ => False) (fun _ _ _ _ _ _ _ _ _ h => h.elim) hg hm (by decide +kernel) (jax_head h s1) (by decide) (by decide) s1 rfl) fun σ H Q h => h
end
/-! ### the greatest one of some lists -/
def mxL : List (List Int) → List Int
  | [] => []
  | x :: xs => xs.foldl (fun a b => if a < b then b else a) x
theorem maxD_ti : ∀ (xs : List (List Int)) (x : List Int), PySem.W.maxD (ti x) (xs.map ti) = ti (mxL (x :: xs))
  | [], x => rfl
  | y :: ys, x => by
    have ih := maxD_ti ys (if x < y then y else x)
    unfold PySem.W.maxD at ih ⊢
    rw [List.map_cons, List.foldl_cons, lt_ti]
    by_cases c : x < y
    · rw [if_pos c] at ih
      rw [if_pos (decide_eq_true c), ih]
      show ti (ys.foldl _ y) = ti (ys.foldl _ (if x < y then y else x))
      rw [if_pos c]
    · rw [if_neg c] at ih
      rw [if_neg (by rw [decide_eq_false c]; exact Bool.false_ne_true), ih]
      show ti (ys.foldl _ x) = ti (ys.foldl _ (if x < y then y else x))
      rw [if_neg c]
theorem fold_spec : ∀ (xs : List (List Int)) (x : List Int), (xs.foldl (fun a b => if a < b then b else a) x) ∈ x :: xs ∧ ∀ y ∈ x :: xs, y ≤ xs.foldl (fun a b => if a < b then b else a) x
  | [], x => ⟨List.mem_cons_self, fun y hy => by
    rcases List.mem_cons.mp hy with rfl | h
    · exact List.le_refl _
    · cases h⟩
  | z :: zs, x => by
    have ih := fold_spec zs (if x < z then z else x)
    rw [List.foldl_cons]
    obtain ⟨h1, h2⟩ := ih
    by_cases c : x < z
    · rw [if_pos c] at h1 h2 ⊢
      refine ⟨List.mem_cons_of_mem _ h1, fun y hy => ?_⟩
      rcases List.mem_cons.mp hy with rfl | h
      · exact List.le_trans (List.le_of_lt c) (h2 z List.mem_cons_self)
      · exact h2 y h
    · rw [if_neg c] at h1 h2 ⊢
      have cz : z ≤ x := c
      refine ⟨?_, fun y hy => ?_⟩
      · rcases List.mem_cons.mp h1 with e | h
        · rw [e]; exact List.mem_cons_self
        · exact List.mem_cons_of_mem _ (List.mem_cons_of_mem _ h)
      · rcases List.mem_cons.mp hy with rfl | h
        · exact h2 _ List.mem_cons_self
        · rcases List.mem_cons.mp h with rfl | h
          · exact List.le_trans cz (h2 x List.mem_cons_self)
          · exact h2 y (List.mem_cons_of_mem _ h)
theorem mx_spec {ls : List (List Int)} (h : ls ≠ []) : mxL ls ∈ ls ∧ ∀ y ∈ ls, y ≤ mxL ls := by
  cases ls with
  | nil => exact absurd rfl h
  | cons x xs => exact fold_spec xs x
theorem mx_ext {ls ms : List (List Int)} (h0 : ls ≠ []) (h : ∀ y, y ∈ ls ↔ y ∈ ms) : mxL ls = mxL ms := by
  have a := mx_spec h0
  have b := mx_spec (ls := ms) (fun e => by
    have := (h _).mp a.1
    rw [e] at this
    cases this)
  exact ll_anti (b.2 _ ((h _).mp a.1)) (a.2 _ ((h _).mpr b.1))
/-! ### falling tuples -/
def fallL (x : List Int) : List Int := descL (x.map fun z => ((z.natAbs : Nat) : Int))
def fallW (x : List Int) : List Int := descL (x.map fun z => ((z.natAbs : Nat) : Int) / 2)
def halfL (x : List Int) : List Int := x.map fun z => z / 2
def sqsum (x : List Int) : Int := (x.map fun z => z * z).sum
theorem fall_half {x : List Int} (h : ∀ z ∈ x, z % 2 = 0) : fallL (halfL x) = fallW x := by
  unfold fallL fallW halfL
  rw [List.map_map]
  refine congrArg descL (List.map_congr_left fun z hz => ?_)
  have := h z hz
  show (((z / 2).natAbs : Nat) : Int) = ((z.natAbs : Nat) : Int) / 2
  omega
theorem perm_sum {xs ys : List Int} (p : xs.Perm ys) : xs.sum = ys.sum := by
  induction p with
  | nil => rfl
  | cons x p ih => rw [List.sum_cons, List.sum_cons, ih]
  | swap x y l => rw [List.sum_cons, List.sum_cons, List.sum_cons, List.sum_cons]; omega
  | trans p q h1 h2 => exact h1.trans h2
theorem sqsum_desc (x : List Int) : sqsum (descL x) = sqsum x := perm_sum ((desc_perm x).map _)
theorem whole_even {x : List Int} (hx : isNum x = true) (h : wholeB x = true) : ∀ z ∈ x, z % 2 = 0 := fun z hz => (num_par hx z hz).trans (of_decide_eq_true h)
theorem sq_abs (z : Int) : ((z.natAbs : Nat) : Int) * ((z.natAbs : Nat) : Int) = z * z := Int.natAbs_mul_self
theorem sqsum_fallW {x : List Int} (hx : isNum x = true) (h : ∀ z ∈ x, z % 2 = 0) : sqsum (fallW x) = normL x := by
  unfold fallW
  rw [sqsum_desc]
  obtain ⟨a, b, c, d, rfl, k⟩ := num_cases hx
  have hh : ∀ z : Int, z % 2 = 0 → ∃ t, z = 2 * t ∧ (((z.natAbs : Nat) : Int) / 2) * (((z.natAbs : Nat) : Int) / 2) = t * t := fun z hz => by
    refine ⟨z / 2, by omega, ?_⟩
    have e : ((z.natAbs : Nat) : Int) / 2 = (((z / 2).natAbs : Nat) : Int) := by omega
    rw [e, sq_abs]
  obtain ⟨a', ha, ha2⟩ := hh a (h a (by simp))
  obtain ⟨b', hb, hb2⟩ := hh b (h b (by simp))
  obtain ⟨c', hc, hc2⟩ := hh c (h c (by simp))
  obtain ⟨d', hd, hd2⟩ := hh d (h d (by simp))
  show ([((a.natAbs : Nat) : Int) / 2 * (((a.natAbs : Nat) : Int) / 2), ((b.natAbs : Nat) : Int) / 2 * (((b.natAbs : Nat) : Int) / 2), ((c.natAbs : Nat) : Int) / 2 * (((c.natAbs : Nat) : Int) / 2), ((d.natAbs : Nat) : Int) / 2 * (((d.natAbs : Nat) : Int) / 2)] : List Int).sum = ([a * a, b * b, c * c, d * d] : List Int).sum / 4
  rw [ha2, hb2, hc2, hd2]
  simp only [List.sum_cons, List.sum_nil]
  have e : a * a + (b * b + (c * c + (d * d + 0))) = 4 * (a' * a' + (b' * b' + (c' * c' + (d' * d' + 0)))) := by
    subst ha hb hc hd
    grind
  rw [e]
  omega
/-- the greatest one of the falling tuples of the whole associates -/
def sqsL (x : List Int) : List Int := mxL (((sortLL (assoL x)).filter wholeB).map fallW)
theorem sqs_ne {x : List Int} (hx : isNum x = true) : ((sortLL (assoL x)).filter wholeB).map fallW ≠ [] := fun e => whole_some hx (by
  have := congrArg List.length e
  rwa [List.length_map] at this)
theorem sqs_law {x : List Int} (hx : isNum x = true) : mxL (((assoL x).filter wholeB).map fun r => fallL (halfL r)) = sqsL x := by
  refine (mx_ext (sqs_ne hx) fun y => ?_).symm
  have key : ∀ r, r ∈ (sortLL (assoL x)).filter wholeB ↔ r ∈ (assoL x).filter wholeB := fun r => by rw [List.mem_filter, List.mem_filter, (sort_perm _).mem_iff]
  have kf : ∀ r ∈ (assoL x).filter wholeB, fallL (halfL r) = fallW r := fun r hr => by
    obtain ⟨h1, h2⟩ := List.mem_filter.mp hr
    obtain ⟨u, hu, rfl⟩ := List.mem_map.mp h1
    exact fall_half (whole_even (num_mul hx (u_num hu)) h2)
  rw [List.mem_map, List.mem_map]
  exact ⟨fun ⟨r, h1, h2⟩ => ⟨r, (key r).mp h1, by rw [kf r ((key r).mp h1), h2]⟩, fun ⟨r, h1, h2⟩ => ⟨r, (key r).mpr h1, by rw [← kf r h1, h2]⟩⟩
theorem sqs_sum {x : List Int} (hx : isNum x = true) : sqsum (sqsL x) = normL x := by
  have h := (mx_spec (sqs_ne hx)).1
  obtain ⟨r, h1, h2⟩ := List.mem_map.mp h
  obtain ⟨h3, h4⟩ := List.mem_filter.mp h1
  obtain ⟨u, hu, rfl⟩ := List.mem_map.mp ((sort_perm _).mem_iff.mp h3)
  unfold sqsL
  rw [← h2, sqsum_fallW (num_mul hx (u_num hu)) (whole_even (num_mul hx (u_num hu)) h4), norm_mul hx (u_num hu), units_n1 u hu, Int.mul_one]
end TB

namespace TB
open PySem L2 PySem.Spec PyProof.Rows
def dblL (x : List Int) : List Int := x.map fun p => 2 * p
theorem dbl_G {x : List Int} {m : Nat} (hl : x.length = 4) (h : Sm m x) : G (m + 1) (dblL x) := by
  obtain ⟨a, b, c, d, rfl⟩ := four hl
  refine ⟨(isNum4 (2 * a) (2 * b) (2 * c) (2 * d)).mpr ?_, fun z hz => ?_⟩
  · refine ⟨?_, ?_, ?_⟩ <;> omega
  · obtain ⟨t, ht, rfl⟩ := List.mem_map.mp hz
    have := h t ht
    unfold Bt at this ⊢
    have e : (2 * t).natAbs = 2 * t.natAbs := by omega
    rw [e, Nat.pow_succ]
    omega
theorem dbl_norm {x : List Int} (hl : x.length = 4) : normL (dblL x) = sqsum x := by
  obtain ⟨a, b, c, d, rfl⟩ := four hl
  show ([2 * a * (2 * a), 2 * b * (2 * b), 2 * c * (2 * c), 2 * d * (2 * d)] : List Int).sum / 4 = ([a * a, b * b, c * c, d * d] : List Int).sum
  simp only [List.sum_cons, List.sum_nil]
  have e : 2 * a * (2 * a) + (2 * b * (2 * b) + (2 * c * (2 * c) + (2 * d * (2 * d) + 0))) = 4 * (a * a + (b * b + (c * c + (d * d + 0)))) := by grind
  rw [e]
  omega
theorem dbl_even {x y : List Int} (hx : x.length = 4) (hy : y.length = 4) : ∀ z ∈ mulL (dblL x) (dblL y), z % 2 = 0 := by
  obtain ⟨a, b, c, d, rfl⟩ := four hx
  obtain ⟨e, f, g, h, rfl⟩ := four hy
  have nx : isNum (dblL [a, b, c, d]) = true := (dbl_G (m := a.natAbs + b.natAbs + c.natAbs + d.natAbs) rfl fun z hz => by
    unfold Bt
    refine Nat.lt_of_le_of_lt ?_ Nat.lt_two_pow_self
    simp only [List.mem_cons, List.not_mem_nil, or_false] at hz
    rcases hz with rfl | rfl | rfl | rfl <;> omega).num
  have ny : isNum (dblL [e, f, g, h]) = true := (dbl_G (m := e.natAbs + f.natAbs + g.natAbs + h.natAbs) rfl fun z hz => by
    unfold Bt
    refine Nat.lt_of_le_of_lt ?_ Nat.lt_two_pow_self
    simp only [List.mem_cons, List.not_mem_nil, or_false] at hz
    rcases hz with rfl | rfl | rfl | rfl <;> omega).num
  refine whole_even (num_mul nx ny) (decide_eq_true ?_)
  show (2 * a * (2 * e) - 2 * b * (2 * f) - 2 * c * (2 * g) - 2 * d * (2 * h)) / 2 % 2 = 0
  have q : 2 * a * (2 * e) - 2 * b * (2 * f) - 2 * c * (2 * g) - 2 * d * (2 * h) = 4 * (a * e - b * f - c * g - d * h) := by grind
  rw [q]
  omega
theorem fallW_bt {x : List Int} {m : Nat} (h : Sm m x) : ∀ z ∈ fallW x, Bt m z := fun z hz => by
  obtain ⟨t, ht, rfl⟩ := List.mem_map.mp ((desc_perm _).mem_iff.mp hz)
  have := h t ht
  unfold Bt at this ⊢
  omega
theorem sqs_bt {x : List Int} {m : Nat} (g : G m x) : ∀ z ∈ sqsL x, Bt (m + 13) z := fun z hz => by
  obtain ⟨r, h1, h2⟩ := List.mem_map.mp (mx_spec (sqs_ne g.num)).1
  obtain ⟨h3, h4⟩ := List.mem_filter.mp h1
  obtain ⟨u, hu, rfl⟩ := List.mem_map.mp ((sort_perm _).mem_iff.mp h3)
  have gu := g.mul (units_G u hu)
  have hz' : z ∈ fallW (mulL x u) := by
    rw [h2]
    exact hz
  exact bt_up (fallW_bt gu.sm z hz') (by omega)
theorem fallW_len (x : List Int) : (fallW x).length = x.length := by
  unfold fallW
  rw [(desc_perm _).length_eq, List.length_map]
theorem sqs_len {x : List Int} (hx : isNum x = true) : (sqsL x).length = 4 := by
  obtain ⟨r, h1, h2⟩ := List.mem_map.mp (mx_spec (sqs_ne hx)).1
  obtain ⟨h3, h4⟩ := List.mem_filter.mp h1
  obtain ⟨u, hu, rfl⟩ := List.mem_map.mp ((sort_perm _).mem_iff.mp h3)
  show (mxL _).length = 4
  rw [← h2, fallW_len, num_len (num_mul hx (u_num hu))]
def row67 (ns : List Int) (n : Nat) : List Int := (List.range 4).map fun k => partV ns (45 + 40 * n + 10 * k)
theorem row67_len (ns : List Int) (n : Nat) : (row67 ns n).length = 4 := by unfold row67; rw [List.length_map, List.length_range]
theorem row67_bt {ns : List Int} (h : In9 ns) (n : Nat) : Sm 91 (row67 ns n) := fun z hz => by
  obtain ⟨k, _, rfl⟩ := List.mem_map.mp hz
  exact partV_bt h _
def rows67 (ns : List Int) (n : Nat) : List (List Int) := (List.range n).map (row67 ns)
theorem rows67_succ (ns : List Int) (n : Nat) : rows67 ns (n + 1) = rows67 ns n ++ [row67 ns n] := by unfold rows67; rw [List.range_succ, List.map_append]; rfl
theorem abs_nat (z : Int) : (if z < 0 then -z else z) = ((z.natAbs : Nat) : Int) := by
  by_cases h : z < 0
  · rw [if_pos h]; omega
  · rw [if_neg h]; omega
end TB

namespace TB
open PySem L2 PySem.Spec PyProof.Rows
/-! ### a > b of data, tuple + tuple, min of a list -/
def rGtD (K : PySem.W.Frag) : L2.R2 := fun x y H Q => ∃ (F : Hp) (d e : D), Ex F H ∧ Dp K F x d ∧ Dp K F y e ∧ PySem.W.alike d e = true ∧ d ≠ .none ∧ min d.depth e.depth ≤ 60 ∧ Q (.bl (PySem.W.dataLt e d)) H
theorem op_gtD {X : Cx} (hu : X.A.units + 64 < cLine) : OpR X (compareOp .Gt) (rGtD X.K) := by
  intro pins s σ H x y v u Q I rx ry h
  obtain ⟨F, d, e, ex, d1, d2, hal, hn, hdp, q⟩ := h
  obtain ⟨as1, r1⟩ := Dp.reads I d x v (dp_ex ex _ _ d1) rx
  obtain ⟨as2, r2⟩ := Dp.reads I e y u (dp_ex ex _ _ d2) ry
  exact PySem.W.rcGt_alike d e X.A s v u _ _ r1 r2 hal hn (by omega) _ _ _ _ ⟨.bl _, H, I, rfl, q⟩
theorem rd_gtD {K : PySem.W.Frag} {d e : D} (hal : PySem.W.alike d e = true) (hn : d ≠ .none) (hdp : min d.depth e.depth ≤ 60) : RD K (rGtD K) d e (.bool (PySem.W.dataLt e d)) := fun v u F H Q s d1 d2 q =>
  ⟨F, d, e, s, d1, d2, hal, hn, hdp, q _ F H (Fz.refl s) (.bl _)⟩
theorem rd_catA {K : PySem.W.Frag} {ds es : List D} (hl : ds.length + es.length ≤ 100000) : RD K (rCatA K) (.tuple ds) (.tuple es) (.tuple (ds ++ es)) := fun v u F H Q s d1 d2 q => by
  cases d1 with
  | tup g1 g2 =>
    cases d2 with
    | tup h1 h2 =>
      refine ⟨_, _, _, _, rfl, rfl, st_ex s g1, st_ex s h1, by rw [da_len g2, da_len h2]; exact Nat.le_trans hl (by decide), fun e => ?_, fun e1 e2 => ?_, fun e1 e2 => ?_⟩
      · subst e
        have : ds = [] := by
          have := da_len g2
          exact List.length_eq_zero_iff.mp this.symm
        subst this
        exact q _ F H (Fz.refl s) (.tup h1 h2)
      · subst e2
        have : es = [] := by
          have := da_len h2
          exact List.length_eq_zero_iff.mp this.symm
        subst this
        rw [List.append_nil] at q
        exact q _ F H (Fz.refl s) (.tup g1 g2)
      · exact po_tup s (da_app g2 h2) q
section
variable {X : Cx} {W : WX} {F0 H0 : Hp} {Γ : List S} {a b e : Expr} {pos np : Pos} {x y : D} {ds es : List D}
theorem jt_gtD (hu : X.A.units + 64 < cLine) (hal : PySem.W.alike x y = true) (hn : x ≠ .none) (hdp : min x.depth y.depth ≤ 60) (ha : JE X WF F0 H0 Γ a (.v x)) (hb : JE X WF F0 H0 Γ b (.v y)) : JT X F0 H0 Γ (.Compare a [.Gt] [b] pos) (PySem.W.dataLt y x) := jt_cmp (op_gtD hu) (rd_gtD hal hn hdp) ha hb (nomark _)
theorem je_catA (hl : ds.length + es.length ≤ 100000) (ha : JE X W F0 H0 Γ a (.v (.tuple ds))) (hb : JE X W F0 H0 Γ b (.v (.tuple es))) : JE X W F0 H0 Γ (.BinOp a .Add b pos) (.v (.tuple (ds ++ es))) := je_bin op_catA (rd_catA hl) ha hb
def rMinDD (K : PySem.W.Frag) : List V → Hp → VK → Prop := fun vs H Q => ∃ (F : Hp) (a : Addr) (xs : List V) (d : D) (ds : List D), Ex F H ∧ vs = [V.ref a] ∧ SqL K H a xs ∧ DpAll K F xs (d :: ds) ∧ PySem.W.AlikeAll (d :: ds) ∧ PyData.depthAll (d :: ds) ≤ 60 ∧
  ∀ v : V, Dp K F v (PySem.W.minD d ds) → Q v H
theorem cr_minDD {X : Cx} (hc : X.calm = true) (hu : X.A.units + 64 < cLine) : CallR X (.builtin "min") (rMinDD X.K) := by
  intro pins s σ H vs us Q I r h
  obtain ⟨F, a, xs, d, ds, ex, rfl, hs, hd, hal, hdp, q⟩ := h
  obtain ⟨its, rv, hL, hz⟩ := I.list hs
  rw [Vals.ref1 r]
  obtain ⟨as, hr⟩ := Dp.readsAll I (d :: ds) xs its (da_ex ex _ _ hd) rv
  refine PySem.W.min_list_data (I.ok.hd hc) hL.isList (by simpa using hr) hal (by omega) fun i v h' tk bs hv r' hk => ?_
  have hv' : its[i]? = some v := by simpa using hv
  obtain ⟨x, hx, rx⟩ := vals_at rv hv'
  obtain ⟨e, he, de⟩ := da_get' hd hx
  obtain ⟨cs, r1⟩ := Dp.reads I e x v (dp_ex ex _ _ de) rx
  have r2 := PyProof.Rows.reads_det (fun b o e _ => hk b o e) r1 r'
  rw [← r2.1] at de
  exact ⟨x, H, I.kept hk, rx, q x de⟩
theorem je_minDD {d : D} {ds : List D} (hc : X.calm = true) (hu : X.A.units + 64 < cLine) (hal : PySem.W.AlikeAll (d :: ds)) (hdp : PyData.depthAll (d :: ds) ≤ 60) (hm : X.mg "min" = none) (h : JE X W F0 H0 Γ e (.v (.list (d :: ds)))) (hg : Gl X "min" := by rfl) (s1 : starEach [e] X.env = (false, eval e X.env) :: starEach [] X.env := by rfl) : JE X W F0 H0 Γ (.Call (.Name "min" np) [e] [] pos) (.v (PySem.W.minD d ds)) :=
  pe_imp (pe_callB (cr_minDD hc hu) hg hm (by decide +kernel) (ja_cons h ja_nil s1) (by decide) (by decide) s1 rfl) fun σ H Q ⟨F, ok, q⟩ => ⟨F, ok, fun vs F1 H1 z1 d1 => by
    cases d1 with
    | cons a1 a2 =>
      cases a2
      cases a1 with
      | lst h1 h2 => exact ⟨F1, _, _, d, ds, z1.s, rfl, sl_ex z1.s h1, h2, hal, hdp, fun v dv => q v F1 H1 z1 dv⟩⟩
end
end TB

namespace TB
open PySem L2 PySem.Spec PyProof.Rows
/-! ### the nearest numbers, as the law of quotients looks for them -/
def nearK (n o p : Int) : List Int := ((List.range 6).filter fun k : Nat => decide ((p / n - 2 + (0 + (k : Nat)) + o) % 2 = 0)).map fun k : Nat => p / n - 2 + (0 + (k : Nat))
def distK (n p c : Int) : Int := (((n * c - p).natAbs : Nat) : Int)
def keepK (n o p : Int) : List Int := if (p / n + o) % 2 = 0 then [p / n] else if p % n = 0 then [p / n - 1, p / n + 1] else [p / n + 1]
def topK (n o p : Int) : Int := if (p / n + o) % 2 = 0 then p / n else p / n + 1
def leastK (n o p : Int) : Int := if (p / n + o) % 2 = 0 then p % n else n - p % n
theorem nearK_eq {n o p : Int} : nearK n o p = if (p / n + o) % 2 = 0 then [p / n - 2, p / n, p / n + 2] else [p / n - 1, p / n + 1, p / n + 3] := by
  unfold nearK
  by_cases h : (p / n + o) % 2 = 0
  · rw [if_pos h]
    have e : (List.range 6).filter (fun k : Nat => decide ((p / n - 2 + (0 + (k : Nat)) + o) % 2 = 0)) = [0, 2, 4] := by
      rw [List.filter_congr (q := fun k : Nat => decide (k % 2 = 0)) (fun k _ => decide_eq_decide.mpr (by omega))]
      decide
    rw [e]
    show [p / n - 2 + (0 + ((0 : Nat) : Int)), p / n - 2 + (0 + ((2 : Nat) : Int)), p / n - 2 + (0 + ((4 : Nat) : Int))] = _
    congr 1
    · omega
    · congr 1
      · omega
      · congr 1
        omega
  · rw [if_neg h]
    have e : (List.range 6).filter (fun k : Nat => decide ((p / n - 2 + (0 + (k : Nat)) + o) % 2 = 0)) = [1, 3, 5] := by
      rw [List.filter_congr (q := fun k : Nat => decide (k % 2 = 1)) (fun k _ => decide_eq_decide.mpr (by omega))]
      decide
    rw [e]
    show [p / n - 2 + (0 + ((1 : Nat) : Int)), p / n - 2 + (0 + ((3 : Nat) : Int)), p / n - 2 + (0 + ((5 : Nat) : Int))] = _
    congr 1
    · omega
    · congr 1
      · omega
      · congr 1
        omega
theorem dist_eq {n p : Int} (hn : 0 < n) (t : Int) : distK n p (p / n + t) = (((n * t - p % n).natAbs : Nat) : Int) := by
  unfold distK
  have hq := Int.mul_ediv_add_emod p n
  have e : n * (p / n + t) - p = n * t - p % n := by rw [Int.mul_add]; omega
  rw [e]
theorem dists {n p : Int} (hn : 0 < n) : distK n p (p / n - 2) = 2 * n + p % n ∧ distK n p (p / n) = p % n ∧ distK n p (p / n + 2) = 2 * n - p % n ∧ distK n p (p / n - 1) = n + p % n ∧ distK n p (p / n + 1) = n - p % n ∧ distK n p (p / n + 3) = 3 * n - p % n := by
  have h0 := Int.emod_nonneg p (show n ≠ 0 by omega)
  have h1 := Int.emod_lt_of_pos p hn
  have d := fun t => dist_eq (p := p) hn t
  refine ⟨?_, ?_, ?_, ?_, ?_, ?_⟩
  · rw [show p / n - 2 = p / n + (-2) by omega, d]; omega
  · rw [show p / n = p / n + 0 by omega, d]; omega
  · rw [d]; omega
  · rw [show p / n - 1 = p / n + (-1) by omega, d]; omega
  · rw [d]; omega
  · rw [d]; omega
theorem near_min {n o p : Int} (hn : 0 < n) : ∃ x xs, nearK n o p = x :: xs ∧ PySem.W.minD (.int (distK n p x)) (xs.map fun c => .int (distK n p c)) = .int (leastK n o p) := by
  have h0 := Int.emod_nonneg p (show n ≠ 0 by omega)
  have h1 := Int.emod_lt_of_pos p hn
  obtain ⟨d1, d2, d3, d4, d5, d6⟩ := dists (p := p) hn
  rw [nearK_eq]
  unfold leastK
  by_cases h : (p / n + o) % 2 = 0
  · rw [if_pos h, if_pos h]
    refine ⟨_, _, rfl, ?_⟩
    rw [show ([p / n, p / n + 2] : List Int).map (fun c => PyData.int (distK n p c)) = [distK n p (p / n), distK n p (p / n + 2)].map PyData.int from rfl, PySem.W.minD_ints]
    show PyData.int (min (min _ _) _) = _
    rw [d1, d2, d3]
    congr 1
    omega
  · rw [if_neg h, if_neg h]
    refine ⟨_, _, rfl, ?_⟩
    rw [show ([p / n + 1, p / n + 3] : List Int).map (fun c => PyData.int (distK n p c)) = [distK n p (p / n + 1), distK n p (p / n + 3)].map PyData.int from rfl, PySem.W.minD_ints]
    show PyData.int (min (min _ _) _) = _
    rw [d4, d5, d6]
    congr 1
    omega
theorem near_keep {n o p : Int} (hn : 0 < n) : (nearK n o p).filter (fun c => decide (distK n p c = leastK n o p)) = keepK n o p := by
  have h0 := Int.emod_nonneg p (show n ≠ 0 by omega)
  have h1 := Int.emod_lt_of_pos p hn
  obtain ⟨d1, d2, d3, d4, d5, d6⟩ := dists (p := p) hn
  rw [nearK_eq]
  unfold leastK keepK
  by_cases h : (p / n + o) % 2 = 0
  · rw [if_pos h, if_pos h, if_pos h]
    rw [List.filter_cons_of_neg (by rw [d1]; exact fun q => by have := of_decide_eq_true q; omega), List.filter_cons_of_pos (by rw [d2]; exact decide_eq_true rfl), List.filter_cons_of_neg (by rw [d3]; exact fun q => by have := of_decide_eq_true q; omega), List.filter_nil]
  · rw [if_neg h, if_neg h, if_neg h]
    by_cases hr : p % n = 0
    · rw [if_pos hr]
      rw [List.filter_cons_of_pos (by rw [d4]; exact decide_eq_true (by omega)), List.filter_cons_of_pos (by rw [d5]; exact decide_eq_true rfl), List.filter_cons_of_neg (by rw [d6]; exact fun q => by have := of_decide_eq_true q; omega), List.filter_nil]
    · rw [if_neg hr]
      rw [List.filter_cons_of_neg (by rw [d4]; exact fun q => by have := of_decide_eq_true q; omega), List.filter_cons_of_pos (by rw [d5]; exact decide_eq_true rfl), List.filter_cons_of_neg (by rw [d6]; exact fun q => by have := of_decide_eq_true q; omega), List.filter_nil]
theorem sq_of_dist {x y : Int} (h : x.natAbs = y.natAbs) : x * x = y * y := by rw [← Int.natAbs_mul_self, h, Int.natAbs_mul_self]
theorem keep_top {n o p : Int} (hn : 0 < n) : topK n o p ∈ keepK n o p ∧ ∀ c ∈ keepK n o p, c ≤ topK n o p ∧ (n * c - p) * (n * c - p) = (n * topK n o p - p) * (n * topK n o p - p) := by
  have h0 := Int.emod_nonneg p (show n ≠ 0 by omega)
  have h1 := Int.emod_lt_of_pos p hn
  obtain ⟨d1, d2, d3, d4, d5, d6⟩ := dists (p := p) hn
  unfold keepK topK
  by_cases h : (p / n + o) % 2 = 0
  · rw [if_pos h, if_pos h]
    refine ⟨List.mem_cons_self, fun c hc => ?_⟩
    obtain rfl := List.mem_singleton.mp hc
    exact ⟨Int.le_refl _, rfl⟩
  · rw [if_neg h, if_neg h]
    by_cases hr : p % n = 0
    · rw [if_pos hr]
      refine ⟨by simp, fun c hc => ?_⟩
      rcases List.mem_cons.mp hc with rfl | hc
      · refine ⟨by omega, sq_of_dist ?_⟩
        unfold distK at d4 d5
        omega
      · obtain rfl := List.mem_singleton.mp hc
        exact ⟨Int.le_refl _, rfl⟩
    · rw [if_neg hr]
      refine ⟨List.mem_cons_self, fun c hc => ?_⟩
      obtain rfl := List.mem_singleton.mp hc
      exact ⟨Int.le_refl _, rfl⟩
theorem top_even {n p : Int} (hn : 0 < n) : topK n 0 p = 2 * ((p + n) / (2 * n)) := by
  have e : (p + n) / (2 * n) = (p / n + 1) / 2 := by
    rw [Int.mul_comm 2 n, ← Int.ediv_ediv_of_nonneg (by omega : 0 ≤ n)]
    congr 1
    have := Int.add_mul_ediv_right p 1 (show n ≠ 0 by omega)
    rwa [Int.one_mul] at this
  rw [e]
  unfold topK
  split <;> omega
theorem top_odd {n p : Int} (hn : 0 < n) : topK n 1 p = 2 * (p / (2 * n)) + 1 := by
  have e : p / (2 * n) = p / n / 2 := by rw [Int.mul_comm 2 n, ← Int.ediv_ediv_of_nonneg (by omega : 0 ≤ n)]
  rw [e]
  unfold topK
  split <;> omega
end TB

namespace TB
open PySem L2 PySem.Spec PyProof.Rows
def stepK (n o : Int) (rows : List (List Int)) (p : Int) : List (List Int) := rows.flatMap fun row => (keepK n o p).map fun c => row ++ [c]
def rowsK (n o : Int) (ps : List Int) : List (List Int) := ps.foldl (stepK n o) [[]]
theorem rowsK_snoc (n o : Int) (ps : List Int) (p : Int) : rowsK n o (ps ++ [p]) = stepK n o (rowsK n o ps) p := by unfold rowsK; rw [List.foldl_append]; rfl
theorem keep_len (n o p : Int) : (keepK n o p).length ≤ 2 := by
  unfold keepK
  split
  · exact Nat.le_of_ble_eq_true rfl
  · split <;> exact Nat.le_of_ble_eq_true rfl
theorem stepK_len (n o : Int) (rows : List (List Int)) (p : Int) : (stepK n o rows p).length ≤ 2 * rows.length := by
  unfold stepK
  induction rows with
  | nil => exact Nat.le_refl _
  | cons r rs ih =>
    rw [List.flatMap_cons, List.length_append, List.length_map, List.length_cons]
    have := keep_len n o p
    omega
theorem stepK_app (n o : Int) (rows : List (List Int)) (row : List Int) (p : Int) : stepK n o (rows ++ [row]) p = stepK n o rows p ++ (keepK n o p).map fun c => row ++ [c] := by
  unfold stepK
  rw [List.flatMap_append, List.flatMap_cons, List.flatMap_nil, List.append_nil]
theorem rowsK_mem {n o a b c d : Int} {row : List Int} : row ∈ rowsK n o [a, b, c, d] ↔ ∃ w ∈ keepK n o a, ∃ x ∈ keepK n o b, ∃ y ∈ keepK n o c, ∃ z ∈ keepK n o d, row = [w, x, y, z] := by
  show row ∈ stepK n o (stepK n o (stepK n o (stepK n o [[]] a) b) c) d ↔ _
  unfold stepK
  simp only [List.mem_flatMap, List.mem_map, List.mem_singleton]
  constructor
  · rintro ⟨r3, ⟨r2, ⟨r1, ⟨r0, rfl, w, hw, rfl⟩, x, hx, rfl⟩, y, hy, rfl⟩, z, hz, rfl⟩
    exact ⟨w, hw, x, hx, y, hy, z, hz, rfl⟩
  · rintro ⟨w, hw, x, hx, y, hy, z, hz, rfl⟩
    exact ⟨_, ⟨_, ⟨_, ⟨_, rfl, w, hw, rfl⟩, x, hx, rfl⟩, y, hy, rfl⟩, z, hz, rfl⟩
/-- how far a row is off, as the law sums it up -/
def farR (n : Int) (p row : List Int) : Int := ((List.range 4).map fun k => (n * row.getD k 0 - p.getD k 0) * (n * row.getD k 0 - p.getD k 0)).sum
theorem farR_eq {n a b c d w x y z : Int} : farR n [a, b, c, d] [w, x, y, z] = farL n [a, b, c, d] [w, x, y, z] := by
  show ([(n * w - a) * (n * w - a), (n * x - b) * (n * x - b), (n * y - c) * (n * y - c), (n * z - d) * (n * z - d)] : List Int).sum = ([(a - w * n) * (a - w * n), (b - x * n) * (b - x * n), (c - y * n) * (c - y * n), (d - z * n) * (d - z * n)] : List Int).sum
  have e : ∀ u v : Int, (n * u - v) * (n * u - v) = (v - u * n) * (v - u * n) := fun u v => by grind
  rw [e, e, e, e]
theorem le_four {w x y z w' x' y' z' : Int} (h1 : w ≤ w') (h2 : x ≤ x') (h3 : y ≤ y') (h4 : z ≤ z') : ([w, x, y, z] : List Int) ≤ [w', x', y', z'] := by
  intro h
  have k : ∀ {a b : Int} {l m : List Int}, a :: l < b :: m → a < b ∨ (a = b ∧ l < m) := fun h => List.cons_lt_cons_iff.mp h
  rcases k h with h | ⟨_, h⟩
  · omega
  · rcases k h with h | ⟨_, h⟩
    · omega
    · rcases k h with h | ⟨_, h⟩
      · omega
      · rcases k h with h | ⟨_, h⟩
        · omega
        · cases h
def topL (n o : Int) (p : List Int) : List Int := p.map (topK n o)
theorem rows_top {n o : Int} (hn : 0 < n) {p : List Int} (hp : p.length = 4) : topL n o p ∈ rowsK n o p ∧ ∀ row ∈ rowsK n o p, row ≤ topL n o p ∧ farR n p row = farR n p (topL n o p) := by
  obtain ⟨a, b, c, d, rfl⟩ := four hp
  obtain ⟨a1, a2⟩ := keep_top (o := o) (p := a) hn
  obtain ⟨b1, b2⟩ := keep_top (o := o) (p := b) hn
  obtain ⟨c1, c2⟩ := keep_top (o := o) (p := c) hn
  obtain ⟨d1, d2⟩ := keep_top (o := o) (p := d) hn
  refine ⟨rowsK_mem.mpr ⟨_, a1, _, b1, _, c1, _, d1, rfl⟩, fun row hr => ?_⟩
  obtain ⟨w, hw, x, hx, y, hy, z, hz, rfl⟩ := rowsK_mem.mp hr
  refine ⟨le_four (a2 w hw).1 (b2 x hx).1 (c2 y hy).1 (d2 z hz).1, ?_⟩
  show ([(n * w - a) * (n * w - a), (n * x - b) * (n * x - b), (n * y - c) * (n * y - c), (n * z - d) * (n * z - d)] : List Int).sum = ([(n * topK n o a - a) * (n * topK n o a - a), (n * topK n o b - b) * (n * topK n o b - b), (n * topK n o c - c) * (n * topK n o c - c), (n * topK n o d - d) * (n * topK n o d - d)] : List Int).sum
  rw [(a2 w hw).2, (b2 x hx).2, (c2 y hy).2, (d2 z hz).2]
theorem rows_four {n o : Int} {p : List Int} (hp : p.length = 4) : ∀ row ∈ rowsK n o p, row.length = 4 := fun row hr => by
  obtain ⟨a, b, c, d, rfl⟩ := four hp
  obtain ⟨w, hw, x, hx, y, hy, z, hz, rfl⟩ := rowsK_mem.mp hr
  rfl
/-! the best one -/
def encK (n : Int) (p row : List Int) : D := .tuple [.int (-farR n p row), ti row]
theorem lt_encK (n : Int) (p u v : List Int) : PySem.W.dataLt (encK n p u) (encK n p v) = if farR n p u = farR n p v then decide (u < v) else decide (farR n p v < farR n p u) := by
  unfold encK
  rw [PySem.W.dataLt_pair rfl (alike_ti _ _), lt_ti, PySem.W.dataLt_int]
  have e : PyData.eqv (.int (-farR n p u)) (.int (-farR n p v)) = decide (-farR n p u = -farR n p v) := rfl
  rw [e, eqv_ti]
  by_cases h : farR n p u = farR n p v
  · rw [if_pos (decide_eq_true (by rw [h])), if_pos h]
    by_cases g : u = v
    · subst g
      rw [if_pos (decide_eq_true rfl)]
      exact (decide_eq_false (List.lt_irrefl u)).symm
    · rw [if_neg (by rw [decide_eq_false g]; exact Bool.false_ne_true)]
  · rw [if_neg (by rw [decide_eq_false (by omega)]; exact Bool.false_ne_true), if_neg h]
    exact decide_eq_decide.mpr (by omega)
def mF (n : Int) (p : List Int) (x : List Int) (xs : List (List Int)) : List Int := xs.foldl (fun b row => if PySem.W.dataLt (encK n p b) (encK n p row) = true then row else b) x
theorem maxD_enc (n : Int) (p : List Int) : ∀ (xs : List (List Int)) (x : List Int), PySem.W.maxD (encK n p x) (xs.map (encK n p)) = encK n p (mF n p x xs)
  | [], x => rfl
  | y :: ys, x => by
    have ih := maxD_enc n p ys (if PySem.W.dataLt (encK n p x) (encK n p y) = true then y else x)
    unfold PySem.W.maxD at ih ⊢
    rw [List.map_cons, List.foldl_cons]
    unfold mF at ih ⊢
    rw [List.foldl_cons, ← ih]
    congr 1
    split <;> rfl
def bestD (n : Int) (p : List Int) : List (List Int) → D
  | [] => .none
  | x :: xs => .tuple [.int (farR n p (mF n p x xs)), ti (mF n p x xs)]
theorem mF_snoc (n : Int) (p x : List Int) (xs : List (List Int)) (row : List Int) : mF n p x (xs ++ [row]) = if PySem.W.dataLt (encK n p (mF n p x xs)) (encK n p row) = true then row else mF n p x xs := by
  unfold mF
  rw [List.foldl_append]
  rfl
theorem ti_inj {x y : List Int} (h : ti x = ti y) : x = y := by
  have h1 : x.map PyData.int = y.map PyData.int := by
    injection h
  have : ∀ {a b : List Int}, a.map PyData.int = b.map PyData.int → a = b := fun {a} => by
    induction a with
    | nil => intro b h; cases b with
      | nil => rfl
      | cons _ _ => cases h
    | cons u us ih => intro b h; cases b with
      | nil => cases h
      | cons v vs =>
        rw [List.map_cons, List.map_cons] at h
        injection h with h1 h2
        injection h1 with h1
        rw [h1, ih h2]
  exact this h1
theorem mF_spec (n : Int) (p x : List Int) (xs : List (List Int)) : mF n p x xs ∈ x :: xs ∧ ∀ row ∈ x :: xs, PySem.W.dataLt (encK n p (mF n p x xs)) (encK n p row) = false := by
  have l := lt_encK n p
  obtain ⟨m, h1, h2, h3⟩ := max_spec (enc := encK n p) (fun a => by rw [l, if_pos rfl]; exact decide_eq_false (List.lt_irrefl a)) (fun a b h => by
      rw [l] at h ⊢
      by_cases e : farR n p a = farR n p b
      · rw [if_pos e] at h
        rw [if_pos e.symm]
        exact decide_eq_false (List.lt_asymm (of_decide_eq_true h))
      · rw [if_neg e] at h
        rw [if_neg (fun q => e q.symm)]
        have := of_decide_eq_true h
        exact decide_eq_false (by omega)) (fun a b c h g => by
      rw [l] at h g ⊢
      by_cases e : farR n p a = farR n p b
      · rw [if_pos e] at h
        have h' : ¬ a < b := of_decide_eq_false h
        by_cases e2 : farR n p b = farR n p c
        · rw [if_pos e2] at g
          have g' : ¬ b < c := of_decide_eq_false g
          rw [if_pos (e.trans e2)]
          exact decide_eq_false (List.le_trans (show c ≤ b from g') (show b ≤ a from h'))
        · rw [if_neg e2] at g
          have g' := of_decide_eq_false g
          rw [if_neg (by omega)]
          exact decide_eq_false (by omega)
      · rw [if_neg e] at h
        have h' := of_decide_eq_false h
        by_cases e2 : farR n p b = farR n p c
        · rw [if_neg (by omega)]
          exact decide_eq_false (by omega)
        · rw [if_neg e2] at g
          have g' := of_decide_eq_false g
          rw [if_neg (by omega)]
          exact decide_eq_false (by omega)) xs x
  have e : mF n p x xs = m := by
    have := (maxD_enc n p xs x).symm.trans h2
    unfold encK at this
    injection this with this
    injection this with _ this
    injection this with this _
    exact ti_inj this
  rw [e]
  exact ⟨h1, h3⟩
theorem best_near {n : Int} (hn : 0 < n) {p : List Int} (hp : p.length = 4) : bestD n p (rowsK n 0 p ++ rowsK n 1 p) = .tuple [.int (farR n p (nearL n p)), ti (nearL n p)] := by
  obtain ⟨t0, r0⟩ := rows_top (o := 0) hn hp
  obtain ⟨t1, r1⟩ := rows_top (o := 1) hn hp
  have e0 : topL n 0 p = evenL n p := List.map_congr_left fun z _ => top_even hn
  have e1 : topL n 1 p = oddL n p := List.map_congr_left fun z _ => top_odd hn
  cases q : rowsK n 0 p ++ rowsK n 1 p with
  | nil =>
    have := List.mem_append_left (rowsK n 1 p) t0
    rw [q] at this
    cases this
  | cons x xs =>
    show PyData.tuple [.int (farR n p (mF n p x xs)), ti (mF n p x xs)] = _
    obtain ⟨h1, h2⟩ := mF_spec n p x xs
    rw [← q] at h1 h2
    have k0 := h2 _ (List.mem_append_left _ t0)
    have k1 := h2 _ (List.mem_append_right _ t1)
    have fe : ∀ u : List Int, u.length = 4 → farR n p u = farL n p u := fun u hu => by
      obtain ⟨a, b, c, d, rfl⟩ := four hp
      obtain ⟨w, x, y, z, rfl⟩ := four hu
      exact farR_eq
    have l0 := rows_four hp _ t0
    have l1 := rows_four hp _ t1
    have f0 := fe _ l0
    have f1 := fe _ l1
    suffices hh : mF n p x xs = nearL n p by rw [hh]
    generalize mF n p x xs = m at *
    rw [lt_encK] at k0 k1
    have hm : (m = topL n 0 p) ∨ (m = topL n 1 p) := by
      rcases List.mem_append.mp h1 with h | h
      · obtain ⟨g1, g2⟩ := r0 m h
        rw [if_pos g2] at k0
        exact .inl (ll_anti g1 (of_decide_eq_false k0))
      · obtain ⟨g1, g2⟩ := r1 m h
        rw [if_pos g2] at k1
        exact .inr (ll_anti g1 (of_decide_eq_false k1))
    rw [e0] at f0 hm k0
    rw [e1] at f1 hm k1
    unfold nearL
    rw [← f0, ← f1]
    rcases hm with rfl | rfl
    · by_cases e : farR n p (evenL n p) = farR n p (oddL n p)
      · rw [if_pos e]
        rw [if_pos e] at k1
        rw [if_neg (of_decide_eq_false k1)]
      · rw [if_neg e]
        rw [if_neg e] at k1
        have := of_decide_eq_false k1
        rw [if_pos (by omega)]
    · by_cases e : farR n p (evenL n p) = farR n p (oddL n p)
      · rw [if_pos e]
        rw [if_pos e.symm] at k0
        have k0' : ¬ oddL n p < evenL n p := of_decide_eq_false k0
        by_cases g : evenL n p < oddL n p
        · rw [if_pos g]
        · rw [if_neg g]
          exact ll_anti g k0'
      · rw [if_neg e]
        rw [if_neg (fun q => e q.symm)] at k0
        have := of_decide_eq_false k0
        rw [if_neg (by omega)]
theorem bestD_nil (n : Int) (p row : List Int) : bestD n p ([] ++ [row]) = .tuple [.int (farR n p row), ti row] := rfl
theorem bestD_cons (n : Int) (p x : List Int) (xs : List (List Int)) (row : List Int) : bestD n p ((x :: xs) ++ [row]) = if PySem.W.dataLt (encK n p (mF n p x xs)) (encK n p row) = true then .tuple [.int (farR n p row), ti row] else .tuple [.int (farR n p (mF n p x xs)), ti (mF n p x xs)] := by
  show PyData.tuple [.int (farR n p (mF n p x (xs ++ [row]))), ti (mF n p x (xs ++ [row]))] = _
  rw [mF_snoc]
  split <;> rfl
theorem rowsK_len (n o : Int) : ∀ (ps : List Int), ps.length ≤ 4 → (rowsK n o ps).length ≤ 2 ^ ps.length := by
  have key : ∀ (ps : List Int) (rows : List (List Int)), (ps.foldl (stepK n o) rows).length ≤ 2 ^ ps.length * rows.length := fun ps => by
    induction ps with
    | nil => intro rows; simp
    | cons q qs ih =>
      intro rows
      rw [List.foldl_cons, List.length_cons, Nat.pow_succ]
      refine Nat.le_trans (ih _) ?_
      rw [Nat.mul_assoc]
      exact Nat.mul_le_mul_left _ (stepK_len n o rows q)
  intro ps _
  have := key ps [[]]
  simpa [rowsK] using this
theorem near_bt {n o p : Int} {m : Nat} (hn : 0 < n) (h : Bt m p) : ∀ c ∈ nearK n o p, Bt (m + 3) c := fun c hc => by
  have hq : (p / n).natAbs ≤ p.natAbs := Int.natAbs_ediv_le_natAbs p n
  obtain ⟨k, hk, rfl⟩ := List.mem_map.mp hc
  have hk6 : k < 6 := List.mem_range.mp (List.mem_filter.mp hk).1
  unfold Bt at h ⊢
  have e : 2 ^ (m + 3) = 8 * 2 ^ m := by rw [Nat.pow_add]; omega
  have e1 : 0 < 2 ^ m := Nat.pow_pos (by decide)
  omega
end TB

namespace TB
open PySem L2 PySem.Spec PyProof.Rows
theorem map_get {α : Type} {f : α → D} {xs : List α} {k : Nat} {d : D} (e : (xs.map f)[k]? = some d) : ∃ a, xs[k]? = some a ∧ d = f a := by
  rw [List.getElem?_map] at e
  cases h : xs[k]? with
  | none => rw [h] at e; cases e
  | some a =>
    rw [h] at e
    exact ⟨a, rfl, (Option.some.inj e).symm⟩
theorem take_one {α : Type} {xs : List α} {k : Nat} {a : α} (h : xs[k]? = some a) : xs.take (k + 1) = xs.take k ++ [a] := by
  rw [List.take_add_one, h]
  rfl
theorem two_get {i : Nat} {d : D} (e : ([.int 0, .int 1] : List D)[i]? = some d) : i < 2 ∧ d = .int (i : Int) := by
  rcases i with _ | _ | i
  · exact ⟨by decide, (Option.some.inj e).symm⟩
  · exact ⟨by decide, (Option.some.inj e).symm⟩
  · cases e
def doneK (n : Int) (p : List Int) : Nat → List (List Int)
  | 0 => []
  | 1 => rowsK n 0 p
  | _ => rowsK n 0 p ++ rowsK n 1 p
theorem doneK_succ {n : Int} {p : List Int} {i : Nat} (h : i < 2) : doneK n p (i + 1) = doneK n p i ++ rowsK n (i : Int) p := by
  rcases i with _ | _ | i
  · rfl
  · rfl
  · omega
theorem keep_in {n o p : Int} (hn : 0 < n) : ∀ c ∈ keepK n o p, c ∈ nearK n o p := fun c hc => by
  rw [← near_keep hn] at hc
  exact (List.mem_filter.mp hc).1
theorem rows_bt {n o : Int} (hn : 0 < n) {p : List Int} (hp : p.length = 4) {m : Nat} (h : Sm m p) : ∀ row ∈ rowsK n o p, ∀ z ∈ row, Bt (m + 3) z := fun row hr z hz => by
  obtain ⟨a, b, c, d, rfl⟩ := four hp
  obtain ⟨w, hw, x, hx, y, hy, t, ht, rfl⟩ := rowsK_mem.mp hr
  simp only [List.mem_cons, List.not_mem_nil, or_false] at hz
  rcases hz with rfl | rfl | rfl | rfl
  · exact near_bt hn (h a (by simp)) _ (keep_in hn _ hw)
  · exact near_bt hn (h b (by simp)) _ (keep_in hn _ hx)
  · exact near_bt hn (h c (by simp)) _ (keep_in hn _ hy)
  · exact near_bt hn (h d (by simp)) _ (keep_in hn _ ht)
theorem far_bt {n r q : Int} {a b c : Nat} (h1 : Bt a n) (h2 : Bt b r) (h3 : Bt c q) (h4 : c ≤ a + b) : Bt (a + b + 1) (n * r - q) := by
  have h5 : Bt (a + b) q := bt_up h3 h4
  unfold Bt at *
  have h6 : (n * r).natAbs < 2 ^ (a + b) := by
    rw [Int.natAbs_mul, Nat.pow_add]
    exact Nat.mul_lt_mul'' h1 h2
  rw [Nat.pow_succ]
  omega
theorem near_len (n o p : Int) : (nearK n o p).length ≤ 6 := by
  unfold nearK
  rw [List.length_map]
  exact List.length_filter_le _ _
theorem near_alike {n o p : Int} {x : Int} {xs : List Int} : PySem.W.AlikeAll (.int (distK n p x) :: xs.map fun c => .int (distK n p c)) ∧ PyData.depthAll (.int (distK n p x) :: xs.map fun c => .int (distK n p c)) ≤ 60 := by
  have h := alike_all_int ((x :: xs).map (distK n p))
  have g := depth_all_int ((x :: xs).map (distK n p))
  rw [List.map_map] at h g
  exact ⟨h, g⟩
theorem rowsK_lens {n o : Int} (ps : List Int) : ∀ row ∈ rowsK n o ps, row.length = ps.length := by
  have key : ∀ (ps : List Int) (rows : List (List Int)) (m : Nat), (∀ r ∈ rows, r.length = m) → ∀ row ∈ ps.foldl (stepK n o) rows, row.length = m + ps.length := fun ps => by
    induction ps with
    | nil => intro rows m h row hr; exact h row hr
    | cons q qs ih =>
      intro rows m h row hr
      rw [List.foldl_cons] at hr
      have := ih (stepK n o rows q) (m + 1) (fun r hr => by
        unfold stepK at hr
        obtain ⟨r0, h0, h1⟩ := List.mem_flatMap.mp hr
        obtain ⟨c, _, rfl⟩ := List.mem_map.mp h1
        rw [List.length_append, h r0 h0]
        rfl) row hr
      rw [this, List.length_cons]
      omega
  intro row hr
  have := key ps [[]] 0 (fun r h => by rw [List.mem_singleton.mp h]; rfl) row hr
  omega
theorem alike_encK (n : Int) (p u v : List Int) : PySem.W.alike (encK n p u) (encK n p v) = true := by
  unfold encK
  rw [PySem.W.alike, PySem.W.alikeAll, PySem.W.alikeAll, alike_ti]
  rfl
theorem dep_encK (n : Int) (p u v : List Int) : min (encK n p u).depth (encK n p v).depth ≤ 60 := by
  refine Nat.le_trans (Nat.min_le_left _ _) ?_
  unfold encK
  rw [PyData.depth, PyData.depthAll, PyData.depthAll, dep_ti]
  simp [PyData.depth, PyData.depthAll]
end TB

namespace TB
open PySem L2 PySem.Spec PyProof.Rows
/-! ### isqrt -/
def rIsqrt : List V → Hp → VK → Prop := fun vs H Q => ∃ a : Int, vs = [.int a] ∧ 0 ≤ a ∧ a < 2 ^ 64 ∧ Q (.int ((Float64.isqrt a.toNat : Nat) : Int)) H
theorem cr_isqrt {X : Cx} : CallR X (.builtin "math.isqrt") rIsqrt := by
  intro pins s σ H vs us Q I r h
  obtain ⟨a, rfl, h0, h1, q⟩ := h
  cases r with
  | cons r rr =>
    cases rr
    obtain ⟨t, rfl⟩ := r
    exact PySem.W.mg_isqrt h0 h1 ⟨.int _, H, I.tok _, ⟨_, rfl⟩, q⟩
section
variable {X : Cx} {W : WX} {F0 H0 : Hp} {Γ : List S} {e : Expr} {a : Int} {pos np : Pos}
theorem rc_isqrt {K : PySem.W.Frag} (h0 : 0 ≤ a) (h1 : a < 2 ^ 64) : RC K rIsqrt [.int a] (.v (.int ((Float64.isqrt a.toNat : Nat) : Int))) := fun vs F H Q s dv q => by
  cases dv with
  | cons d1 dv =>
    cases dv
    cases d1
    exact ⟨a, rfl, h0, h1, q _ F H (Fz.refl s) (.int _)⟩
theorem je_isqrt (h0 : 0 ≤ a) (h1 : a < 2 ^ 64) (hm : X.mg "isqrt" = some (.builtin "math.isqrt")) (h : JE X WF F0 H0 Γ e (.v (.int a))) (hg : Gl X "isqrt" := by rfl) (s1 : starEach [e] X.env = (false, eval e X.env) :: starEach [] X.env := by rfl) : JE X W F0 H0 Γ (.Call (.Name "isqrt" np) [e] [] pos) (.v (.int ((Float64.isqrt a.toNat : Nat) : Int))) :=
  pe_imp (pe_callBfun cr_isqrt hg hm (ja_cons h ja_nil s1) (by decide) s1 rfl) fun σ H Q ⟨F, ok, q⟩ => ⟨F, ok, fun vs F1 H1 z1 d1 => rc_isqrt h0 h1 vs F1 H1 Q z1.s d1 fun v F2 H2 z2 dv => q v F2 H2 (z1.trans z2) dv⟩
end
theorem isqrt_all : (List.range 10002).all (fun n => Nat.ble (Float64.isqrt n * Float64.isqrt n) n && Nat.blt n ((Float64.isqrt n + 1) * (Float64.isqrt n + 1))) = true := by decide +kernel
theorem isqrt_small {n : Nat} (h : n ≤ 10001) : Float64.isqrt n * Float64.isqrt n ≤ n ∧ n < (Float64.isqrt n + 1) * (Float64.isqrt n + 1) := by
  have := List.all_eq_true.mp isqrt_all n (List.mem_range.mpr (by omega))
  rw [Bool.and_eq_true] at this
  exact ⟨Nat.le_of_ble_eq_true this.1, Nat.le_of_ble_eq_true this.2⟩
section
variable {X : Cx} {F0 H0 : Hp} {Γ : List S} {e : Expr} {es : List Expr} {sp : Pos} {ds es2 : List D}
/-- *t in a tuple or a call, t a tuple -/
theorem ja_star (ha : JE X WF F0 H0 Γ e (.v (.tuple ds))) (hr : JA X F0 H0 Γ es es2) (hs : starEach (.Starred e sp :: es) X.env = (true, eval e X.env) :: starEach es X.env := by rfl) : JA X F0 H0 Γ (.Starred e sp :: es) (ds ++ es2) :=
  pa_imp (StX.pa_star ha hr hs) fun σ H Q ⟨F, ok, q⟩ => ⟨F, ok, fun v F1 H1 z1 d1 => by
    cases d1 with
    | tup g1 g2 => exact ⟨_, _, rfl, .inl (st_ex z1.s g1), F1, ok.mono z1, fun vs F2 H2 z2 d2 => q _ F2 H2 (z1.trans z2) (da_app (da_ex z2.f _ _ g2) d2)⟩⟩
end
end TB

namespace TB
open PySem L2 PySem.Spec PyProof.Rows
/-! ### list(range(i, j, -1)) -/
def dnV (i : Int) (n : Nat) : List V := (List.range n).map fun k => V.int (i + (k : Nat) * (-1))
theorem dnV_da {K : PySem.W.Frag} {F : Hp} (i : Int) (n : Nat) : DpAll K F (dnV i n) (rngC i (-1) n) := by
  have key : ∀ l : List Nat, DpAll K F (l.map fun k : Nat => V.int (i + (k : Nat) * (-1))) (l.map fun k : Nat => PyData.int (i + (k : Nat) * (-1))) := fun l => by
    induction l with
    | nil => exact .nil
    | cons a l ih => exact .cons (.int _) ih
  exact key _
theorem vals_dn {i : Int} {n : Nat} {acc : Array Value} (h : ItemsOf (fun k v => ∃ t, v = .int (i + k * (-1)) t) acc n) : Vals (dnV i n) acc.toList := by
  have e : acc.toList.length = n := by rw [Array.length_toList]; exact h.1
  unfold dnV
  rw [← e]
  refine vals_of_get acc.toList _ fun j u hj => ?_
  obtain ⟨t, rfl⟩ := h.2 j u (by rw [← hj, Array.getElem?_toList])
  exact ⟨t, rfl⟩
def tDn (K : PySem.W.Frag) (ta : TA) : TE := fun σ H Q => ta σ H fun vs H1 => ∃ i j n, vs = [V.int i, V.int j, V.int (-1)] ∧ RgC i j (-1) n ∧ n ≤ 100000 ∧ ∀ q, H1 q = none → Q (.ref q) (upd H1 q (.lst (dnV i n)))
section
variable {X : Cx} {a b c : Expr} {ta : TA} {p pos p2 pos2 : Pos}
theorem pe_listDn (hc : X.calm = true) (hgl : Gl X "list") (hml : X.mg "list" = none) (hg : Gl X "range") (hm : X.mg "range" = none) (ha : PA X [a, b, c] ta)
    (na : starEach [.Call (.Name "range" p) [a, b, c] [] pos] X.env = (false, eval (.Call (.Name "range" p) [a, b, c] [] pos) X.env) :: starEach [] X.env := by rfl)
    (hs : starEach [a, b, c] X.env = (false, eval a X.env) :: starEach [b, c] X.env := by rfl) (hpl : (backTo pos (starEach [b, c] X.env)).any (·.1) = false := by rfl) :
    PE X (.Call (.Name "list" p2) [.Call (.Name "range" p) [a, b, c] [] pos] [] pos2) (tDn X.K ta) := by
  refine ⟨fun pins s σ H Q I h => ?_⟩
  have hr : wpAny (model X.prog X.w) X.A (eval (.Call (.Name "range" p) [a, b, c] [] pos) X.env) (fun x s' => ∃ r i j t u v n H', x = Value.ref r ∧ IsRange s'.heap r i j (-1) t u v ∧ RgC i j (-1) n ∧ n ≤ 100000 ∧ Inv X pins σ H' s' ∧ ∀ q, H' q = none → Q (.ref q) (upd H' q (.lst (dnV i n)))) X.xe s := by
    refine Call_ (ld_blt I hg hm boot_range (PyProof.Rows.callWith_type1 (thn (ha.run pos pins s σ H _ I h) fun us s1 ⟨vs, H1, I1, r1, q1⟩ => ?_) hs hpl))
    obtain ⟨i, j, n, e, ⟨c0, c1, c2, c3⟩, hn, q⟩ := q1
    subst e
    cases r1 with
    | cons r rr =>
      cases rr with
      | cons r' rr =>
        cases rr with
        | cons r'' rr =>
          cases rr
          obtain ⟨t, rfl⟩ := r
          obtain ⟨t', rfl⟩ := r'
          obtain ⟨t'', rfl⟩ := r''
          exact call_range_3 c0 ⟨_, i, j, _, _, _, n, H1, rfl, IsRange.new _ _ _ _ _ _ _, ⟨c0, c1, c2, c3⟩, hn, I1.kept (t' := s1.toks) fun b o e => Heap.get?_push_of_some _ e, q⟩ (.inl (PyProof.noPylong_small c1))
  refine Call_ (ld_blt I hgl hml boot_list (PyProof.Rows.callWith_type1 (args_cons (thn hr fun x s1 ⟨r, i, j, t, u, v, n, H1, ex, hr, ⟨c0, c1, c2, c3⟩, hn, I1, q⟩ => args_nil ?_) na) na))
  subst ex
  refine call_list_range (n := n) (I1.ok.hd hc) hr c2 c3 (Nat.le_trans hn (by decide)) fun h' tk acc c' hk e' hi => ?_
  refine ⟨.ref s1.heap.objs.size, upd H1 s1.heap.objs.size (.lst (dnV i n)), I1.laid hk (Nat.le_refl _) (show ObjOk X.prog X.w _ _ _ (.lst (dnV i n)) from ⟨?_, acc.toList, c', vals_dn hi, ?_⟩), rfl, q _ (I1.hok.fresh (Nat.le_refl _))⟩
  · unfold dnV
    rw [List.length_map, List.length_range]
    exact Nat.le_trans hn (by decide)
  · rw [Array.toArray_toList]; exact e'
end
section
variable {X : Cx} {W : WX} {F0 H0 : Hp} {Γ : List S} {a b c : Expr} {p pos p2 pos2 : Pos} {i j : Int}
theorem je_listDn (hc : X.calm = true) (hml : X.mg "list" = none) (hm : X.mg "range" = none) (h0 : -(2 ^ 62) ≤ i ∧ i < 2 ^ 62 ∧ -(2 ^ 62) ≤ j ∧ j < 2 ^ 62) (hn : (i - j).toNat ≤ 100000) (ha : JE X WF F0 H0 Γ a (.v (.int i))) (hb : JE X WF F0 H0 Γ b (.v (.int j))) (hcc : JE X WF F0 H0 Γ c (.v (.int (-1)))) (hgl : Gl X "list" := by rfl) (hg : Gl X "range" := by rfl)
    (na : starEach [.Call (.Name "range" p) [a, b, c] [] pos] X.env = (false, eval (.Call (.Name "range" p) [a, b, c] [] pos) X.env) :: starEach [] X.env := by rfl)
    (hs : starEach [a, b, c] X.env = (false, eval a X.env) :: starEach [b, c] X.env := by rfl) (hs2 : starEach [b, c] X.env = (false, eval b X.env) :: starEach [c] X.env := by rfl) (hs3 : starEach [c] X.env = (false, eval c X.env) :: starEach [] X.env := by rfl) (hpl : (backTo pos (starEach [b, c] X.env)).any (·.1) = false := by rfl) :
    JE X W F0 H0 Γ (.Call (.Name "list" p2) [.Call (.Name "range" p) [a, b, c] [] pos] [] pos2) (.o (rngC i (-1) (i - j).toNat)) :=
  pe_imp (pe_listDn hc hgl hml hg hm (ja_cons ha (ja_cons hb (ja_cons hcc ja_nil hs3) hs2) hs) na hs hpl) fun σ H Q h => by
    obtain ⟨F, ok, q⟩ := po_of (F := H) (by trivial) h
    exact ⟨F, ok, fun vs F1 H1 z1 d1 => by
      cases d1 with
      | cons k1 k2 =>
        cases k2 with
        | cons k2 k3 =>
          cases k3 with
          | cons k3 k4 =>
            cases k1; cases k2; cases k3; cases k4
            exact ⟨i, j, (i - j).toNat, rfl, RgC.neg h0.1 h0.2.1 h0.2.2.1 h0.2.2.2, hn, po_lst (F := F1) z1.s (dnV_da i _) (po_mono z1 q)⟩⟩
end
section
variable {X : Cx} {W : WX} {F0 H0 : Hp} {Γ : List S} {a b : Expr} {np pos : Pos} {i j : Int}
theorem rc_min2 {K : PySem.W.Frag} : RC K (fun xs H Q => ∃ i j, xs = [V.int i, V.int j] ∧ Q (.int (if j < i then j else i)) H) [.int i, .int j] (.v (.int (if j < i then j else i))) := fun vs F H Q s dv q => by
  cases dv with
  | cons d1 dv =>
    cases dv with
    | cons d2 dv =>
      cases dv; cases d1; cases d2
      exact ⟨i, j, rfl, q _ F H (Fz.refl s) (.int _)⟩
theorem je_min2 (hc : X.calm = true) (hm : X.mg "min" = none) (ha : JE X W F0 H0 Γ a (.v (.int i))) (hb : JE X W F0 H0 Γ b (.v (.int j))) (hg : Gl X "min" := by rfl) (s1 : starEach [a, b] X.env = (false, eval a X.env) :: starEach [b] X.env := by rfl) (s2 : starEach [b] X.env = (false, eval b X.env) :: starEach [] X.env := by rfl) (s3 : (backTo pos (starEach [b] X.env)).any (·.1) = false := by rfl) : JE X W F0 H0 Γ (.Call (.Name "min" np) [a, b] [] pos) (.v (.int (if j < i then j else i))) := je_cb (call_min2 hc) rc_min2 noX hm (by decide +kernel) (ja_cons ha (ja_cons hb ja_nil s2) s1) hg (by decide) (by decide) s1 s3
end
/-! ### sums of four squares: the first integers -/
def rootI (v : Int) : Int := ((Float64.isqrt v.toNat : Nat) : Int)
def leastF (v k : Int) : Int := if rootI (v / k) * rootI (v / k) * k < v then rootI (v / k) + 1 else rootI (v / k)
def mostF (v m : Int) : Int := if m < rootI v then m else rootI v
def firstsF (v m k : Int) : List Int := (List.range (mostF v m - (leastF v k - 1)).toNat).map fun i : Nat => mostF v m + (i : Nat) * (-1)
theorem root_le {v : Int} (h0 : 0 ≤ v) (h1 : v ≤ 10001) : 0 ≤ rootI v ∧ rootI v ≤ 101 ∧ rootI v * rootI v ≤ v := by
  obtain ⟨a, b⟩ := isqrt_small (n := v.toNat) (by omega)
  unfold rootI
  generalize Float64.isqrt v.toNat = r at a b
  have hr : r ≤ 101 := by
    rcases Nat.lt_or_ge 101 r with h | h
    · have := Nat.mul_le_mul h h
      omega
    · exact h
  refine ⟨Int.natCast_nonneg _, by omega, ?_⟩
  have : ((r * r : Nat) : Int) ≤ v := by omega
  rwa [Int.natCast_mul] at this
theorem leastF_nn {v k : Int} (h0 : 0 ≤ v) (h1 : v ≤ 10001) (hk : 1 ≤ k) : 0 ≤ leastF v k ∧ leastF v k ≤ 102 := by
  have e1 := Int.ediv_nonneg h0 (show 0 ≤ k by omega)
  have e2 := Int.ediv_le_self k h0
  have := root_le e1 (by omega)
  unfold leastF
  split <;> omega
def allF : Nat → Int → Int → List (List Int)
  | 0, _, _ => [[]]
  | n + 1, v, m => (firstsF v m ((n + 1 : Nat) : Int)).flatMap fun a => (allF n (v - a * a) a).map fun r => a :: r
theorem firsts_mem {v m k a : Int} (h0 : 0 ≤ v) (h1 : v ≤ 10001) (hk : 1 ≤ k) (h : a ∈ firstsF v m k) : 0 ≤ a ∧ a ≤ 101 ∧ 0 ≤ v - a * a := by
  obtain ⟨i, hi, rfl⟩ := List.mem_map.mp h
  have hi2 := List.mem_range.mp hi
  obtain ⟨l1, _⟩ := leastF_nn h0 h1 hk
  obtain ⟨r1, r2, r3⟩ := root_le h0 h1
  have hm : mostF v m ≤ rootI v := by unfold mostF; split <;> omega
  have a0 : 0 ≤ mostF v m + (i : Nat) * (-1) := by omega
  have a1 : mostF v m + (i : Nat) * (-1) ≤ rootI v := by omega
  generalize mostF v m + (i : Nat) * (-1) = a at a0 a1 ⊢
  have := Int.mul_le_mul a1 a1 a0 r1
  omega
theorem firsts_len {v m k : Int} (h0 : 0 ≤ v) (h1 : v ≤ 300) (hk : 1 ≤ k) : (firstsF v m k).length ≤ 17 := by
  unfold firstsF
  rw [List.length_map, List.length_range]
  obtain ⟨r1, r2, r3⟩ := root_le h0 (by omega)
  have hm : mostF v m ≤ rootI v := by unfold mostF; split <;> omega
  have hr : rootI v ≤ 17 := by
    rcases (show 17 < rootI v ∨ rootI v ≤ 17 by omega) with h | h
    · have := Int.mul_le_mul (show (18 : Int) ≤ rootI v by omega) (show (18 : Int) ≤ rootI v by omega) (by decide) r1
      omega
    · exact h
  obtain ⟨l1, _⟩ := leastF_nn h0 (by omega) hk
  by_cases hv : v = 0
  · have : rootI v = 0 := by rw [hv]; decide +kernel
    omega
  · have hl : 1 ≤ leastF v k := by
      unfold leastF
      split
      · have := (root_le (Int.ediv_nonneg h0 (show 0 ≤ k by omega)) (by have := Int.ediv_le_self k h0; omega)).1
        omega
      · next h =>
        have := (root_le (Int.ediv_nonneg h0 (show 0 ≤ k by omega)) (by have := Int.ediv_le_self k h0; omega)).1
        rcases (show 0 < rootI (v / k) ∨ rootI (v / k) ≤ 0 by omega) with g | g
        · omega
        · have e : rootI (v / k) = 0 := by omega
          rw [e] at h
          omega
    omega
theorem flat_len {α β : Type} {f : α → List β} {m : Nat} : ∀ {xs : List α}, (∀ a ∈ xs, (f a).length ≤ m) → (xs.flatMap f).length ≤ xs.length * m
  | [], _ => by simp
  | x :: xs, h => by
    rw [List.flatMap_cons, List.length_append, List.length_cons, Nat.succ_mul]
    have := flat_len (f := f) (m := m) (xs := xs) fun a ha => h a (List.mem_cons_of_mem _ ha)
    have := h x List.mem_cons_self
    omega
theorem allF_len : ∀ (n : Nat) {v m : Int}, 0 ≤ v → v ≤ 300 → (allF n v m).length ≤ 17 ^ n
  | 0, _, _, _, _ => Nat.le_refl _
  | n + 1, v, m, h0, h1 => by
    have hk : (1 : Int) ≤ ((n + 1 : Nat) : Int) := by omega
    show ((firstsF v m ((n + 1 : Nat) : Int)).flatMap fun a => (allF n (v - a * a) a).map fun r => a :: r).length ≤ _
    refine Nat.le_trans (flat_len (m := 17 ^ n) fun a ha => ?_) ?_
    · rw [List.length_map]
      obtain ⟨a0, _, a1⟩ := firsts_mem h0 (by omega) hk ha
      have := Int.mul_nonneg a0 a0
      exact allF_len n a1 (by omega)
    · rw [Nat.pow_succ, Nat.mul_comm]
      exact Nat.mul_le_mul_left _ (firsts_len h0 h1 hk)
theorem allF_four : ∀ (n : Nat) {v m : Int}, ∀ r ∈ allF n v m, r.length = n
  | 0, _, _, r, h => by rw [List.mem_singleton.mp h]; rfl
  | n + 1, v, m, r, h => by
    obtain ⟨a, _, h2⟩ := List.mem_flatMap.mp h
    obtain ⟨q, hq, rfl⟩ := List.mem_map.mp h2
    rw [List.length_cons, allF_four n q hq]
theorem flat_congr {α β : Type} {f g : α → List β} : ∀ {xs : List α}, (∀ a ∈ xs, f a = g a) → xs.flatMap f = xs.flatMap g
  | [], _ => rfl
  | x :: xs, h => by rw [List.flatMap_cons, List.flatMap_cons, h x List.mem_cons_self, flat_congr fun a ha => h a (List.mem_cons_of_mem _ ha)]
end TB

namespace TB
open PySem L2 PySem.Spec PyProof.Rows
section
variable {X : Cx} {F0 H0 : Hp} {Γ : List S} {a b c : Expr} {pos : Pos} {i j k : Int}
/-- a <= b <= c, integers -/
theorem jt_leLe (ha : JE X WF F0 H0 Γ a (.v (.int i))) (hb : JE X WF F0 H0 Γ b (.v (.int j))) (hc : JE X WF F0 H0 Γ c (.v (.int k))) (hm : lastMarks [.LtE, .LtE] [b, c] = false := by with_unfolding_all rfl) : JT X F0 H0 Γ (.Compare a [.LtE, .LtE] [b, c] pos) (decide (i ≤ j) && decide (j ≤ k)) :=
  pt_imp (pt_chain op_le op_le ha hb hc hm) fun σ H Q ⟨F, ok, q⟩ => ⟨F, ok, fun v F1 H1 z1 d1 => ⟨F1, ok.mono z1, fun u F2 H2 z2 d2 => by
    cases d1
    cases d2
    refine ⟨i, j, rfl, rfl, decide (i ≤ j), rfl, ?_⟩
    by_cases h : i ≤ j
    · rw [decide_eq_true h] at q ⊢
      rw [if_pos rfl]
      refine ⟨F2, (ok.mono z1).mono z2, fun w F3 H3 z3 d3 => ?_⟩
      cases d3
      exact ⟨j, k, rfl, rfl, _, rfl, q F3 H3 ((z1.trans z2).trans z3)⟩
    · rw [decide_eq_false h] at q ⊢
      rw [if_neg Bool.false_ne_true]
      exact ⟨_, rfl, q F2 H2 (z1.trans z2)⟩⟩⟩
end
end TB

namespace TB
open PySem L2 PySem.Spec PyProof.Rows
/-! ### trees of one's own: displays, a list in a list grows, trees become data -/
section
variable {X : Cx} {W : WX} {F0 H0 : Hp} {Γ : List S} {a b e : Expr} {es : List Expr} {x : D} {ds : List D} {pos : Pos} {t : Own} {ts : List Own}
/-- data, a new list as trees -/
theorem je_v2q (h : JE X W F0 H0 Γ e (.v x)) : JE X W F0 H0 Γ e (.q (.dat x)) := pe_imp h fun σ H Q ⟨F, ok, q⟩ => ⟨F, ok, fun v F' H' z d => q v [] F' H' z (.dat d) List.nodup_nil fun a m => by cases m⟩
theorem je_o2q (h : JE X W F0 H0 Γ e (.o ds)) : JE X W F0 H0 Γ e (.q (.lst (ds.map .dat))) := pe_imp h fun σ H Q ⟨F, ok, q⟩ => ⟨F, ok, fun p xs F' H' z n1 n2 n3 d => q (.ref p) [p] F' H' z (.lst n2 (ol_dat d)) (List.nodup_cons.mpr ⟨by simp, List.nodup_nil⟩) fun a m => by
  rw [List.mem_singleton] at m
  subst m
  exact ⟨n1, n3⟩⟩
def tAQ (K : PySem.W.Frag) (F0 H0 : Hp) (Γ : List S) (ts : List Own) : TA := fun σ H Q => ∃ F, Ok K F0 H0 F σ H Γ ∧ ∀ vs fp F' H', Fz F H F' H' → OL K F' H' ts vs fp → fp.Nodup → (∀ a ∈ fp, H a = none ∧ F' a = none) → Q vs H'
abbrev JAQ (X : Cx) (F0 H0 : Hp) (Γ : List S) (es : List Expr) (ts : List Own) : Prop := PA X es (tAQ X.K F0 H0 Γ ts)
theorem jaq_nil : JAQ X F0 H0 Γ [] [] := pa_imp pa_nil fun σ H Q ⟨F, ok, q⟩ => q [] [] F H (Fz.refl ok.fh) .nil List.nodup_nil fun a m => by cases m
theorem jaq_cons (ha : JE X WF F0 H0 Γ e (.q t)) (hr : JAQ X F0 H0 Γ es ts) (hs : starEach (e :: es) X.env = (false, eval e X.env) :: starEach es X.env := by rfl) : JAQ X F0 H0 Γ (e :: es) (t :: ts) :=
  pa_imp (pa_cons ha hr hs) fun σ H Q ⟨F, ok, q⟩ => ⟨F, ok, fun v f1 F1 H1 z1 o1 nd1 n1 => ⟨F1, ok.mono z1, fun vs f2 F2 H2 z2 o2 nd2 n2 => by
    have old : ∀ a ∈ f1, ∃ u, H1 a = some u := fun a m => oa_some o1 a m
    refine q (v :: vs) (f1 ++ f2) F2 H2 (z1.trans z2) (.cons (oa_mono z2.f o1 fun a m => ?_) o2) ?_ fun a m => ?_
    · obtain ⟨u, k⟩ := old a m
      rw [k]
      exact z2.h _ _ k
    · refine List.nodup_append.mpr ⟨nd1, nd2, fun a m1 b m2 k => ?_⟩
      subst k
      obtain ⟨u, k⟩ := old a m1
      rw [(n2 a m2).1] at k
      cases k
    · rcases List.mem_append.mp m with m | m
      · obtain ⟨u, k⟩ := old a m
        exact ⟨(n1 a m).1, z2.n a u (n1 a m).2 k⟩
      · exact ⟨z1.h.none (n2 a m).1, (n2 a m).2⟩⟩⟩
theorem je_lstQ (h : JAQ X F0 H0 Γ es ts) (hl : ts.length ≤ 100000 := by exact Nat.le_of_ble_eq_true rfl) : JE X W F0 H0 Γ (.List es pos) (.q (.lst ts)) :=
  pe_imp (pe_lst h) fun σ H Q ⟨F, ok, q⟩ => ⟨F, ok, fun vs fp F1 H1 z1 o1 nd n => ⟨by rw [ol_len o1]; exact Nat.le_trans hl (by decide), fun l hl => by
    have ne : ∀ a ∈ fp, a ≠ l := fun a m => by
      obtain ⟨u, k⟩ := ol_some o1 a m
      exact ne_of_none k hl
    refine q (.ref l) (l :: fp) F1 _ (z1.trans (Fz.fresh z1.s hl)) (.lst upd_same (ol_mono (Ex.refl _) o1 fun a m => upd_ne (ne a m))) (List.nodup_cons.mpr ⟨fun m => ne l m rfl, nd⟩) fun a m => ?_
    rcases List.mem_cons.mp m with m | m
    · subst m
      exact ⟨z1.h.none hl, z1.s.none hl⟩
    · exact n a m⟩⟩
end

section
variable {K : PySem.W.Frag} {F H : Hp}
/-- a list of data within a list of trees: another one in its place -/
theorem ol_upd : ∀ {os : List Own} {vs : List V} {fp : List Addr} {j : Nat} {ds : List D}, OL K F H os vs fp → fp.Nodup → os[j]? = some (.lst (ds.map .dat)) →
    ∃ p xs, vs[j]? = some (.ref p) ∧ H p = some (.lst xs) ∧ DpAll K F xs ds ∧ p ∈ fp ∧ ∀ F2 H2 ys es, Ex F F2 → (∀ a ∈ fp, H2 a = H a) → DpAll K F2 ys es → OL K F2 (upd H2 p (.lst ys)) (os.set j (.lst (es.map .dat))) vs fp
  | [], _, _, j, ds, _, _, e => by simp at e
  | o :: os, _, _, 0, ds, .cons (f1 := f1) (f2 := f2) x l, nd, e => by
    simp only [List.getElem?_cons_zero, Option.some.injEq] at e
    subst e
    cases x with
    | lst h1 h2 =>
      obtain ⟨h3, h4⟩ := dat_ol h2
      subst h4
      refine ⟨_, _, rfl, h1, h3, List.mem_append_left _ List.mem_cons_self, fun F2 H2 ys es ex hk hd => ?_⟩
      obtain ⟨n1, n2, n3⟩ := List.nodup_append.mp nd
      refine .cons (.lst upd_same (ol_dat hd)) (ol_mono ex l fun a m => ?_)
      rw [upd_ne (fun k => n3 _ List.mem_cons_self _ m k.symm)]
      exact hk a (List.mem_append_right _ m)
  | o :: os, v :: vs, _, j + 1, ds, .cons (f1 := f1) (f2 := f2) x l, nd, e => by
    obtain ⟨n1, n2, n3⟩ := List.nodup_append.mp nd
    obtain ⟨p, xs, k1, k2, k3, k4, k5⟩ := ol_upd l n2 (by simpa using e)
    refine ⟨p, xs, by simpa using k1, k2, k3, List.mem_append_right _ k4, fun F2 H2 ys es ex hk hd => ?_⟩
    refine .cons (oa_mono ex x fun a m => ?_) (k5 F2 H2 ys es ex (fun a m => hk a (List.mem_append_right _ m)) hd)
    rw [upd_ne (fun k => n3 _ m _ k4 k)]
    exact hk a (List.mem_append_left _ m)
theorem ol_get : ∀ {os : List Own} {vs : List V} {fp : List Addr} {j : Nat} {o : Own}, OL K F H os vs fp → os[j]? = some o → ∃ v f, vs[j]? = some v ∧ OA K F H o v f ∧ ∀ a ∈ f, a ∈ fp
  | [], _, _, j, o, _, e => by simp at e
  | o :: os, _, _, 0, o', .cons x l, e => by
    simp only [List.getElem?_cons_zero, Option.some.injEq] at e
    subst e
    exact ⟨_, _, rfl, x, fun a m => List.mem_append_left _ m⟩
  | o :: os, v :: vs, _, j + 1, o', .cons x l, e => by
    obtain ⟨v', f, k1, k2, k3⟩ := ol_get l (by simpa using e)
    exact ⟨v', f, by simpa using k1, k2, fun a m => List.mem_append_right _ (k3 a m)⟩
end

/-! a tree of lists as data -/
mutual
def Own.toD : Own → Option D
  | .dat d => some d
  | .lst os => (Own.toDs os).map .list
  | _ => none
def Own.toDs : List Own → Option (List D)
  | [] => some []
  | o :: os => match Own.toD o, Own.toDs os with
    | some d, some ds => some (d :: ds)
    | _, _ => none
end
theorem toDs_dat : ∀ ds : List D, Own.toDs (ds.map .dat) = some ds
  | [] => by simp [Own.toDs]
  | d :: ds => by simp [Own.toDs, Own.toD, toDs_dat ds]
section
variable {K : PySem.W.Frag} {H : Hp}
mutual
/-- frozen: F' where the objects stand too -/
theorem oa_frz {F : Hp} : ∀ {o : Own} {v : V} {fp : List Addr} {d : D}, OA K F H o v fp → o.toD = some d → ∀ F', Ex F F' → (∀ a ∈ fp, F' a = H a) → Dp K F' v d
  | .dat _, _, _, d, .dat h, e, F', ex, _ => by
    simp only [Own.toD, Option.some.injEq] at e
    subst e
    exact dp_ex ex _ _ h
  | .lst os, _, _, d, .lst h l, e, F', ex, hk => by
    simp only [Own.toD, Option.map_eq_some_iff] at e
    obtain ⟨ds, e1, e2⟩ := e
    subst e2
    exact .lst (SqL.of ((hk _ List.mem_cons_self).trans h)) (ol_frz l e1 F' ex fun a m => hk a (List.mem_cons_of_mem _ m))
  | .dk _, _, _, d, _, e, _, _, _ => by simp [Own.toD] at e
  | .dt _, _, _, d, _, e, _, _, _ => by simp [Own.toD] at e
  | .fz _, _, _, d, _, e, _, _, _ => by simp [Own.toD] at e
theorem ol_frz {F : Hp} : ∀ {os : List Own} {vs : List V} {fp : List Addr} {ds : List D}, OL K F H os vs fp → Own.toDs os = some ds → ∀ F', Ex F F' → (∀ a ∈ fp, F' a = H a) → DpAll K F' vs ds
  | [], _, _, ds, .nil, e, _, _, _ => by
    simp only [Own.toDs, Option.some.injEq] at e
    subst e
    exact .nil
  | o :: os, _, _, ds, .cons x l, e, F', ex, hk => by
    simp only [Own.toDs] at e
    cases h1 : o.toD with
    | none => rw [h1] at e; cases e
    | some d =>
      cases h2 : Own.toDs os with
      | none => rw [h1, h2] at e; cases e
      | some ds' =>
        rw [h1, h2] at e
        cases e
        exact .cons (oa_frz x h1 F' ex fun a m => hk a (List.mem_append_left _ m)) (ol_frz l h2 F' ex fun a m => hk a (List.mem_append_right _ m))
end
/-- F with what stands at fp -/
def addF (F H : Hp) (fp : List Addr) : Hp := fun a => if a ∈ fp then H a else F a
theorem addF_in {F : Hp} {fp : List Addr} {a : Addr} (h : a ∈ fp) : addF F H fp a = H a := if_pos h
theorem addF_out {F : Hp} {fp : List Addr} {a : Addr} (h : a ∉ fp) : addF F H fp a = F a := if_neg h
theorem addF_ex {F : Hp} {fp : List Addr} (hf : ∀ a ∈ fp, F a = none) : Ex F (addF F H fp) := fun a u e => by
  by_cases m : a ∈ fp
  · rw [hf a m] at e; cases e
  · rw [addF_out m]; exact e
theorem addF_s {F : Hp} {fp : List Addr} (s : Ex F H) : Ex (addF F H fp) H := fun a u e => by
  by_cases m : a ∈ fp
  · rw [addF_in m] at e; exact e
  · rw [addF_out m] at e; exact s a u e
end
section
variable {K : PySem.W.Frag} {F0 H0 F H : Hp} {σ : L2.St} {Γ : List S}
theorem set_self {σ : L2.St} {i : Nat} {v : V} (h : σ[i]? = some (some v)) : σ.set i (some v) = σ := by
  apply List.ext_getElem?
  intro k
  by_cases hk : i = k
  · subst hk
    rw [List.getElem?_set_self (List.getElem?_eq_some_iff.mp h).1, h]
  · rw [List.getElem?_set_ne hk]
/-- the tree at slot i is frozen -/
theorem Ok.frzT (h : Ok K F0 H0 F σ H Γ) {i : Nat} {t : Own} (e : Γ[i]? = some (.q t)) : ∃ F', Ex F F' ∧ (∀ d, t.toD = some d → Ok K F0 H0 F' σ H (Γ.set i (.d d))) ∧ Ok K F0 H0 F' σ H (Γ.set i (.q (.fz t))) := by
  obtain ⟨fps, hF⟩ := h
  obtain ⟨fp, ef⟩ := hF.fp e
  have q := hF.sl i _ _ e ef
  cases ho : σ[i]? with
  | none => rw [ho] at q; exact q.elim
  | some o' =>
    cases o' with
    | none => rw [ho] at q; exact q.elim
    | some v =>
      rw [ho] at q
      obtain ⟨q1, q2, q3⟩ := q
      have ex : Ex F (addF F H fp) := addF_ex fun a m => (q3 a m).1
      have go : ∀ s' : S, SlOk K H0 (addF F H fp) H (some (some v)) s' [] → Ok K F0 H0 (addF F H fp) σ H (Γ.set i s') := fun s' hs' => by
        have := Ok.rewrite (F' := addF F H fp) (H' := H) (s' := s') (o := some v) (fp' := []) ⟨fps, hF⟩ hF e ef ex (fun a u _ k => k) (fun a u m k1 k2 _ => (addF_out m).trans k1) (addF_s hF.base.s) hs' (fun a m => by cases m)
        rw [set_self ho] at this
        exact this
      exact ⟨addF F H fp, ex, fun d hd => go _ ⟨oa_frz q1 hd _ ex fun a m => addF_in m, rfl⟩, go _ ⟨.fz (oa_mono ex q1 fun a m => addF_in m), List.nodup_nil, fun a m => by cases m⟩⟩
end
section
variable {X : Cx} {W : WX} {F0 H0 : Hp} {Γ : List S} {a b e : Expr} {x : D} {ds : List D} {sts : List Stmt} {so : SO} {pos : Pos} {t : Own}
/-- a tree of lists becomes data; a tree is frozen -/
theorem jss_frzD (i : Nat) {d : D} (g : Γ[i]? = some (.q t)) (hd : t.toD = some d) (h : JSs X W F0 H0 (Γ.set i (.d d)) sts so) : JSs X W F0 H0 Γ sts so := pss_imp h fun D' σ H ⟨F, ok, q⟩ => by
  obtain ⟨F', e, ok', _⟩ := ok.frzT g
  exact ⟨F', ok' d hd, pso_mono e q⟩
theorem jss_fz (i : Nat) (g : Γ[i]? = some (.q t)) (h : JSs X W F0 H0 (Γ.set i (.q (.fz t))) sts so) : JSs X W F0 H0 Γ sts so := pss_imp h fun D' σ H ⟨F, ok, q⟩ => by
  obtain ⟨F', e, _, ok'⟩ := ok.frzT g
  exact ⟨F', ok', pso_mono e q⟩
/-- a list of one's own as a tree -/
theorem jss_own2q (i : Nat) (g : Γ[i]? = some (.own ds)) (h : JSs X W F0 H0 (Γ.set i (.q (.lst (ds.map .dat)))) sts so) : JSs X W F0 H0 Γ sts so := pss_imp h fun D' σ H ⟨F, ok, q⟩ => by
  obtain ⟨p, xs, g1, g2, g3, g4, g5⟩ := ok.own g
  obtain ⟨fps, hF⟩ := ok
  obtain ⟨fp, ef⟩ := hF.fp g
  have q0 := hF.sl i _ _ g ef
  rw [g1] at q0
  obtain ⟨p', xs', e1, e2, _, _, _, e6⟩ := q0
  cases e1
  subst e6
  have := Ok.rewrite (F' := F) (H' := H) (s' := .q (.lst (ds.map .dat))) (o := some (.ref p)) (fp' := [p]) ⟨fps, hF⟩ hF g ef (Ex.refl _) (fun a u _ k => k) (fun a u _ k _ _ => k) hF.base.s ⟨.lst g2 (ol_dat g5), List.nodup_cons.mpr ⟨by simp, List.nodup_nil⟩, fun a m => by
    rw [List.mem_singleton] at m
    subst m
    exact ⟨g3, g4⟩⟩ (fun a m => .inl m)
  rw [set_self g1] at this
  exact ⟨F, this, q⟩
theorem jss_q2own (i : Nat) (g : Γ[i]? = some (.q (.lst (ds.map .dat)))) (h : JSs X W F0 H0 (Γ.set i (.own ds)) sts so) : JSs X W F0 H0 Γ sts so := pss_imp h fun D' σ H ⟨F, ok, q⟩ => by
  obtain ⟨fps, hF⟩ := ok
  obtain ⟨fp, ef⟩ := hF.fp g
  have q0 := hF.sl i _ _ g ef
  cases ho : σ[i]? with
  | none => rw [ho] at q0; exact q0.elim
  | some o' =>
    cases o' with
    | none => rw [ho] at q0; exact q0.elim
    | some v =>
      rw [ho] at q0
      obtain ⟨q1, q2, q3⟩ := q0
      cases q1 with
      | @lst _ p _ _ _ k1 k2 =>
        obtain ⟨k3, k4⟩ := dat_ol k2
        subst k4
        have := Ok.rewrite (F' := F) (H' := H) (s' := .own ds) (o := some (.ref p)) (fp' := [p]) ⟨fps, hF⟩ hF g ef (Ex.refl _) (fun a u _ k => k) (fun a u _ k _ _ => k) hF.base.s ⟨_, _, rfl, k1, (q3 _ List.mem_cons_self).1, (q3 _ List.mem_cons_self).2, k3, rfl⟩ (fun a m => .inl m)
        rw [set_self ho] at this
        exact ⟨F, this, q⟩
/-- xs[b].append(e), xs a list of lists -/
theorem js_appQ (i : Nat) {n : Str} {np apos sp : Pos} {os : List Own} {k : Int} {j : Nat} (g : Γ[i]? = some (.q (.lst os))) (hj : ixN os.length k = some j) (ho : os[j]? = some (.lst (ds.map .dat))) (hl : ds.length < 100000) (hb : JE X WF F0 H0 Γ b (.v (.int k))) (he : JE X W F0 H0 Γ e (.v x)) (hN : X.N[i]? = some n := by rfl) (hv : Vis X.env.scope n := by first | exact Or.inl rfl | exact Or.inr (Or.inl rfl) | exact Or.inr (Or.inr rfl)) (hd : (n == ("__debug__" : Str)) = false := by decide) (hcd : (n == ("__classdict__" : Str)) = false := by decide)
    {cpos : Pos} (hs0 : PlainIx b := by exact fun _ _ => rfl) (h1 : attributeBase (.Subscript (.Name n np) b sp) "append" X.env (eval (.Subscript (.Name n np) b sp) X.env) = eval (.Subscript (.Name n np) b sp) X.env := by rfl)
    (h2 : ((backTo cpos (starEach [e] X.env)).all (fun x => !x.1) && (backToKw cpos (keywordEach [] X.env)).all (fun x => x.1.isSome) && decide ([e].length + ([] : List Keyword).length + (if ([] : List Keyword).isEmpty then 0 else 1) < 30)) = true := by rfl)
    (h3 : (apos.endLine == cpos.line) = true := by rfl) (h4 : starEach [e] X.env = (false, eval e X.env) :: starEach [] X.env := by rfl) (h5 : (backTo cpos (starEach [] X.env)).any (·.1) = false := by rfl)
    (hs : swapsWith (.Call (.Attribute (.Subscript (.Name n np) b sp) "append" apos) [e] [] cpos) none pos.line X.env = pure false := by rfl) : JS X W F0 H0 Γ (.Expr (.Call (.Attribute (.Subscript (.Name n np) b sp) "append" apos) [e] [] cpos) pos) (.nx (Γ.set i (.q (.lst (os.set j (.lst ((ds ++ [x]).map .dat))))))) :=
  ps_imp (ps_expr (pe_bm PySem.F.plainAttrs_list PySem.F.slot_list_append PySem.F.type_list_append mt_append (pe_ix ix_list (pe_var hN hv hd hcd) hb hs0) (pa_cons he pa_nil h4) h1 h2 h3 h4 h5) hs) fun D' σ H ⟨F, ok, q⟩ => by
    obtain ⟨v, fp, e1, e2, e3, e4⟩ := ok.tree g
    refine ⟨_, e1, F, ok, fun u F1 H1 z1 d1 => ?_⟩
    cases d1
    cases e2 with
    | @lst _ p xs _ fp k1 k2 =>
      have nd := (List.nodup_cons.mp e3)
      obtain ⟨p1, ys, w1, w2, w3, w4, w5⟩ := ol_upd k2 nd.2 ho
      have hat : atI xs k = some (.ref p1) := by
        unfold atI
        rw [ol_len k2, hj]
        exact w1
      refine ⟨_, _, _, _, rfl, rfl, SqL.of (z1.h _ _ k1), hat, .inl ⟨rfl, _, SqL.of (z1.h _ _ w2)⟩, F1, ok.mono z1, fun v F2 H2 z2 d2 => ?_⟩
      have zz := z1.trans z2
      refine ⟨p1, ys, v, rfl, rfl, zz.h _ _ w2, by rw [da_len w3]; exact Nat.lt_of_lt_of_le hl (by decide), ?_⟩
      have ok2 := ok.mono zz
      obtain ⟨fps, hF⟩ := ok2
      obtain ⟨fp2, ef⟩ := hF.fp g
      have q0 := hF.sl i _ _ g ef
      rw [e1] at q0
      obtain ⟨q1, q2, q3⟩ := q0
      cases q1 with
      | @lst _ p' xs' _ fp' m1 m2 =>
        rw [zz.h _ _ k1] at m1
        cases m1
        have nd2 := (List.nodup_cons.mp q2)
        obtain ⟨p2, ys2, v1, v2, v3, v4, v5⟩ := ol_upd m2 nd2.2 ho
        rw [w1] at v1
        cases v1
        rw [zz.h _ _ w2] at v2
        cases v2
        have hne : p ≠ p1 := fun k => nd2.1 (k ▸ v4)
        refine q σ F2 _ zz.f ?_
        have := Ok.rewrite (F' := F2) (H' := upd H2 p1 (.lst (ys ++ [v]))) (s' := .q (.lst (os.set j (.lst ((ds ++ [x]).map .dat))))) (o := some (.ref p)) (fp' := p :: fp') ⟨fps, hF⟩ hF g ef (Ex.refl _) (fun a u m k => by
            rw [upd_ne (fun z => m (by rw [z]; exact List.mem_cons_of_mem _ v4))]
            exact k) (fun a u _ k _ _ => k) (fun a u k => by
            rw [upd_ne (ne_of_none k (q3 p1 (List.mem_cons_of_mem _ v4)).1)]
            exact hF.base.s a u k) ⟨.lst ((upd_ne hne).trans (zz.h _ _ k1)) (v5 F2 H2 _ _ (Ex.refl _) (fun _ _ => rfl) (da_app v3 (.cons d2 .nil))), q2, q3⟩ (fun a m => .inl m)
        rw [set_self e1] at this
        exact this
end
end TB

namespace TB
open PySem L2 PySem.Spec PyProof.Rows
/-! ### comprehensions by the kind of their elements -/
section
variable {X : Cx} {W : WX} {F0 H0 : Hp} {Γ : List S} {elt tg it c : Expr} {ifs : List Expr} {pos : Pos} {scope : Scope} {α β : Type} {xs : List α} {enc : α → D} {enc2 : β → D} {g : α → β} {p : α → Bool} {own : List (Str × Nat)}
theorem je_lcE (enc2 : β → D) (t : Tgt) (hc : X.calm = true) (hN : X.N.Nodup) (hi : JI X F0 H0 Γ tg it (xs.map enc)) (ok : BlkOk X.N X.env.scope scope own) (hl : xs.length < 100000) (hf : ∀ a ∈ xs, t.fits (enc a))
    (hg : ∀ (s : Shared) (H : Hp) (C : Addr) (cl : List (Str × Addr)) (fp : List Addr), PG (Bk X s H scope C cl fp) tg (t.g X.K))
    (ht : ∀ a, a ∈ xs → ∀ (s : Shared) (H : Hp) (C : Addr) (cl : List (Str × Addr)) (fp : List Addr), JTs (Bk X s H scope C cl fp) F0 H0 (t.put (enc a) (wipeG Γ t.vs)) ifs (p a))
    (he : ∀ a, a ∈ xs → p a = true → ∀ (s : Shared) (H : Hp) (C : Addr) (cl : List (Str × Addr)) (fp : List Addr), JE (Bk X s H scope C cl fp) WF F0 H0 (t.put (enc a) (wipeG Γ t.vs)) elt (.v (enc2 (g a))))
    (ho : own.map (·.2) = t.vs := by rfl) (hs : ∀ x, foldedSetIterable it X.env x = pure x := by intro _; rfl) :
    JE X W F0 H0 Γ (.ListComp elt [⟨tg, it, ifs, 0⟩] scope pos) (.o (((xs.filter p).map g).map enc2)) := by
  rw [List.map_map]
  exact je_lcA t hc hN hi ok hl hf hg ht he ho hs
theorem je_lcE0 (enc2 : β → D) (t : Tgt) (hc : X.calm = true) (hN : X.N.Nodup) (hi : JI X F0 H0 Γ tg it (xs.map enc)) (ok : BlkOk X.N X.env.scope scope own) (hl : xs.length < 100000) (hf : ∀ a ∈ xs, t.fits (enc a))
    (hg : ∀ (s : Shared) (H : Hp) (C : Addr) (cl : List (Str × Addr)) (fp : List Addr), PG (Bk X s H scope C cl fp) tg (t.g X.K))
    (he : ∀ a, a ∈ xs → ∀ (s : Shared) (H : Hp) (C : Addr) (cl : List (Str × Addr)) (fp : List Addr), JE (Bk X s H scope C cl fp) WF F0 H0 (t.put (enc a) (wipeG Γ t.vs)) elt (.v (enc2 (g a))))
    (ho : own.map (·.2) = t.vs := by rfl) (hs : ∀ x, foldedSetIterable it X.env x = pure x := by intro _; rfl) :
    JE X W F0 H0 Γ (.ListComp elt [⟨tg, it, [], 0⟩] scope pos) (.o ((xs.map g).map enc2)) := by
  rw [List.map_map]
  exact je_lcA0 t hc hN hi ok hl hf hg he ho hs
theorem js_setLcE (enc2 : β → D) (j : Nat) {y : Str} {py2 spos : Pos} (t : Tgt) (hc : X.calm = true) (hN : X.N.Nodup) (hi : JI X F0 H0 Γ tg it (xs.map enc)) (ok : BlkOk X.N X.env.scope scope own) (hl : xs.length < 100000) (hf : ∀ a ∈ xs, t.fits (enc a))
    (hsw : swapsWith (.ListComp elt [⟨tg, it, ifs, 0⟩] scope pos) (some (.Name y py2)) spos.line X.env = pure true)
    (hg : ∀ (s : Shared) (H : Hp) (C : Addr) (cl : List (Str × Addr)) (fp : List Addr), PG (Bk X s H scope C cl fp) tg (t.g X.K))
    (ht : ∀ a, a ∈ xs → ∀ (s : Shared) (H : Hp) (C : Addr) (cl : List (Str × Addr)) (fp : List Addr), JTs (Bk X s H scope C cl fp) F0 H0 (t.put (enc a) (wipeG Γ t.vs)) ifs (p a))
    (he : ∀ a, a ∈ xs → p a = true → ∀ (s : Shared) (H : Hp) (C : Addr) (cl : List (Str × Addr)) (fp : List Addr), JE (Bk X s H scope C cl fp) WF F0 H0 (t.put (enc a) (wipeG Γ t.vs)) elt (.v (enc2 (g a))))
    (ho : own.map (·.2) = t.vs := by rfl) (hy : X.N[j]? = some y := by rfl) (hyl : X.env.scope.names.lookup y = some .local := by rfl) (hs : ∀ x, foldedSetIterable it X.env x = pure x := by intro _; rfl) :
    JS X W F0 H0 Γ (.Assign [.Name y py2] (.ListComp elt [⟨tg, it, ifs, 0⟩] scope pos) spos) (.nx (Γ.set j (.own (((xs.filter p).map g).map enc2)))) := by
  rw [List.map_map]
  exact js_setLcA j t hc hN hi ok hl hf hsw hg ht he ho hy hyl hs
theorem js_setLcE0 (enc2 : β → D) (j : Nat) {y : Str} {py2 spos : Pos} (t : Tgt) (hc : X.calm = true) (hN : X.N.Nodup) (hi : JI X F0 H0 Γ tg it (xs.map enc)) (ok : BlkOk X.N X.env.scope scope own) (hl : xs.length < 100000) (hf : ∀ a ∈ xs, t.fits (enc a))
    (hsw : swapsWith (.ListComp elt [⟨tg, it, [], 0⟩] scope pos) (some (.Name y py2)) spos.line X.env = pure true)
    (hg : ∀ (s : Shared) (H : Hp) (C : Addr) (cl : List (Str × Addr)) (fp : List Addr), PG (Bk X s H scope C cl fp) tg (t.g X.K))
    (he : ∀ a, a ∈ xs → ∀ (s : Shared) (H : Hp) (C : Addr) (cl : List (Str × Addr)) (fp : List Addr), JE (Bk X s H scope C cl fp) WF F0 H0 (t.put (enc a) (wipeG Γ t.vs)) elt (.v (enc2 (g a))))
    (ho : own.map (·.2) = t.vs := by rfl) (hy : X.N[j]? = some y := by rfl) (hyl : X.env.scope.names.lookup y = some .local := by rfl) (hs : ∀ x, foldedSetIterable it X.env x = pure x := by intro _; rfl) :
    JS X W F0 H0 Γ (.Assign [.Name y py2] (.ListComp elt [⟨tg, it, [], 0⟩] scope pos) spos) (.nx (Γ.set j (.own ((xs.map g).map enc2)))) := by
  rw [List.map_map]
  exact js_setLcA0 j t hc hN hi ok hl hf hsw hg he ho hy hyl hs
end
section
variable {X : Cx} {W : WX} {F0 H0 : Hp} {Γ Γ1 Γ2 : List S} {st : Stmt} {rest sts : List Stmt} {so : SO} {ds : List D}
/-- the slots told anew behind a statement -/
theorem jss_consN (h1 : JS X W F0 H0 Γ st (.nx Γ1)) (e : Γ1 = Γ2) (h2 : JSs X W F0 H0 Γ2 rest so) : JSs X W F0 H0 Γ (st :: rest) so := jss_cons (e ▸ h1) h2
theorem jss_frzN (i : Nat) (g : Γ[i]? = some (.own ds)) (e : Γ.set i (.d (.list ds)) = Γ2) (h : JSs X W F0 H0 Γ2 sts so) : JSs X W F0 H0 Γ sts so := jss_frz i g (e ▸ h)
theorem jss_norm (e : Γ = Γ2) (h : JSs X W F0 H0 Γ2 sts so) : JSs X W F0 H0 Γ sts so := e ▸ h
end
/-! ### bounds by search -/
theorem bt_nat {n : Nat} (h : Nat.blt n (2 ^ 64) = true) : Bt 64 (@OfNat.ofNat Int n instOfNat) := by
  show (Int.natAbs (Int.ofNat n)) < 2 ^ 64
  exact Nat.le_of_ble_eq_true h
theorem bt_div {m : Nat} {x k : Int} (h : Bt m x) (hk : 0 < k) : Bt m (x / k) := by
  unfold Bt at *
  refine Nat.lt_of_le_of_lt ?_ h
  rcases Int.lt_or_le x 0 with q | q
  · have h1 : x / k < 0 := Int.ediv_neg_of_neg_of_pos q hk
    have h2 : x ≤ x / k := by
      rw [Int.le_ediv_iff_mul_le hk]
      have := Int.mul_le_mul_of_nonpos_left (show x ≤ 0 by omega) (show (1 : Int) ≤ k by omega)
      omega
    omega
  · have h1 : 0 ≤ x / k := Int.ediv_nonneg q (by omega)
    have h2 := Int.ediv_le_self k q
    omega
example (a b c d : Int) (ha : Bt 43 a) (hb : Bt 43 b) (hc : Bt 43 c) (hd : Bt 43 d) : CMulW (a * b - c * d) (2 * (a + 1) - -b) :=
  cm (by solve_by_elim (maxDepth := 30) [Bt.mul, Bt.sub, Bt.add, Bt.neg, bt_nat]) (by solve_by_elim (maxDepth := 30) [Bt.mul, Bt.sub, Bt.add, Bt.neg, bt_nat])
/-! ### loops over folds -/
section
variable {X : Cx} {W : WX} {F0 H0 : Hp} {Γ Γ' Γ1 : List S} {e tg it : Expr} {pos : Pos} {body : List Stmt} {so : SO} {α β : Type}
theorem foldl_take_succ {step : β → α → β} {b : β} {xs : List α} {k : Nat} {a : α} (h : xs[k]? = some a) : (xs.take (k + 1)).foldl step b = step ((xs.take k).foldl step b) a := by
  rw [List.take_succ, h, List.foldl_append]
  rfl
/-- for a in xs: the state b goes to step b a; what is true of the k-th state -/
theorem js_forFold {T : List S → D → List S → Prop} {xs : List α} {enc : α → D} (G : β → List S) (Gt : β → α → List S) (step : β → α → β) (b0 : β) (inv : Nat → β → Prop) (hp : PassesOwn (model X.prog X.w) X.A X.env X.xe) (hc : X.calm = true) (hi : JI X F0 H0 Γ tg it (xs.map enc)) (hg : JG X F0 H0 tg T) (h0 : Le Γ (G b0)) (hi0 : inv 0 b0)
    (ht : ∀ b a, T (G b) (enc a) (Gt b a)) (hb : ∀ k b a, xs[k]? = some a → inv k b → (∃ so, JSs X W F0 H0 (Gt b a) body so ∧ Turns (G (step b a)) so) ∧ inv (k + 1) (step b a)) (hs : ∀ x, foldedSetIterable it X.env x = pure x := by intro _; rfl) :
    JS X W F0 H0 Γ (.For tg it body [] pos) (.nx (G (xs.foldl step b0))) ∧ inv xs.length (xs.foldl step b0) := by
  have hinv : ∀ k, k ≤ xs.length → inv k ((xs.take k).foldl step b0) := fun k => by
    induction k with
    | zero => intro _; rw [List.take_zero]; exact hi0
    | succ k ih =>
      intro hk
      have e : xs[k]? = some xs[k] := List.getElem?_eq_getElem hk
      rw [foldl_take_succ e]
      exact (hb k _ _ e (ih (by omega))).2
  have hfull : (xs.take xs.length).foldl step b0 = xs.foldl step b0 := by rw [List.take_length]
  refine ⟨?_, by have := hinv xs.length (Nat.le_refl _); rwa [hfull] at this⟩
  have := js_for (W := W) (pos := pos) (so := .nx (G (xs.foldl step b0))) (ds := xs.map enc) (fun k => G ((xs.take k).foldl step b0)) (fun k => match xs[k]? with | some a => Gt ((xs.take k).foldl step b0) a | none => []) (xs.map enc).length hp hc hi hg (by simpa using h0) (Nat.le_refl _)
    (fun k d ed _ => by
      rw [List.getElem?_map] at ed
      cases q : xs[k]? with
      | none => rw [q] at ed; cases ed
      | some a =>
        rw [q] at ed
        cases ed
        exact ht _ _) (fun k d ed _ => by
      rw [List.getElem?_map] at ed
      cases q : xs[k]? with
      | none => rw [q] at ed; cases ed
      | some a =>
        have hk := (List.getElem?_eq_some_iff.mp q).1
        show ∃ so, JSs X W F0 H0 (Gt ((xs.take k).foldl step b0) a) body so ∧ Turns (G ((xs.take (k + 1)).foldl step b0)) so
        rw [foldl_take_succ q]
        exact (hb k _ a q (hinv k (by omega))).1) (fun h => absurd h (Nat.lt_irrefl _)) (fun _ => by
      show SO.nx (G (xs.foldl step b0)) = SO.nx (G ((xs.take (xs.map enc).length).foldl step b0))
      rw [List.length_map, List.take_length]) hs
  exact this
end
end TB

namespace TB
open PySem L2 PySem.Spec PyProof.Rows
/-! ### the law's own turns -/
theorem ti4 {a b c d a' b' c' d' : Int} (h1 : a = a') (h2 : b = b') (h3 : c = c') (h4 : d = d') : Out.v (ti [a, b, c, d]) = Out.v (ti [a', b', c', d']) := by rw [h1, h2, h3, h4]
/-- the point on the axis k -/
def ptL (k : Nat) : List Int := (List.range 4).map fun j : Nat => 4 * (if decide (0 + (j : Int) = 0 + (k : Int) + 1) = true then 1 else 0)
theorem ptL_0 : ptL 0 = [0, 4, 0, 0] := by decide
theorem ptL_1 : ptL 1 = [0, 0, 4, 0] := by decide
theorem ptL_2 : ptL 2 = [0, 0, 0, 4] := by decide
theorem half2 {x y : Int} (h : x = 2 * y) : x / 2 = y := by omega
/-- the law's products lead the axes to the columns of the turn -/
theorem far_cols (a b c d : Int) : mulL (mulL [a, b, c, d] (ptL 0)) (conjL [a, b, c, d]) = [0, a * a + b * b - c * c - d * d, 2 * (b * c + a * d), 2 * (b * d - a * c)] ∧
    mulL (mulL [a, b, c, d] (ptL 1)) (conjL [a, b, c, d]) = [0, 2 * (b * c - a * d), a * a - b * b + c * c - d * d, 2 * (c * d + a * b)] ∧
    mulL (mulL [a, b, c, d] (ptL 2)) (conjL [a, b, c, d]) = [0, 2 * (b * d + a * c), 2 * (c * d - a * b), a * a - b * b - c * c + d * d] := by
  rw [ptL_0, ptL_1, ptL_2]
  have h0 : mulL [a, b, c, d] [0, 4, 0, 0] = [-(2 * b), 2 * a, 2 * d, -(2 * c)] := by
    show [_, _, _, _] = [_, _, _, _]
    rw [half2 (show a * 0 - b * 4 - c * 0 - d * 0 = 2 * -(2 * b) by omega), half2 (show a * 4 + b * 0 + c * 0 - d * 0 = 2 * (2 * a) by omega), half2 (show a * 0 - b * 0 + c * 0 + d * 4 = 2 * (2 * d) by omega), half2 (show a * 0 + b * 0 - c * 4 + d * 0 = 2 * -(2 * c) by omega)]
  have h1 : mulL [a, b, c, d] [0, 0, 4, 0] = [-(2 * c), -(2 * d), 2 * a, 2 * b] := by
    show [_, _, _, _] = [_, _, _, _]
    rw [half2 (show a * 0 - b * 0 - c * 4 - d * 0 = 2 * -(2 * c) by omega), half2 (show a * 0 + b * 0 + c * 0 - d * 4 = 2 * -(2 * d) by omega), half2 (show a * 4 - b * 0 + c * 0 + d * 0 = 2 * (2 * a) by omega), half2 (show a * 0 + b * 4 - c * 0 + d * 0 = 2 * (2 * b) by omega)]
  have h2 : mulL [a, b, c, d] [0, 0, 0, 4] = [-(2 * d), 2 * c, -(2 * b), 2 * a] := by
    show [_, _, _, _] = [_, _, _, _]
    rw [half2 (show a * 0 - b * 0 - c * 0 - d * 4 = 2 * -(2 * d) by omega), half2 (show a * 0 + b * 0 + c * 4 - d * 0 = 2 * (2 * c) by omega), half2 (show a * 0 - b * 4 + c * 0 + d * 0 = 2 * -(2 * b) by omega), half2 (show a * 4 + b * 0 - c * 0 + d * 0 = 2 * (2 * a) by omega)]
  rw [h0, h1, h2]
  refine ⟨?_, ?_, ?_⟩
  · show [_, _, _, _] = [_, _, _, _]
    rw [half2 (show -(2 * b) * a - 2 * a * -b - 2 * d * -c - -(2 * c) * -d = 2 * 0 by grind), half2 (show -(2 * b) * -b + 2 * a * a + 2 * d * -d - -(2 * c) * -c = 2 * (a * a + b * b - c * c - d * d) by grind), half2 (show -(2 * b) * -c - 2 * a * -d + 2 * d * a + -(2 * c) * -b = 2 * (2 * (b * c + a * d)) by grind), half2 (show -(2 * b) * -d + 2 * a * -c - 2 * d * -b + -(2 * c) * a = 2 * (2 * (b * d - a * c)) by grind)]
  · show [_, _, _, _] = [_, _, _, _]
    rw [half2 (show -(2 * c) * a - -(2 * d) * -b - 2 * a * -c - 2 * b * -d = 2 * 0 by grind), half2 (show -(2 * c) * -b + -(2 * d) * a + 2 * a * -d - 2 * b * -c = 2 * (2 * (b * c - a * d)) by grind), half2 (show -(2 * c) * -c - -(2 * d) * -d + 2 * a * a + 2 * b * -b = 2 * (a * a - b * b + c * c - d * d) by grind), half2 (show -(2 * c) * -d + -(2 * d) * -c - 2 * a * -b + 2 * b * a = 2 * (2 * (c * d + a * b)) by grind)]
  · show [_, _, _, _] = [_, _, _, _]
    rw [half2 (show -(2 * d) * a - 2 * c * -b - -(2 * b) * -c - 2 * a * -d = 2 * 0 by grind), half2 (show -(2 * d) * -b + 2 * c * a + -(2 * b) * -d - 2 * a * -c = 2 * (2 * (b * d + a * c)) by grind), half2 (show -(2 * d) * -c - 2 * c * -d + -(2 * b) * a + 2 * a * -b = 2 * (2 * (c * d - a * b)) by grind), half2 (show -(2 * d) * -d + 2 * c * -c - -(2 * b) * -b + 2 * a * a = 2 * (a * a - b * b - c * c + d * d) by grind)]
theorem far_at {x : List Int} (hx : x.length = 4) {k j : Nat} (hk : k < 3) (hj : j < 3) : (mulL (mulL x (ptL k)) (conjL x)).getD (j + 1) 0 = ((rowsT x).getD j []).getD k 0 := by
  obtain ⟨a, b, c, d, rfl⟩ := four hx
  obtain ⟨h0, h1, h2⟩ := far_cols a b c d
  match k, hk with
  | 0, _ => rw [h0]; match j, hj with | 0, _ => rfl | 1, _ => rfl | 2, _ => rfl
  | 1, _ => rw [h1]; match j, hj with | 0, _ => rfl | 1, _ => rfl | 2, _ => rfl
  | 2, _ => rw [h2]; match j, hj with | 0, _ => rfl | 1, _ => rfl | 2, _ => rfl
/-- the rows while the law fills them: column k is there in the rows below j -/
def mixQ (x : List Int) (k j : Nat) : List Own := (List.range 3).map fun i => .lst (((((rowsT x).getD i []).take (if i < j then k + 1 else k)).map PyData.int).map .dat)
theorem mix_next (x : List Int) (k : Nat) : mixQ x k 3 = mixQ x (k + 1) 0 := by
  unfold mixQ
  refine List.map_congr_left fun i hi => ?_
  rw [if_pos (List.mem_range.mp hi), if_neg (Nat.not_lt_zero i)]
theorem mix_at (x : List Int) (k : Nat) {j : Nat} (hj : j < 3) : (mixQ x k j)[j]? = some (.lst (((((rowsT x).getD j []).take k).map PyData.int).map .dat)) := by
  unfold mixQ
  rw [List.getElem?_map, List.getElem?_range hj]
  show some (Own.lst (((((rowsT x).getD j []).take (if j < j then k + 1 else k)).map PyData.int).map .dat)) = _
  rw [if_neg (Nat.lt_irrefl j)]
theorem mix_set {x : List Int} (hx : x.length = 4) {k j : Nat} (hk : k < 3) (hj : j < 3) : (mixQ x k j).set j (.lst (((((rowsT x).getD j []).take k).map PyData.int ++ [PyData.int (((rowsT x).getD j []).getD k 0)]).map .dat)) = mixQ x k (j + 1) := by
  obtain ⟨a, b, c, d, rfl⟩ := four hx
  match k, hk with
  | 0, _ => match j, hj with | 0, _ => rfl | 1, _ => rfl | 2, _ => rfl
  | 1, _ => match j, hj with | 0, _ => rfl | 1, _ => rfl | 2, _ => rfl
  | 2, _ => match j, hj with | 0, _ => rfl | 1, _ => rfl | 2, _ => rfl
theorem mix_end {x : List Int} (hx : x.length = 4) : (Own.lst (mixQ x 3 0)).toD = some (.list ((rowsT x).map li)) := by
  obtain ⟨a, b, c, d, rfl⟩ := four hx
  rfl
/-- the law's divisor of all is the size's and the rows' -/
theorem dv_turn {x : List Int} (hx : isNum x = true) (h0 : zeroB x = false) : dvL ([sqS x] ++ (rowsT x).getD 0 [] ++ (rowsT x).getD 1 [] ++ (rowsT x).getD 2 []) = gT (sqS x) (rowsT x) := by
  have hl := num_len hx
  have hs := sq_pos hx h0
  obtain ⟨p1, p2, p3⟩ := gT_ok (rot_len hl).1 hs
  obtain ⟨a, b, c, d, rfl⟩ := four hl
  have e : ∀ z, z ∈ [sqS [a, b, c, d]] ++ (rowsT [a, b, c, d]).getD 0 [] ++ (rowsT [a, b, c, d]).getD 1 [] ++ (rowsT [a, b, c, d]).getD 2 [] ↔ z = sqS [a, b, c, d] ∨ ∃ r ∈ rowsT [a, b, c, d], z ∈ r := fun z => by
    simp only [rowsT, List.getD_cons_zero, List.getD_cons_succ, List.mem_append, List.mem_cons, List.not_mem_nil, or_false, exists_eq_or_imp, exists_eq_left, or_assoc, exists_eq_or_imp, List.append_assoc]
  have hp := dvL_pos ((e _).mpr (.inl rfl)) (by omega)
  refine dvd_antisymm' hp p1 ?_ ?_
  · exact gT_great (rot_len hl).1 (dvL_dvd ((e _).mpr (.inl rfl))) fun r hr z hz => dvL_dvd ((e _).mpr (.inr ⟨r, hr, hz⟩))
  · refine dvL_great fun z hz => ?_
    rcases (e z).mp hz with h | ⟨r, hr, h⟩
    · rw [h]; exact p2
    · exact p3 r hr z h
def R_law_sq : List D → Out → Prop := fun ds o => ∃ x : List Int, ds = [ti x] ∧ x.length ≤ 10 ∧ Sm 400 x ∧ o = .v (.int (sqS x))
def R_law_turn : List D → Out → Prop := fun ds o => ∃ x : List Int, ds = [ti x] ∧ isNum x = true ∧ zeroB x = false ∧ Sm 90 x ∧ o = .v (turnD (turnS x) (turnR x))
end TB

namespace TB
open PySem L2 PySem.Spec PyProof.Rows
/-! ### which tables are turns -/
def dtL (p q : List Int) : Int := ((p.zip q).map fun z => z.1 * z.2).sum
def form3 (rs : List (List Int)) : Bool := decide (rs.length = 3) && rs.all fun r => decide (r.length = 3)
def lowB (s : Int) (rs : List (List Int)) : Bool := decide (lowS s rs = s)
def crossL : List Int → List Int → List Int
  | [a, b, c], [d, e, f] => [b * f - c * e, c * d - a * f, a * e - b * d]
  | _, _ => []
/-- lengths and angles -/
def keepB (s : Int) : List (List Int) → Bool
  | [p, q, r] => decide ([dtL p p, dtL q q, dtL r r] = [s * s, s * s, s * s]) && (!([dtL p q, dtL q r, dtL r p] : List Int).any (· != 0)) && decide (dtL (crossL p q) r = s * (s * s))
  | _ => false
def goodT (s : Int) (rs : List (List Int)) : Bool := decide (0 < s) && form3 rs && lowB s rs && keepB s rs
theorem form3_iff {rs : List (List Int)} : form3 rs = true ↔ rs.length = 3 ∧ ∀ r ∈ rs, r.length = 3 := by
  unfold form3
  rw [Bool.and_eq_true, decide_eq_true_iff, List.all_eq_true]
  simp only [decide_eq_true_iff]
theorem form3_rows {rs : List (List Int)} (h : form3 rs = true) : ∃ a b c d e f g i j, rs = [[a, b, c], [d, e, f], [g, i, j]] := by
  obtain ⟨h1, h2⟩ := form3_iff.mp h
  match rs, h1, h2 with
  | [p, q, r], _, h2 =>
    obtain ⟨a, b, c, rfl⟩ := three (h2 p (by simp))
    obtain ⟨d, e, f, rfl⟩ := three (h2 q (by simp))
    obtain ⟨g, i, j, rfl⟩ := three (h2 r (by simp))
    exact ⟨a, b, c, d, e, f, g, i, j, rfl⟩
theorem dot3 (a b c d e f : Int) : dtL [a, b, c] [d, e, f] = a * d + b * e + c * f := by
  show a * d + (b * e + (c * f + 0)) = _
  omega
/-- the turn of a number is a turn -/
theorem good_turn {x : List Int} (hx : isNum x = true) (h0 : zeroB x = false) : goodT (turnS x) (turnR x) = true := by
  have hs := sq_pos hx h0
  have hr := (rot_len (num_len hx)).1
  obtain ⟨p1, p2, p3⟩ := gT_ok hr hs
  obtain ⟨e1, e2⟩ := low_back hr hs
  have hS : 0 < turnS x := by
    have e1' : sqS x = gT (sqS x) (rowsT x) * turnS x := e1
    rcases Int.lt_or_le 0 (turnS x) with q | q
    · exact q
    · have := Int.mul_nonpos_of_nonneg_of_nonpos (Int.le_of_lt p1) q
      omega
  have hR : (turnR x).length = 3 ∧ ∀ r ∈ turnR x, r.length = 3 := by
    refine ⟨?_, fun r hm => ?_⟩
    · unfold turnR lowR
      rw [List.length_map]
      exact (rot_len (num_len hx)).2
    · unfold turnR lowR at hm
      obtain ⟨q, hq, rfl⟩ := List.mem_map.mp hm
      unfold quoL
      rw [List.length_map]
      exact hr q hq
  have hf : form3 (turnR x) = true := form3_iff.mpr hR
  have hg1 : gT (turnS x) (turnR x) = 1 := by
    have h2 := gT_times (m := gT (sqS x) (rowsT x)) hR.2 hS p1
    have e1' : gT (sqS x) (rowsT x) * turnS x = sqS x := e1.symm
    have e2' : (turnR x).map (timesL (gT (sqS x) (rowsT x))) = rowsT x := e2.symm
    rw [e1', e2'] at h2
    have h3 : gT (sqS x) (rowsT x) * gT (turnS x) (turnR x) = gT (sqS x) (rowsT x) * 1 := by omega
    exact Int.eq_of_mul_eq_mul_left (by omega) h3
  have hlow : lowB (turnS x) (turnR x) = true := by
    unfold lowB lowS
    rw [hg1, Int.ediv_one]
    exact decide_eq_true rfl
  have hk : keepB (turnS x) (turnR x) = true := by
    obtain ⟨g, hg, s1, r1⟩ := parts_of_turn hx h0
    obtain ⟨a', b', c', d', e', f', g', i', j', hrr⟩ := form3_rows hf
    rw [hrr] at r1 ⊢
    generalize turnS x = t at *
    obtain ⟨a, b, c, d, rfl⟩ := four (num_len hx)
    have r1' : [[a * a + b * b - c * c - d * d, 2 * (b * c - a * d), 2 * (b * d + a * c)], [2 * (b * c + a * d), a * a - b * b + c * c - d * d, 2 * (c * d - a * b)], [2 * (b * d - a * c), 2 * (c * d + a * b), a * a - b * b - c * c + d * d]] = [[a' * g, b' * g, c' * g], [d' * g, e' * g, f' * g], [g' * g, i' * g, j' * g]] := r1
    simp only [List.cons.injEq, and_true] at r1'
    obtain ⟨⟨x1, x2, x3⟩, ⟨x4, x5, x6⟩, x7, x8, x9⟩ := r1'
    have s1' : a * a + (b * b + (c * c + (d * d + 0))) = g * t := s1
    have cl : ∀ {u v : Int}, g * g * u = g * g * v → u = v := fun h => Int.eq_of_mul_eq_mul_left (by have := Int.mul_pos hg hg; omega) h
    have cl3 : ∀ {u v : Int}, g * g * g * u = g * g * g * v → u = v := fun h => Int.eq_of_mul_eq_mul_left (by have := Int.mul_pos (Int.mul_pos hg hg) hg; omega) h
    have y1 : g * a' = a * a + b * b - c * c - d * d := by rw [Int.mul_comm]; exact x1.symm
    have y2 : g * b' = 2 * (b * c - a * d) := by rw [Int.mul_comm]; exact x2.symm
    have y3 : g * c' = 2 * (b * d + a * c) := by rw [Int.mul_comm]; exact x3.symm
    have y4 : g * d' = 2 * (b * c + a * d) := by rw [Int.mul_comm]; exact x4.symm
    have y5 : g * e' = a * a - b * b + c * c - d * d := by rw [Int.mul_comm]; exact x5.symm
    have y6 : g * f' = 2 * (c * d - a * b) := by rw [Int.mul_comm]; exact x6.symm
    have y7 : g * g' = 2 * (b * d - a * c) := by rw [Int.mul_comm]; exact x7.symm
    have y8 : g * i' = 2 * (c * d + a * b) := by rw [Int.mul_comm]; exact x8.symm
    have y9 : g * j' = a * a - b * b - c * c + d * d := by rw [Int.mul_comm]; exact x9.symm
    have yt : g * t = a * a + b * b + c * c + d * d := by omega
    clear x1 x2 x3 x4 x5 x6 x7 x8 x9 s1' s1 r1 hrr
    have k2 : ∀ (p q r s u v : Int), g * g * (p * q + r * s + u * v) = (g * p) * (g * q) + (g * r) * (g * s) + (g * u) * (g * v) := fun p q r s u v => by grind
    have kt : g * g * (t * t) = (g * t) * (g * t) := by grind
    show (decide ([dtL [a', b', c'] [a', b', c'], dtL [d', e', f'] [d', e', f'], dtL [g', i', j'] [g', i', j']] = [t * t, t * t, t * t]) && (!([dtL [a', b', c'] [d', e', f'], dtL [d', e', f'] [g', i', j'], dtL [g', i', j'] [a', b', c']] : List Int).any (· != 0)) && decide (dtL (crossL [a', b', c'] [d', e', f']) [g', i', j'] = t * (t * t))) = true
    rw [dot3, dot3, dot3, dot3, dot3, dot3]
    have q1 : a' * a' + b' * b' + c' * c' = t * t := cl (by rw [k2, kt, y1, y2, y3, yt]; grind)
    have q2 : d' * d' + e' * e' + f' * f' = t * t := cl (by rw [k2, kt, y4, y5, y6, yt]; grind)
    have q3 : g' * g' + i' * i' + j' * j' = t * t := cl (by rw [k2, kt, y7, y8, y9, yt]; grind)
    have q4 : a' * d' + b' * e' + c' * f' = 0 := cl (by rw [k2, y1, y2, y3, y4, y5, y6]; grind)
    have q5 : d' * g' + e' * i' + f' * j' = 0 := cl (by rw [k2, y4, y5, y6, y7, y8, y9]; grind)
    have q6 : g' * a' + i' * b' + j' * c' = 0 := cl (by rw [k2, y1, y2, y3, y7, y8, y9]; grind)
    rw [q1, q2, q3, q4, q5, q6]
    have q7 : dtL (crossL [a', b', c'] [d', e', f']) [g', i', j'] = t * (t * t) := by
      show dtL [b' * f' - c' * e', c' * d' - a' * f', a' * e' - b' * d'] [g', i', j'] = _
      rw [dot3]
      -- the first two rows' cross product is the size times the third one
      have m1 : b' * f' - c' * e' = t * g' := cl (by
        have e1 : g * g * (b' * f' - c' * e') = (g * b') * (g * f') - (g * c') * (g * e') := by grind
        have e2 : g * g * (t * g') = (g * t) * (g * g') := by grind
        rw [e1, e2, y2, y3, y5, y6, y7, yt]; grind)
      have m2 : c' * d' - a' * f' = t * i' := cl (by
        have e1 : g * g * (c' * d' - a' * f') = (g * c') * (g * d') - (g * a') * (g * f') := by grind
        have e2 : g * g * (t * i') = (g * t) * (g * i') := by grind
        rw [e1, e2, y1, y3, y4, y6, y8, yt]; grind)
      have m3 : a' * e' - b' * d' = t * j' := cl (by
        have e1 : g * g * (a' * e' - b' * d') = (g * a') * (g * e') - (g * b') * (g * d') := by grind
        have e2 : g * g * (t * j') = (g * t) * (g * j') := by grind
        rw [e1, e2, y1, y2, y4, y5, y9, yt]; grind)
      rw [m1, m2, m3, ← q3]
      grind
    rw [q7, decide_eq_true rfl, decide_eq_true rfl]
    rfl
  unfold goodT
  rw [decide_eq_true hS, hf, hlow, hk]
  rfl
/-- what is handed in as a turn: a row of data; of two, where the first is an integer or a truth value, and the second a row of rows of integers -/
def R_isint : List D → Out → Prop := fun ds o => (∃ z : Int, ds = [.int z] ∧ o = .v (.bool true)) ∨ (∃ b, ds = [.bool b] ∧ o = .v (.bool false))
def R_isrow : List D → Out → Prop := fun ds o => ∃ (d : D) (xs : List Int) (m : Int), ds = [d, .int m] ∧ Seq d xs ∧ xs.length ≤ 100 ∧ o = .v (.bool (decide ((xs.length : Int) = m)))
def R_trow : List D → Out → Prop := fun ds o => ∃ (d e : D) (p q : List Int), ds = [d, e] ∧ Seq d p ∧ Seq e q ∧ p.length ≤ 100 ∧ q.length ≤ 100 ∧ Sm 1500 p ∧ Sm 1500 q ∧ o = .v (.int (dtL p q))
structure TurnA (s : Int) (dr : D) (es : List D) (rs : List (List Int)) : Prop where
  sq : SqD dr es
  sa : SeqAll es rs
  n : rs.length ≤ 10
  l : ∀ r ∈ rs, r.length ≤ 10
  b : ∀ r ∈ rs, ∀ z ∈ r, Bt 400 z
  bs : Bt 400 s
def R_form : List D → Out → Prop := fun ds o => ∃ d es, ds = [d] ∧ SqD d es ∧ ((es.length ≠ 2 ∧ o = .v (.bool false)) ∨ (∃ b dr, es = [.bool b, dr] ∧ o = .v (.bool false)) ∨ ∃ s dr es' rs, es = [.int s, dr] ∧ TurnA s dr es' rs ∧ o = .v (.bool (decide (0 < s) && form3 rs)))
def R_lowT : List D → Out → Prop := fun ds o => ∃ d s dr es' rs, ds = [d] ∧ SqD d [.int s, dr] ∧ TurnA s dr es' rs ∧ 0 < s ∧ form3 rs = true ∧ o = .v (.bool (lowB s rs))
def R_keep : List D → Out → Prop := fun ds o => ∃ d s dr es' rs, ds = [d] ∧ SqD d [.int s, dr] ∧ TurnA s dr es' rs ∧ form3 rs = true ∧ o = .v (.bool (keepB s rs))
def R_chkT (c : Addr) : List D → Out → Prop := fun ds o => ∃ d es, ds = [d] ∧ SqD d es ∧ ((es.length ≠ 2 ∧ o = .x c) ∨ (∃ b dr, es = [.bool b, dr] ∧ o = .x c) ∨ ∃ s dr es' rs, es = [.int s, dr] ∧ TurnA s dr es' rs ∧ o = if goodT s rs = true then .v .none else .x c)
theorem TurnA.rows3 {s : Int} {dr : D} {es : List D} {rs : List (List Int)} (h : TurnA s dr es rs) (f : form3 rs = true) : Rows3 400 rs := ⟨h.n, (form3_iff.mp f).2, h.b⟩
end TB
namespace TB
open PySem L2 PySem.Spec PyProof.Rows
section
variable {X : Cx} {W : WX} {F0 H0 : Hp} {Γ : List S} {a e : Expr} {d : D} {ds : List D} {pos np : Pos}
/-- isinstance(x, (tuple, list)) of a row -/
theorem is_sq {np2 np3 tp2 : Pos} {kk : Nat} (sq : SqD d ds) (hm : X.mg "isinstance" = none) (hm2 : X.mg "tuple" = none) (hm3 : X.mg "list" = none) (ha : JE X W F0 H0 Γ a (.v d)) (hg : Gl X "isinstance" := by rfl) (hg2 : Gl X "tuple" := by rfl) (hg3 : Gl X "list" := by rfl)
    (s2 : starEach [a, .Tuple [.Name "tuple" np2, .Name "list" np3] kk tp2] X.env = (false, eval a X.env) :: starEach [.Tuple [.Name "tuple" np2, .Name "list" np3] kk tp2] X.env := by rfl)
    (s1 : starEach [.Tuple [.Name "tuple" np2, .Name "list" np3] kk tp2] X.env = (false, eval (.Tuple [.Name "tuple" np2, .Name "list" np3] kk tp2) X.env) :: starEach [] X.env := by rfl) (hpl : (backTo pos (starEach [.Tuple [.Name "tuple" np2, .Name "list" np3] kk tp2] X.env)).any (·.1) = false := by rfl)
    (s3 : starEach [.Name "tuple" np2, .Name "list" np3] X.env = (false, eval (.Name "tuple" np2) X.env) :: starEach [.Name "list" np3] X.env := by rfl) (s4 : starEach [.Name "list" np3] X.env = (false, eval (.Name "list" np3) X.env) :: starEach [] X.env := by rfl) :
    JE X W F0 H0 Γ (.Call (.Name "isinstance" np) [a, .Tuple [.Name "tuple" np2, .Name "list" np3] kk tp2] [] pos) (.v (.bool true)) := by
  rcases sq with rfl | rfl
  · exact je_is (je_isDD (T := "tuple") (U := "list") (r := true) (q := false) (by show kitB "tuple" "tuple" = some true; decide +kernel) (by show kitB "tuple" "list" = some false; decide +kernel) hm hm2 hm3 (by decide +kernel) (by decide +kernel) ha hg hg2 hg3 (by decide) (by decide) (by decide) (by decide) s2 s1 hpl s3 s4) rfl
  · exact je_is (je_isDD (T := "tuple") (U := "list") (r := false) (q := true) (by show kitB "list" "tuple" = some false; decide +kernel) (by show kitB "list" "list" = some true; decide +kernel) hm hm2 hm3 (by decide +kernel) (by decide +kernel) ha hg hg2 hg3 (by decide) (by decide) (by decide) (by decide) s2 s1 hpl s3 s4) rfl
end
theorem all_true_map {α : Type} (xs : List α) : (xs.map fun _ => true).all id = true := by
  induction xs with
  | nil => rfl
  | cons x xs ih => rw [List.map_cons, List.all_cons, ih]; rfl
theorem zip_pr (p q : List Int) : ((p.map PyData.int).zip (q.map PyData.int)).map prD = (p.zip q).map fun z => .tuple [.int z.1, .int z.2] := by
  rw [zip_ints, List.map_map]
  rfl
end TB
namespace TB
open PySem L2 PySem.Spec PyProof.Rows
theorem dec_len3 (r : List Int) : decide ((r.length : Int) = 3) = decide (r.length = 3) := decide_eq_decide.mpr ⟨fun h => by omega, fun h => by omega⟩
theorem all_zip {es : List D} {rs : List (List Int)} (h : SeqAll es rs) : (((es.zip rs).map fun pr => decide ((pr.2.length : Int) = 3)).all id) = rs.all fun r => decide (r.length = 3) := by
  induction h with
  | nil => rfl
  | cons _ _ ih =>
    rw [List.zip_cons_cons, List.map_cons, List.all_cons, List.all_cons, ih]
    congr 1
    exact dec_len3 _
theorem SeqAll.three {es : List D} {p q r : List Int} (h : SeqAll es [p, q, r]) : ∃ d1 d2 d3, es = [d1, d2, d3] ∧ Seq d1 p ∧ Seq d2 q ∧ Seq d3 r := by
  cases h with
  | cons h1 h => cases h with
    | cons h2 h => cases h with
      | cons h3 h =>
        cases h
        exact ⟨_, _, _, rfl, h1, h2, h3⟩
end TB

namespace TB
open PySem L2 PySem.Spec PyProof.Rows
/-! ### defs that reach repr -/
structure CalG (P : Program) (w : World) (K : PySem.W.Frag) (mg : Str → Option Value) (base : Heap) (k : Nat) (n : Str) (ps : List Str) (R : List D → Out → Prop) : Prop where
  ex : ∃ f fd, FnG P w K mg base k f fd ps (spD K R) ∧ mg n = some (.ref f) ∧ PySem.W.keepIn K (.ref f) = true ∧ Binds K fd ps []
theorem cal_mkG {P : Program} {w : World} {K : PySem.W.Frag} {mg : Str → Option Value} {base : Heap} {n : Str} {st : Stmt} {N ps : List Str} {k : Nat} {R : List D → Out → Prop} (A0 : FnAt K mg n st ps) (Sc : FnScope N ps (defScope st)) (hlen : ∀ ds o, R ds o → ds.length = ps.length)
    (hb : ∀ (f : Addr) (cdv : Value) (A : Around) (outer : List Env) (s : Shared) (H : Hp) (E : XK) (F : Hp) (ds : List D) (o : Out), A.guards = some [] → Room k (A.deeper (PyProof.Rows.envOfC n (defScope st) s.heap.objs.size f cdv)) →
      L2.Takes (XO P w K mg base N n st f cdv A outer s H E) (fun cls d _ H => E cls d H) → PassesOwn (model P w) (XO P w K mg base N n st f cdv A outer s H E).A (XO P w K mg base N n st f cdv A outer s H E).env (XO P w K mg base N n st f cdv A outer s H E).xe → R ds o →
      ∃ so, JSs (XO P w K mg base N n st f cdv A outer s H E) (fun cls d _ H => E cls d H) F H (begin_ N ds) (defBody st) so ∧ Fits o so) : CalG P w K mg base (k + 1) n ps R := by
  obtain ⟨f, fd, Fn, hm, hb'⟩ := A0.ex
  exact ⟨f, fd, fn_okG Fn Sc hlen (hb f), hm, Fn.kp, hb'⟩
section
variable {X : Cx} {k : Nat} {f : Addr} {fd : FuncData} {ps : List Str} {sp : Sp} {E : L2.St → XK} {x : Str} {p pos : Pos} {e : Expr} {es : List Expr} {t : TA}
theorem run_fnG {pins : List (Addr × Obj)} {σ : L2.St} {H : Hp} {s : Shared} {Q : VK} {us : List Value} {vs : List V} (F : FnG X.prog X.w X.K X.mg X.base k f fd ps sp) (gd : X.A.guards = some []) (hr : Room k X.A) (hb : Binds X.K fd ps []) (hx : PassesAt (L2.CX X.prog X.w) X σ (E σ))
    (I : Inv X pins σ H s) (r : Vals vs us) (h : sp vs H Q (E σ)) : wpAny (model X.prog X.w) X.A (PySem.call (.ref f) us) (EP X pins σ Q) X.xe s := by
  have hl : us.length = ps.length := by rw [← r.length]; exact F.len _ _ _ _ h
  have b := hb s us I.kIn (by rw [List.append_nil]; exact hl)
  rw [List.append_nil] at b
  refine wpAny_call (codeAny_mono (F.run X.A X.stack s H ⟨us, []⟩ us vs Q (E σ) gd hr I.env0 b r h) fun r s' hq => ?_)
  cases r with
  | error e => exact hx pins H s e s' I hq
  | ok fl =>
    cases fl with
    | ret u => exact I.after hq
    | next => exact False.elim hq
    | brk => exact False.elim hq
    | cont => exact False.elim hq
theorem pe_callG (F : FnG X.prog X.w X.K X.mg X.base k f fd ps sp) (gd : X.A.guards = some []) (hr : Room k X.A) (hg : Gl X x) (hm : X.mg x = some (.ref f)) (hk : PySem.W.keepIn X.K (.ref f) = true) (hb : Binds X.K fd ps []) (hx : ∀ σ, PassesAt (L2.CX X.prog X.w) X σ (E σ))
    (ha : PA X (e :: es) t) (hdb : (x == ("__debug__" : Str)) = false := by decide) (he : starEach (e :: es) X.env = (false, eval e X.env) :: starEach es X.env := by rfl) (hpl : (backTo pos (starEach es X.env)).any (·.1) = false := by rfl) :
    PE X (.Call (.Name x p) (e :: es) [] pos) (tCallS sp E t) := by
  refine ⟨fun pins s σ H Q I h => ?_⟩
  refine wpAny_Call_Name_kw (ld_glob I hg hm ?_ hdb)
  refine PySem.W.callWith_K (h₀ := X.base) I.ok.mod.kin hk (thn (ha.run pos pins s σ H _ I h) fun us s1 ⟨vs, H1, I1, r, q⟩ => ⟨I1.kIn, ?_⟩) he hpl
  exact run_fnG F gd hr hb (hx σ) I1 r q
end
section
variable {X : Cx} {W : WX} {F0 H0 : Hp} {Γ : List S} {e : Expr} {es : List Expr} {pos np : Pos} {n : Str} {ds : List D} {o : Out} {k : Nat} {ps : List Str} {R : List D → Out → Prop}
theorem je_callG (C : CalG X.prog X.w X.K X.mg X.base k n ps R) (gd : X.A.guards = some []) (hR : R ds o) (hr : Room k X.A) (tk : L2.Takes X W) (ha : JA X F0 H0 Γ (e :: es) ds)
    (hg : Gl X n := by rfl) (hdb : (n == ("__debug__" : Str)) = false := by decide) (he : starEach (e :: es) X.env = (false, eval e X.env) :: starEach es X.env := by rfl) (hpl : (backTo pos (starEach es X.env)).any (·.1) = false := by rfl) : JE X W F0 H0 Γ (.Call (.Name n np) (e :: es) [] pos) o := by
  obtain ⟨f, fd, G, hm, hk, hb⟩ := C.ex
  exact pe_imp (pe_callG G gd hr hg hm hk hb (fun σ => passAt tk σ) ha hdb he hpl) fun σ H Q ⟨F, ok, q⟩ => ⟨F, ok, fun vs F1 H1 z1 d1 => ⟨F1, ds, _, z1.s, d1, hR, po_mono z1 q⟩⟩
end
/-! ### turns written out -/
theorem leaf_turn {b : Nat} {s : Int} {rs : List (List Int)} (hb : 0 < b) (hb2 : b ≤ 1920) (hs : Bt b s) (hr : ∀ r ∈ rs, r.length ≤ 3 ∧ ∀ z ∈ r, Bt b z) : Leaf b (turnD s rs) (b + 1 + (rs.length * (3 * (b + 1) + 1) + 1)) := by
  obtain ⟨g, g2⟩ := leaves_tis hb hb2 (k := 3) hr
  refine leaf_tup (leaves_cons (leaf_int hb hb2 hs) (by show 0 ≤ 8; decide) (leaves_cons (leaf_tup g) (by rw [PyData.depth]; omega) leaves_nil (k := rs.length * (3 * (b + 1) + 1) + 1) (by omega)) (by omega))
theorem shown_turn {b : Nat} {s : Int} {rs : List (List Int)} (hb : 7 ≤ b) (hb2 : b ≤ 400) (hn : rs.length ≤ 3) (hs : Bt b s) (hr : ∀ r ∈ rs, r.length ≤ 3 ∧ ∀ z ∈ r, Bt b z) : Shown (turnD s rs) := by
  refine shown_of (leaf_turn (by omega) (by omega) hs hr) (fun _ e => by cases e) hb ?_
  have h1 : rs.length * (3 * (b + 1) + 1) ≤ 3 * (3 * 401 + 1) := Nat.mul_le_mul hn (by omega)
  have h2 : (b + 3) * (b + 1 + (rs.length * (3 * (b + 1) + 1) + 1)) ≤ 403 * (401 + (3 * (3 * 401 + 1) + 1)) := Nat.mul_le_mul (by omega) (by omega)
  omega
/-- the turn of a number: its size and rows are not great -/
theorem turn_b {m : Nat} {x : List Int} (hx : isNum x = true) (h0 : zeroB x = false) (h : ∀ z ∈ x, Bt m z) : Bt (m + m + 3) (turnS x) ∧ (turnR x).length = 3 ∧ ∀ r ∈ turnR x, r.length = 3 ∧ ∀ z ∈ r, Bt (m + m + 3) z := by
  obtain ⟨g, hg, s1, r1⟩ := parts_of_turn hx h0
  have hr := (rows_rot (num_len hx) h).1
  have hs := (rows_rot (num_len hx) h).2
  have hf : form3 (turnR x) = true := by
    have := good_turn hx h0
    unfold goodT at this
    simp only [Bool.and_eq_true] at this
    exact this.1.1.2
  obtain ⟨l1, l2⟩ := form3_iff.mp hf
  have div : ∀ z : Int, Bt (m + m + 3) (z * g) → Bt (m + m + 3) z := fun z hz => by
    unfold Bt at hz ⊢
    rw [Int.natAbs_mul] at hz
    exact Nat.lt_of_le_of_lt (Nat.le_mul_of_pos_right _ (by omega)) hz
  refine ⟨div _ (by rw [Int.mul_comm, ← s1]; exact hs), l1, fun r hm => ⟨l2 r hm, fun z hz => div z ?_⟩⟩
  refine hr.b (timesL g r) (by rw [r1]; exact List.mem_map_of_mem hm) _ ?_
  exact List.mem_map_of_mem hz
def R_law_ist : List D → Out → Prop := fun ds o => ∃ (s : Int) (rs : List (List Int)), ds = [turnD s rs, turnD s rs] ∧ Shown (turnD s rs) ∧ o = .v (.bool true)
def R_law_lists : List D → Out → Prop := fun ds o => ∃ (s : Int) (rs : List (List Int)), ds = [turnD s rs] ∧ rs.length ≤ 10 ∧ (∀ r ∈ rs, r.length ≤ 10) ∧ o = .o [.int s, .list (rs.map li)]
/-- a number times a factor -/
theorem g_times {m n : Nat} {f : Int} {x : List Int} (g : G m x) (z : zeroB x = false) (h : f ≠ 0) (hb : Bt n f) : G (m + n) (timesL f x) ∧ zeroB (timesL f x) = false := by
  refine ⟨⟨num_times f g.num, fun z hz => ?_⟩, ?_⟩
  · obtain ⟨y, hy, rfl⟩ := List.mem_map.mp hz
    exact bt_mul (g.sm y hy) hb
  · cases q : zeroB (timesL f x) with
    | false => rfl
    | true =>
      rw [zeroB_iff] at q
      rw [← z, zeroB_iff.mpr fun y hy => ?_]
      rcases Int.mul_eq_zero.mp (q (y * f) (List.mem_map_of_mem (f := fun p => p * f) hy)) with e | e
      · exact e
      · exact absurd e h
end TB

namespace TB
open PySem L2 PySem.Spec PyProof.Rows
/-! ### primitive parts are one's own -/
def primC (x : List Int) : List Int := quoL (contL x) x
theorem times_zero_iff {m : Int} (hm : m ≠ 0) {x : List Int} : zeroB (timesL m x) = zeroB x := by
  cases h : zeroB x with
  | true =>
    refine zeroB_iff.mpr fun z hz => ?_
    obtain ⟨y, hy, rfl⟩ := List.mem_map.mp hz
    rw [zeroB_iff.mp h y hy, Int.zero_mul]
  | false =>
    cases q : zeroB (timesL m x) with
    | false => rfl
    | true =>
      rw [← h, zeroB_iff.mpr fun y hy => ?_]
      rcases Int.mul_eq_zero.mp (zeroB_iff.mp q (y * m) (List.mem_map_of_mem (f := fun p => p * m) hy)) with e | e
      · exact e
      · exact absurd e hm
theorem pos_dvd_one {k : Int} (h : 0 < k) (h1 : k ∣ 1) : k = 1 := by
  have := Int.le_of_dvd (by decide) h1
  omega
theorem prim_spec {x : List Int} (hx : isNum x = true) (h0 : zeroB x = false) : 0 < contL x ∧ isNum (primC x) = true ∧ zeroB (primC x) = false ∧ x = timesL (contL x) (primC x) ∧ contL (primC x) = 1 := by
  have hc := (div_iff hx h0 (m := 1) (by decide)).1
  obtain ⟨y, hy, e⟩ := (div_iff hx h0 hc).2.mpr ⟨1, by omega⟩
  have ep : primC x = y := by
    have h2 := quo_of_times hc y
    rw [← e] at h2
    exact h2
  have zy : zeroB y = false := by
    rw [← h0]
    conv => rhs; rw [e]
    rw [times_zero_iff (by omega)]
  refine ⟨hc, by rw [ep]; exact hy, by rw [ep]; exact zy, by rw [ep]; exact e, ?_⟩
  rw [ep]
  have hk := (div_iff hy zy (m := 1) (by decide)).1
  obtain ⟨z, hz, e2⟩ := (div_iff hy zy hk).2.mpr ⟨1, by omega⟩
  have hkc := Int.mul_pos hk hc
  have : contL y * contL x ∣ contL x := (div_iff hx h0 hkc).2.mp ⟨z, hz, by rw [← times_times, ← e2]; exact e⟩
  refine pos_dvd_one hk ?_
  have h1 : contL y * contL x ∣ 1 * contL x := by rw [Int.one_mul]; exact this
  exact Int.dvd_of_mul_dvd_mul_right (by omega) h1
theorem cont_times {x : List Int} (hx : isNum x = true) (h0 : zeroB x = false) {m : Int} (hm : 0 < m) : contL (timesL m x) = m * contL x := by
  obtain ⟨hc, pn, pz, e, _⟩ := prim_spec hx h0
  have hn := num_times m hx
  have hz : zeroB (timesL m x) = false := by rw [times_zero_iff (by omega)]; exact h0
  obtain ⟨hC, qn, qz, e2, _⟩ := prim_spec hn hz
  have d1 : m * contL x ∣ contL (timesL m x) := (div_iff hn hz (Int.mul_pos hm hc)).2.mp ⟨primC x, pn, by
    conv => lhs; rw [e]
    rw [times_times, Int.mul_comm]⟩
  obtain ⟨k, hk⟩ := d1
  have kp : 0 < k := by
    rcases Int.lt_or_le 0 k with q | q
    · exact q
    · have := Int.mul_nonpos_of_nonneg_of_nonpos (Int.le_of_lt (Int.mul_pos hm hc)) q
      omega
  have e3 : x = timesL (contL x * k) (primC (timesL m x)) := by
    refine times_inj (m := m) (by omega) ?_
    rw [times_times]
    conv => lhs; rw [e2]
    rw [hk]
    congr 1
    rw [Int.mul_assoc, Int.mul_comm]
  have d2 : contL x * k ∣ contL x := (div_iff hx h0 (Int.mul_pos hc kp)).2.mp ⟨_, qn, e3⟩
  have d3 : k ∣ 1 := by
    have h1 : contL x * k ∣ contL x * 1 := by rw [Int.mul_one]; exact d2
    exact Int.dvd_of_mul_dvd_mul_left (by omega) h1
  have := pos_dvd_one kp d3
  rw [hk, this, Int.mul_one]
theorem prim_one {p q : List Int} (hp : isNum p = true) (zp : zeroB p = false) (hq : isNum q = true) (zq : zeroB q = false) (c1 : contL p = 1) (c2 : contL q = 1) {m n : Int} (hm : 0 < m) (hn : 0 < n) (h : timesL m p = timesL n q) : p = q := by
  have e1 := cont_times hp zp hm
  have e2 := cont_times hq zq hn
  rw [h, e2, c1, c2, Int.mul_one, Int.mul_one] at e1
  subst e1
  exact times_inj (by omega) h
theorem prim_same {x y : List Int} (hx : isNum x = true) (zx : zeroB x = false) (hy : isNum y = true) (zy : zeroB y = false) {m n : Int} (hm : 0 < m) (hn : 0 < n) (h : timesL m x = timesL n y) : primC x = primC y := by
  obtain ⟨a1, a2, a3, a4, a5⟩ := prim_spec hx zx
  obtain ⟨b1, b2, b3, b4, b5⟩ := prim_spec hy zy
  refine prim_one a2 a3 b2 b3 a5 b5 (m := contL x * m) (n := contL y * n) (Int.mul_pos a1 hm) (Int.mul_pos b1 hn) ?_
  rw [← times_times, ← times_times, ← a4, ← b4]
  exact h
theorem neg_num {x : List Int} (h : isNum x = true) : isNum (negL x) = true := by
  obtain ⟨p, q, r, s, rfl, k⟩ := num_cases h
  obtain ⟨k1, k2, k3⟩ := k
  exact isNum_of (a := -p) (b := -q) (c := -r) (d := -s) ⟨by omega, by omega, by omega⟩
theorem neg_times (x : List Int) : negL x = timesL (-1) x := List.map_congr_left fun z _ => by omega
theorem neg_zeroB (x : List Int) : zeroB (negL x) = zeroB x := by rw [neg_times, times_zero_iff (by decide)]
theorem negneg (x : List Int) : negL (negL x) = x := by
  rw [neg_times, neg_times, times_times]
  unfold timesL
  conv => rhs; rw [← List.map_id x]
  exact List.map_congr_left fun z _ => by show z * (-1 * -1) = z; omega
theorem cont_neg {x : List Int} (hx : isNum x = true) (h0 : zeroB x = false) : contL (negL x) = contL x := by
  have le : ∀ {y : List Int}, isNum y = true → zeroB y = false → contL y ∣ contL (negL y) := fun {y} hy zy => by
    obtain ⟨a1, a2, a3, a4, _⟩ := prim_spec hy zy
    refine (div_iff (neg_num hy) (by rw [neg_zeroB]; exact zy) a1).2.mp ⟨negL (primC y), neg_num a2, ?_⟩
    conv => lhs; rw [a4]
    rw [neg_times, neg_times, times_times, times_times, Int.mul_comm]
  have hn := neg_num hx
  have zn : zeroB (negL x) = false := by rw [neg_zeroB]; exact h0
  have h1 := le hx h0
  have h2 := le hn zn
  rw [negneg] at h2
  exact Int.dvd_antisymm (Int.le_of_lt (cont_pos hn zn)) (Int.le_of_lt (cont_pos hx h0)) h2 h1
theorem prim_neg {x : List Int} (hx : isNum x = true) (h0 : zeroB x = false) : primC (negL x) = negL (primC x) := by
  obtain ⟨a1, a2, a3, a4, a5⟩ := prim_spec hx h0
  have hn := neg_num hx
  have zn : zeroB (negL x) = false := by rw [neg_zeroB]; exact h0
  obtain ⟨b1, b2, b3, b4, b5⟩ := prim_spec hn zn
  refine times_inj (m := contL x) (by omega) ?_
  have e : negL x = timesL (contL x) (primC (negL x)) := by
    conv => lhs; rw [b4]
    rw [cont_neg hx h0]
  rw [← e]
  conv => lhs; rw [a4]
  rw [neg_times, neg_times, times_times, times_times, Int.mul_comm]
/-- the greater of a number and its opposite -/
def pmax (x : List Int) : List Int := if x < negL x then negL x else x
theorem pmax_neg (x : List Int) : pmax (negL x) = pmax x := by
  unfold pmax
  rw [negneg]
  by_cases h : x < negL x
  · rw [if_pos h, if_neg (List.lt_asymm h)]
  · rw [if_neg h]
    by_cases g : negL x < x
    · rw [if_pos g]
    · rw [if_neg g]
      exact List.le_antisymm (List.not_lt.mp h) (List.not_lt.mp g)
/-- numbers in one line have one primitive number, but for the sign -/
theorem pmax_same {x y : List Int} (hx : isNum x = true) (zx : zeroB x = false) (hy : isNum y = true) (zy : zeroB y = false) {m n : Int} (hm : 0 < m) (hn : n ≠ 0) (h : timesL m x = timesL n y) : pmax (primC x) = pmax (primC y) := by
  rcases Int.lt_or_lt_of_ne hn with q | q
  · rw [← pmax_neg (primC y), ← prim_neg hy zy]
    congr 1
    refine prim_same hx zx (neg_num hy) (by rw [neg_zeroB]; exact zy) hm (n := -n) (by omega) ?_
    rw [h, neg_times, times_times]
    congr 1
    omega
  · congr 1
    exact prim_same hx zx hy zy hm q h
/-- the law's own primitive number -/
theorem primP_one {x : List Int} (hx : isNum x = true) (h0 : zeroB x = false) : primP x = primC x := by
  obtain ⟨pn, pz, m, n, hm, hn, e⟩ := primP_num hx h0
  obtain ⟨a1, a2, a3, a4, a5⟩ := prim_spec hx h0
  refine prim_one pn pz a2 a3 ?_ a5 hm (n := contL x * n) (Int.mul_pos a1 hn) (by rw [← times_times, ← a4]; exact e)
  obtain ⟨hp, ed⟩ := dv_ok hx h0
  obtain ⟨c1, c2, c3, c4, c5⟩ := prim_spec pn pz
  generalize hk : contL (primP x) = k at c1 c4 ⊢
  have hl : (quoL (dvL x) x).length = 4 := by rw [quo_len, num_len hx]
  have one : ∀ m : Int, (∀ z ∈ quoL (dvL x) x, m ∣ z) → m ∣ 1 := fun m h => by
    have h2 : m * dvL x ∣ dvL x := dvL_great fun z hz => by
      rw [← ed] at hz
      obtain ⟨y, hy, rfl⟩ := List.mem_map.mp hz
      obtain ⟨c, hc⟩ := h y hy
      exact ⟨c, by rw [hc]; grind⟩
    have h3 : m * dvL x ∣ 1 * dvL x := by rw [Int.one_mul]; exact h2
    exact Int.dvd_of_mul_dvd_mul_right (by omega) h3
  have c4' : ∀ z ∈ primP x, ∃ y ∈ primC (primP x), z = y * k := fun z hz => by
    rw [c4] at hz
    obtain ⟨y, hy, rfl⟩ := List.mem_map.mp hz
    exact ⟨y, hy, rfl⟩
  by_cases hall : ((quoL (dvL x) x).filter fun z => decide (z % 2 = 1)).length < 4
  · have ep : primP x = (quoL (dvL x) x).map (fun z => 2 * z) := by unfold primP; rw [if_pos hall]
    have tw : ∀ z ∈ quoL (dvL x) x, ∃ y, 2 * z = y * k := fun z hz => by
      obtain ⟨y, _, h⟩ := c4' (2 * z) (by rw [ep]; exact List.mem_map_of_mem (f := fun z : Int => 2 * z) hz)
      exact ⟨y, h⟩
    rcases Int.emod_two_eq k with hk2 | hk2
    · -- even
      exfalso
      obtain ⟨j, hj⟩ : ∃ j, k = 2 * j := ⟨k / 2, by omega⟩
      have hj1 : j ∣ 1 := one j fun z hz => by
        obtain ⟨y, h⟩ := tw z hz
        refine ⟨y, ?_⟩
        rw [hj] at h
        have : 2 * z = 2 * (j * y) := by rw [h]; grind
        omega
      have hj2 := pos_dvd_one (by omega) hj1
      subst hj2
      -- so the quotients are a number: all odd or all even
      have eq : primC (primP x) = quoL (dvL x) x := by
        refine times_inj (m := 2) (by decide) ?_
        have c4'' := c4
        rw [hj] at c4''
        have : timesL 2 (primC (primP x)) = primP x := c4''.symm
        rw [this, ep]
        exact times_comm 2 _
      rw [eq] at c2
      obtain ⟨a, b, c, d, hq⟩ := four hl
      rw [hq] at c2 hall one
      obtain ⟨k1, k2, k3⟩ := (isNum4 a b c d).mp c2
      rcases Int.emod_two_eq a with ha | ha
      · have := one 2 (fun z hz => by
          have hz' : z = a ∨ z = b ∨ z = c ∨ z = d := by simpa using hz
          refine Int.dvd_of_emod_eq_zero ?_
          rcases hz' with rfl | rfl | rfl | rfl <;> omega)
        exact absurd (pos_dvd_one (by decide) this) (by decide)
      · have f : ([a, b, c, d].filter fun z => decide (z % 2 = 1)) = [a, b, c, d] := List.filter_eq_self.mpr fun z hz => by
          have hz' : z = a ∨ z = b ∨ z = c ∨ z = d := by simpa using hz
          refine decide_eq_true ?_
          rcases hz' with rfl | rfl | rfl | rfl <;> omega
        rw [f] at hall
        exact absurd hall (by show ¬ (4 < 4); decide)
    · -- odd
      refine pos_dvd_one c1 (one k fun z hz => ?_)
      obtain ⟨y, h⟩ := tw z hz
      obtain ⟨j, hj⟩ : ∃ j, k = 2 * j + 1 := ⟨k / 2, by omega⟩
      refine ⟨z - j * y, ?_⟩
      rw [hj] at h ⊢
      have : y = 2 * (z - j * y) := by grind
      grind
  · have ep : primP x = quoL (dvL x) x := by unfold primP; rw [if_neg hall]
    refine pos_dvd_one c1 (one k fun z hz => ?_)
    obtain ⟨y, _, h⟩ := c4' z (by rw [ep]; exact hz)
    exact ⟨y, by rw [h, Int.mul_comm]⟩
theorem primT_is {x : List Int} (hx : isNum x = true) (h0 : zeroB x = false) : primT x = pmax (primC x) := by
  unfold primT pmax
  rw [neg_is, primP_one hx h0]
/-! ### the number of a turn -/
def tabT (s : Int) : List (List Int) → List (List Int)
  | [[a, b, c], [d, e, f], [g, h, i]] => [[s + a + e + i, h - f, c - g, d - b], [h - f, s + a - e - i, b + d, c + g], [c - g, b + d, s - a + e - i, f + h], [d - b, c + g, f + h, s - a - e + i]]
  | _ => []
def firT (s : Int) (rs : List (List Int)) : List Int := ((tabT s rs).filter fun r => !zeroB r).headD []
def nT (s : Int) (rs : List (List Int)) : List Int := pmax (primC (timesL 2 (firT s rs)))
theorem firT_ok {s : Int} {rs : List (List Int)} (hs : 0 < s) (hf : form3 rs = true) : ∃ ts, ((tabT s rs).filter fun r => !zeroB r) = firT s rs :: ts ∧ firT s rs ∈ tabT s rs ∧ zeroB (firT s rs) = false ∧ (firT s rs).length = 4 := by
  obtain ⟨a, b, c, d, e, f, g, h, i, rfl⟩ := form3_rows hf
  have l4 : ∀ r ∈ tabT s [[a, b, c], [d, e, f], [g, h, i]], r.length = 4 := fun r hr => by
    have hr' : r = [s + a + e + i, h - f, c - g, d - b] ∨ r = [h - f, s + a - e - i, b + d, c + g] ∨ r = [c - g, b + d, s - a + e - i, f + h] ∨ r = [d - b, c + g, f + h, s - a - e + i] := by simpa [tabT] using hr
    rcases hr' with rfl | rfl | rfl | rfl <;> rfl
  have ex : ((tabT s [[a, b, c], [d, e, f], [g, h, i]]).filter fun r => !zeroB r) ≠ [] := fun q => by
    have q2 := List.filter_eq_nil_iff.mp q
    have z : ∀ r ∈ tabT s [[a, b, c], [d, e, f], [g, h, i]], ∀ z ∈ r, z = 0 := fun r hr => by
      have := q2 r hr
      exact zeroB_iff.mp (by simpa using this)
    have z1 := z _ (List.mem_cons_self ..) (s + a + e + i) (by simp)
    have z2 := z [h - f, s + a - e - i, b + d, c + g] (by simp [tabT]) (s + a - e - i) (by simp)
    have z3 := z [c - g, b + d, s - a + e - i, f + h] (by simp [tabT]) (s - a + e - i) (by simp)
    have z4 := z [d - b, c + g, f + h, s - a - e + i] (by simp [tabT]) (s - a - e + i) (by simp)
    omega
  cases hq : (tabT s [[a, b, c], [d, e, f], [g, h, i]]).filter fun r => !zeroB r with
  | nil => exact absurd hq ex
  | cons r ts =>
    have e1 : firT s [[a, b, c], [d, e, f], [g, h, i]] = r := by unfold firT; rw [hq]; rfl
    have hm : r ∈ (tabT s [[a, b, c], [d, e, f], [g, h, i]]).filter fun r => !zeroB r := by rw [hq]; exact List.mem_cons_self
    obtain ⟨m1, m2⟩ := List.mem_filter.mp hm
    rw [e1]
    exact ⟨ts, rfl, m1, by simpa using m2, l4 r m1⟩
theorem tab_rows {x : List Int} (hx : isNum x = true) (h0 : zeroB x = false) {g : Int} (s1 : sqS x = g * turnS x) (r1 : rowsT x = (turnR x).map (timesL g)) : ∀ r ∈ tabT (turnS x) (turnR x), ∃ m, timesL g r = timesL m x := by
  have hf : form3 (turnR x) = true := by
    have := good_turn hx h0
    unfold goodT at this
    simp only [Bool.and_eq_true] at this
    exact this.1.1.2
  obtain ⟨a', b', c', d', e', f', g', i', j', hrr⟩ := form3_rows hf
  rw [hrr] at r1 ⊢
  generalize turnS x = t at *
  obtain ⟨a, b, c, d, rfl⟩ := four (num_len hx)
  have r1' : [[a * a + b * b - c * c - d * d, 2 * (b * c - a * d), 2 * (b * d + a * c)], [2 * (b * c + a * d), a * a - b * b + c * c - d * d, 2 * (c * d - a * b)], [2 * (b * d - a * c), 2 * (c * d + a * b), a * a - b * b - c * c + d * d]] = [[a' * g, b' * g, c' * g], [d' * g, e' * g, f' * g], [g' * g, i' * g, j' * g]] := r1
  simp only [List.cons.injEq, and_true] at r1'
  obtain ⟨⟨x1, x2, x3⟩, ⟨x4, x5, x6⟩, x7, x8, x9⟩ := r1'
  have s1' : a * a + (b * b + (c * c + (d * d + 0))) = g * t := s1
  intro r hr
  have hr' : r = [t + a' + e' + j', i' - f', c' - g', d' - b'] ∨ r = [i' - f', t + a' - e' - j', b' + d', c' + g'] ∨ r = [c' - g', b' + d', t - a' + e' - j', f' + i'] ∨ r = [d' - b', c' + g', f' + i', t - a' - e' + j'] := by simpa [tabT] using hr
  have L4 : ∀ {p q r u p' q' r' u' m : Int}, p * g = p' * m → q * g = q' * m → r * g = r' * m → u * g = u' * m → timesL g [p, q, r, u] = timesL m [p', q', r', u'] := fun h1 h2 h3 h4 => by
    show [_ * _, _ * _, _ * _, _ * _] = [_ * _, _ * _, _ * _, _ * _]
    rw [h1, h2, h3, h4]
  have tg : t * g = a * a + b * b + c * c + d * d := by rw [Int.mul_comm, ← s1']; omega
  clear hr hx h0 hf r1 hrr s1 s1'
  rcases hr' with rfl | rfl | rfl | rfl
  · exact ⟨4 * a, L4 (by simp only [Int.add_mul, Int.sub_mul, tg, ← x1, ← x2, ← x3, ← x4, ← x5, ← x6, ← x7, ← x8, ← x9]; grind) (by simp only [Int.add_mul, Int.sub_mul, tg, ← x1, ← x2, ← x3, ← x4, ← x5, ← x6, ← x7, ← x8, ← x9]; grind) (by simp only [Int.add_mul, Int.sub_mul, tg, ← x1, ← x2, ← x3, ← x4, ← x5, ← x6, ← x7, ← x8, ← x9]; grind) (by simp only [Int.add_mul, Int.sub_mul, tg, ← x1, ← x2, ← x3, ← x4, ← x5, ← x6, ← x7, ← x8, ← x9]; grind)⟩
  · exact ⟨4 * b, L4 (by simp only [Int.add_mul, Int.sub_mul, tg, ← x1, ← x2, ← x3, ← x4, ← x5, ← x6, ← x7, ← x8, ← x9]; grind) (by simp only [Int.add_mul, Int.sub_mul, tg, ← x1, ← x2, ← x3, ← x4, ← x5, ← x6, ← x7, ← x8, ← x9]; grind) (by simp only [Int.add_mul, Int.sub_mul, tg, ← x1, ← x2, ← x3, ← x4, ← x5, ← x6, ← x7, ← x8, ← x9]; grind) (by simp only [Int.add_mul, Int.sub_mul, tg, ← x1, ← x2, ← x3, ← x4, ← x5, ← x6, ← x7, ← x8, ← x9]; grind)⟩
  · exact ⟨4 * c, L4 (by simp only [Int.add_mul, Int.sub_mul, tg, ← x1, ← x2, ← x3, ← x4, ← x5, ← x6, ← x7, ← x8, ← x9]; grind) (by simp only [Int.add_mul, Int.sub_mul, tg, ← x1, ← x2, ← x3, ← x4, ← x5, ← x6, ← x7, ← x8, ← x9]; grind) (by simp only [Int.add_mul, Int.sub_mul, tg, ← x1, ← x2, ← x3, ← x4, ← x5, ← x6, ← x7, ← x8, ← x9]; grind) (by simp only [Int.add_mul, Int.sub_mul, tg, ← x1, ← x2, ← x3, ← x4, ← x5, ← x6, ← x7, ← x8, ← x9]; grind)⟩
  · exact ⟨4 * d, L4 (by simp only [Int.add_mul, Int.sub_mul, tg, ← x1, ← x2, ← x3, ← x4, ← x5, ← x6, ← x7, ← x8, ← x9]; grind) (by simp only [Int.add_mul, Int.sub_mul, tg, ← x1, ← x2, ← x3, ← x4, ← x5, ← x6, ← x7, ← x8, ← x9]; grind) (by simp only [Int.add_mul, Int.sub_mul, tg, ← x1, ← x2, ← x3, ← x4, ← x5, ← x6, ← x7, ← x8, ← x9]; grind) (by simp only [Int.add_mul, Int.sub_mul, tg, ← x1, ← x2, ← x3, ← x4, ← x5, ← x6, ← x7, ← x8, ← x9]; grind)⟩
theorem dbl_num {x : List Int} (h : x.length = 4) : isNum (timesL 2 x) = true := by
  obtain ⟨a, b, c, d, rfl⟩ := four h
  exact isNum_of (a := a * 2) (b := b * 2) (c := c * 2) (d := d * 2) ⟨by omega, by omega, by omega⟩
/-- the number of the turn of a number is its primitive number -/
theorem nT_turn {x : List Int} (hx : isNum x = true) (h0 : zeroB x = false) : nT (turnS x) (turnR x) = primT x := by
  obtain ⟨g, hg, s1, r1⟩ := parts_of_turn hx h0
  have gd := good_turn hx h0
  unfold goodT at gd
  simp only [Bool.and_eq_true, decide_eq_true_iff] at gd
  obtain ⟨ts, f1, f2, f3, f4⟩ := firT_ok gd.1.1.1 gd.1.1.2
  obtain ⟨m, hm⟩ := tab_rows hx h0 s1 r1 _ f2
  rw [primT_is hx h0]
  unfold nT
  have m0 : m ≠ 0 := fun e => by
    rw [e] at hm
    have : zeroB (timesL g (firT (turnS x) (turnR x))) = true := by
      rw [hm]
      refine zeroB_iff.mpr fun z hz => ?_
      obtain ⟨y, hy, rfl⟩ := List.mem_map.mp hz
      omega
    rw [times_zero_iff (by omega), f3] at this
    cases this
  refine pmax_same (dbl_num f4) (by rw [times_zero_iff (by decide)]; exact f3) hx h0 hg (n := m * 2) (by omega) ?_
  rw [times_times, Int.mul_comm 2 g, ← times_times, hm, times_times]
end TB

namespace TB
open PySem L2 PySem.Spec PyProof.Rows
/-! ### questions about turns -/
/-- a question about one turn: what is no turn is refused -/
def RTq (c : Addr) (g : Int → List (List Int) → Out) : List D → Out → Prop := fun ds o => ∃ d es, ds = [d] ∧ SqD d es ∧ ((es.length ≠ 2 ∧ o = .x c) ∨ (∃ b dr, es = [.bool b, dr] ∧ o = .x c) ∨ ∃ s dr es' rs, es = [.int s, dr] ∧ TurnA s dr es' rs ∧ o = if goodT s rs = true then g s rs else .x c)
theorem RTq.len {c : Addr} {g : Int → List (List Int) → Out} {ds : List D} {o : Out} (h : RTq c g ds o) : ds.length = 1 := by
  obtain ⟨_, _, rfl, _⟩ := h
  rfl
theorem RTq.go {c : Addr} {g : Int → List (List Int) → Out} {ds : List D} {o : Out} (h : RTq c g ds o) : (∃ d, ds = [d] ∧ R_chkT c [d] (.x c) ∧ o = .x c) ∨ ∃ d s dr es rs, ds = [d] ∧ SqD d [.int s, dr] ∧ TurnA s dr es rs ∧ goodT s rs = true ∧ o = g s rs ∧ R_chkT c [d] (.v .none) := by
  obtain ⟨d, es, rfl, sq, h | ⟨b, dr, rfl, ho⟩ | ⟨s, dr, es', rs, rfl, ta, ho⟩⟩ := h
  · exact .inl ⟨d, rfl, ⟨d, es, rfl, sq, .inl ⟨h.1, rfl⟩⟩, h.2⟩
  · exact .inl ⟨d, rfl, ⟨d, _, rfl, sq, .inr (.inl ⟨b, dr, rfl, rfl⟩)⟩, ho⟩
  · by_cases hg : goodT s rs = true
    · rw [if_pos hg] at ho
      exact .inr ⟨d, s, dr, es', rs, rfl, sq, ta, hg, ho, ⟨d, _, rfl, sq, .inr (.inr ⟨s, dr, es', rs, rfl, ta, by rw [if_pos hg]⟩)⟩⟩
    · rw [if_neg hg] at ho
      exact .inl ⟨d, rfl, ⟨d, _, rfl, sq, .inr (.inr ⟨s, dr, es', rs, rfl, ta, by rw [if_neg hg]⟩)⟩, ho⟩
/-- asked about a turn -/
theorem RTq.of {c : Addr} {g : Int → List (List Int) → Out} {d : D} {s : Int} {dr : D} {es : List D} {rs : List (List Int)} (sq : SqD d [.int s, dr]) (ta : TurnA s dr es rs) (h : goodT s rs = true) : RTq c g [d] (g s rs) :=
  ⟨d, _, rfl, sq, .inr (.inr ⟨s, dr, es, rs, rfl, ta, by rw [if_pos h]⟩)⟩
def R_not (c : Addr) : List D → Out → Prop := RTq c fun s rs => .v (ti (nT s rs))
theorem good_form {s : Int} {rs : List (List Int)} (h : goodT s rs = true) : 0 < s ∧ form3 rs = true := by
  unfold goodT at h
  simp only [Bool.and_eq_true, decide_eq_true_iff] at h
  exact h.1.1
/-- the two shapes of the turn of a number -/
theorem turnA_t {m : Nat} {x : List Int} (g : G m x) (h0 : zeroB x = false) (hm : m + m + 3 ≤ 400 := by decide) : TurnA (turnS x) (.tuple ((turnR x).map ti)) ((turnR x).map ti) (turnR x) := by
  obtain ⟨tb1, tb2, tb3⟩ := turn_b (m := m) g.num h0 g.sm
  exact ⟨.inl rfl, seqAll_ti _, by omega, fun r hr => by rw [(tb3 r hr).1]; decide, fun r hr z hz => bt_up ((tb3 r hr).2 z hz) hm, bt_up tb1 hm⟩
theorem turnA_l {m : Nat} {x : List Int} (g : G m x) (h0 : zeroB x = false) (hm : m + m + 3 ≤ 400 := by decide) : TurnA (turnS x) (.list ((turnR x).map li)) ((turnR x).map li) (turnR x) := by
  obtain ⟨tb1, tb2, tb3⟩ := turn_b (m := m) g.num h0 g.sm
  exact ⟨.inr rfl, seqAll_li _, by omega, fun r hr => by rw [(tb3 r hr).1]; decide, fun r hr z hz => bt_up ((tb3 r hr).2 z hz) hm, bt_up tb1 hm⟩
theorem shown_turnX {m : Nat} {x : List Int} (g : G m x) (h0 : zeroB x = false) (hm : 2 ≤ m := by decide) (hm2 : m + m + 3 ≤ 400 := by decide) : Shown (turnD (turnS x) (turnR x)) := by
  obtain ⟨tb1, tb2, tb3⟩ := turn_b (m := m) g.num h0 g.sm
  exact shown_turn (b := m + m + 3) (by omega) hm2 (by omega) tb1 fun r hr => ⟨by rw [(tb3 r hr).1]; decide, (tb3 r hr).2⟩
theorem bt_s4 {m : Nat} {p q r u : Int} (h1 : Bt m p) (h2 : Bt m q) (h3 : Bt m r) (h4 : Bt m u) : Bt (m + 2) (p + q + r + u) := by
  unfold Bt at *
  rw [Nat.pow_succ, Nat.pow_succ]
  omega
theorem bt_s2 {m : Nat} {p q : Int} (h1 : Bt m p) (h2 : Bt m q) : Bt (m + 2) (p + q) := by
  unfold Bt at *
  rw [Nat.pow_succ, Nat.pow_succ]
  omega
/-- what stands in the table of the number of a turn -/
theorem tab_b {s : Int} {rs : List (List Int)} (hf : form3 rs = true) {m : Nat} (hs : Bt m s) (hb : ∀ r ∈ rs, ∀ z ∈ r, Bt m z) : ∀ r ∈ tabT s rs, ∀ z ∈ r, Bt (m + 2) z := by
  obtain ⟨a, b, c, d, e, f, g, h, i, rfl⟩ := form3_rows hf
  have ba := hb [a, b, c] (by simp) a (by simp)
  have bb := hb [a, b, c] (by simp) b (by simp)
  have bc := hb [a, b, c] (by simp) c (by simp)
  have bd := hb [d, e, f] (by simp) d (by simp)
  have be := hb [d, e, f] (by simp) e (by simp)
  have bf := hb [d, e, f] (by simp) f (by simp)
  have bg := hb [g, h, i] (by simp) g (by simp)
  have bh := hb [g, h, i] (by simp) h (by simp)
  have bi := hb [g, h, i] (by simp) i (by simp)
  intro r hr z hz
  have hr' : r = [s + a + e + i, h - f, c - g, d - b] ∨ r = [h - f, s + a - e - i, b + d, c + g] ∨ r = [c - g, b + d, s - a + e - i, f + h] ∨ r = [d - b, c + g, f + h, s - a - e + i] := by simpa [tabT] using hr
  have l4 : ∀ {x p q r : Int}, z ∈ [x, p, q, r] → Bt (m + 2) x → Bt (m + 2) p → Bt (m + 2) q → Bt (m + 2) r → Bt (m + 2) z := fun hz h1 h2 h3 h4 => by
    simp only [List.mem_cons, List.not_mem_nil, or_false] at hz
    rcases hz with rfl | rfl | rfl | rfl <;> assumption
  have n1 : Bt (m + 2) (h - f) := bt_s2 bh bf.neg
  have n2 : Bt (m + 2) (c - g) := bt_s2 bc bg.neg
  have n3 : Bt (m + 2) (d - b) := bt_s2 bd bb.neg
  rcases hr' with rfl | rfl | rfl | rfl
  · exact l4 hz (bt_s4 hs ba be bi) n1 n2 n3
  · exact l4 hz n1 (bt_s4 hs ba be.neg bi.neg) (bt_s2 bb bd) (bt_s2 bc bg)
  · exact l4 hz n2 (bt_s2 bb bd) (bt_s4 hs ba.neg be bi.neg) (bt_s2 bf bh)
  · exact l4 hz n3 (bt_s2 bc bg) (bt_s2 bf bh) (bt_s4 hs ba.neg be.neg bi)
end TB
namespace TB
open PySem L2 PySem.Spec PyProof.Rows
theorem turn_pmax {x : List Int} (hx : isNum x = true) (h0 : zeroB x = false) : turnS (pmax x) = turnS x ∧ turnR (pmax x) = turnR x := by
  unfold pmax
  split
  · rw [neg_times]
    exact turn_times (by decide) hx h0
  · exact ⟨rfl, rfl⟩
theorem turn_prim {x : List Int} (hx : isNum x = true) (h0 : zeroB x = false) : turnS (primT x) = turnS x ∧ turnR (primT x) = turnR x := by
  rw [primT_is hx h0]
  obtain ⟨p1, p2, p3, p4, p5⟩ := prim_spec hx h0
  have h := turn_times (m := contL x) (by omega) p2 p3
  rw [← p4] at h
  rw [(turn_pmax p2 p3).1, (turn_pmax p2 p3).2, h.1, h.2]
  exact ⟨rfl, rfl⟩
end TB

namespace TB
open PySem L2
/-! ### zip of three rows, its tuples kept -/
section
variable {prog : Program} {w : World} {A : Around} {E : Value → Shared → Prop} {s : Shared} {q TI TO T i1 i2 i3 : Addr} {fa fb fc : List Addr} {n1 n2 n3 i : Nat} {P1 P2 P3 : Nat → Value → Prop} {J1 J2 J3 : Nat → Heap → Prop} {f : Bool} {oT : Obj}
theorem z3_item {Q : Value → Shared → Prop} (S : ZipSep3 q TI TO i1 i2 i3 fa fb fc) (D1 : Draws prog w A i1 fa n1 P1 J1) (D2 : Draws prog w A i2 fb n2 P2 J2) (D3 : Draws prog w A i3 fc n3 P3 J3)
    (hq : IsZipHeld s.heap q TI TO T f) (hT : s.heap.get? T = some oT) (hTI : IsTupOf3 s.heap TI (.ref i1) (.ref i2) (.ref i3)) (j1 : J1 i s.heap) (j2 : J2 i s.heap) (j3 : J3 i s.heap) (l1 : i < n1) (l2 : i < n2) (l3 : i < n3)
    (hQ : ∀ x1 x2 x3 h' tk, P1 i x1 → P2 i x2 → P3 i x3 → IsZipHeld h' q TI TO T true → J1 (i + 1) h' → J2 (i + 1) h' → J3 (i + 1) h' → IsTupOf3 h' s.heap.objs.size x1 x2 x3 → h'.objs.size = s.heap.objs.size + 1 →
      (∀ c o, c ≠ q → c ≠ i1 → c ≠ i2 → c ≠ i3 → s.heap.get? c = some o → h'.get? c = some o) → Q (.ref s.heap.objs.size) { s with heap := h', toks := tk }) :
    wpAny (model prog w) A (Builtin.«zip.__next__» ⟨[.ref q], []⟩) (fun fin s' => ∃ v, fin = .done (.ret v) ∧ Q v s') E s := by
  obtain ⟨hp, g, d, k0, os⟩ := s
  show wpAny _ _ (field (.ref q) 2 >>= _) _ _ _
  refine wpAny_bind (wpAny_field hq rfl (x := .bool false) rfl ?_)
  show wpAny _ _ (field (.ref q) 3 >>= _) _ _ _
  refine wpAny_bind (wpAny_field hq rfl (x := .ref TI) rfl ?_)
  refine wpAny_bind (wpAny_seqItems hTI rfl ?_)
  show wpAny _ _ (Builtin.SmallTypes.ownedTupleIsFree (.ref q) >>= _) _ _ _
  refine wpAny_bind (wpAny_tupleHeld_zip hq hT fun h0 q0 b0 => ?_)
  simp only [Bool.false_eq_true, if_false]
  replace b0 : Heap.SameBut q hp h0 := b0
  refine wpAny_bind ?_
  rw [← Array.forIn_toList]
  simp only [List.forIn_cons, List.forIn_nil]
  refine wpAny_bind (wpAny_bind (wpAny_holding ?_))
  show wpAny _ _ (Builtin.SmallTypes.nextOf (.ref i1) >>= _) _ _ ⟨h0, g, d, k0, os⟩
  refine wpAny_bind (D1.item i _ _ _ l1 (D1.over j1 b0 S.zf1) fun x1 h1 k1 p1 m1 b1 => wpAny_pure ?_)
  replace b1 : Heap.SameBut i1 h0 h1 := b1
  refine wpAny_pure ?_
  refine wpAny_bind (wpAny_bind (wpAny_holding ?_))
  show wpAny _ _ (Builtin.SmallTypes.nextOf (.ref i2) >>= _) _ _ ⟨h1, g, d, k1, os⟩
  refine wpAny_bind (D2.item i _ _ _ l2 (D2.over (D2.over j2 b0 S.zf2) b1 S.sep1_2) fun x2 h2 k2 p2 m2 b2 => wpAny_pure ?_)
  replace b2 : Heap.SameBut i2 h1 h2 := b2
  refine wpAny_pure ?_
  refine wpAny_bind (wpAny_bind (wpAny_holding ?_))
  show wpAny _ _ (Builtin.SmallTypes.nextOf (.ref i3) >>= _) _ _ ⟨h2, g, d, k2, os⟩
  refine wpAny_bind (D3.item i _ _ _ l3 (D3.over (D3.over (D3.over j3 b0 S.zf3) b1 S.sep1_3) b2 S.sep2_3) fun x3 h3 k3 p3 m3 b3 => wpAny_pure ?_)
  replace b3 : Heap.SameBut i3 h2 h3 := b3
  refine wpAny_pure (wpAny_pure ?_)
  show wpAny _ _ (newTuple [x1, x2, x3] >>= _) _ _ ⟨h3, g, d, k3, os⟩
  refine wpAny_bind (wpAny_newTuple ?_)
  have hsz : h3.objs.size = hp.objs.size := by rw [b3.1, b2.1, b1.1, b0.1]
  have q3 : IsZipHeld h3 q TI TO T true := b3.extBut _ _ S.zi3 (b2.extBut _ _ S.zi2 (b1.extBut _ _ S.zi1 q0))
  have kk : ∀ c o, c ≠ q → c ≠ i1 → c ≠ i2 → c ≠ i3 → hp.get? c = some o → h3.get? c = some o := fun c o c1 c2 c3 c4 e => b3.extBut _ _ c4 (b2.extBut _ _ c3 (b1.extBut _ _ c2 (b0.extBut _ _ c1 e)))
  have s1 : J1 (i + 1) h3 := D1.over (D1.over m1 b2 S.sep2_1) b3 S.sep3_1
  have s2 : J2 (i + 1) h3 := D2.over m2 b3 S.sep3_2
  refine wpAny_pure ⟨_, rfl, ?_⟩
  show Q (.ref h3.objs.size) ⟨h3.push { cls := .type "tuple", data := .seq #[x1, x2, x3] }, g, d, k3, os⟩
  have up : ∀ c o, h3.get? c = some o → (h3.push { cls := .type "tuple", data := .seq #[x1, x2, x3] }).get? c = some o := fun c o e => Heap.get?_push_of_some _ e
  have t1 : IsTupOf3 (h3.push { cls := .type "tuple", data := .seq #[x1, x2, x3] }) h3.objs.size x1 x2 x3 := Heap.get?_push_size _ rfl
  have t2 : (h3.push ({ cls := .type "tuple", data := .seq #[x1, x2, x3] } : Obj)).objs.size = h3.objs.size + 1 := Heap.size_push _ _
  rw [hsz] at t1 t2 ⊢
  exact hQ x1 x2 x3 _ k3 p1 p2 p3 (up _ _ q3) (D1.frame _ _ _ s1 fun b _ o e => up b o e) (D2.frame _ _ _ s2 fun b _ o e => up b o e) (D3.frame _ _ _ m3 fun b _ o e => up b o e) t1 t2 fun c o c1 c2 c3 c4 e => up c o (kk c o c1 c2 c3 c4 e)
theorem z3_end {Q : Fin → Shared → Prop} (S : ZipSep3 q TI TO i1 i2 i3 fa fb fc) (D1 : Draws prog w A i1 fa n1 P1 J1) (hq : IsZipHeld s.heap q TI TO T f) (hT : s.heap.get? T = some oT) (hTI : IsTupOf3 s.heap TI (.ref i1) (.ref i2) (.ref i3)) (j1 : J1 n1 s.heap)
    (hE : ∀ h' e, (∀ c o, c ≠ q → c ≠ i1 → s.heap.get? c = some o → h'.get? c = some o) → (∃ o, h'.get? e = some o ∧ o.cls = .type "StopIteration") → E (.ref e) { s with heap := h' }) :
    wpAny (model prog w) A (Builtin.«zip.__next__» ⟨[.ref q], []⟩) Q E s := by
  obtain ⟨hp, g, d, k0, os⟩ := s
  show wpAny _ _ (field (.ref q) 2 >>= _) _ _ _
  refine wpAny_bind (wpAny_field hq rfl (x := .bool false) rfl ?_)
  show wpAny _ _ (field (.ref q) 3 >>= _) _ _ _
  refine wpAny_bind (wpAny_field hq rfl (x := .ref TI) rfl ?_)
  refine wpAny_bind (wpAny_seqItems hTI rfl ?_)
  show wpAny _ _ (Builtin.SmallTypes.ownedTupleIsFree (.ref q) >>= _) _ _ _
  refine wpAny_bind (wpAny_tupleHeld_zip hq hT fun h0 q0 b0 => ?_)
  simp only [Bool.false_eq_true, if_false]
  replace b0 : Heap.SameBut q hp h0 := b0
  refine wpAny_bind ?_
  rw [← Array.forIn_toList]
  simp only [List.forIn_cons, List.forIn_nil]
  refine wpAny_bind (wpAny_bind (wpAny_holding ?_))
  show wpAny _ _ (Builtin.SmallTypes.nextOf (.ref i1) >>= _) _ _ ⟨h0, g, d, k0, os⟩
  refine wpAny_bind (D1.done ⟨h0, g, d, k0, os⟩ _ _ (D1.over j1 b0 S.zf1) fun h1 e b1 he => ?_)
  exact hE h1 e (fun c o c1 c2 x => b1 _ _ c2 (b0.extBut _ _ c1 x)) he
theorem z3_next {Q : Option Value → Shared → Prop} (S : ZipSep3 q TI TO i1 i2 i3 fa fb fc) (D1 : Draws prog w A.in1 i1 fa n1 P1 J1) (D2 : Draws prog w A.in1 i2 fb n2 P2 J2) (D3 : Draws prog w A.in1 i3 fc n3 P3 J3)
    (hq : IsZipHeld s.heap q TI TO T f) (hT : s.heap.get? T = some oT) (hTI : IsTupOf3 s.heap TI (.ref i1) (.ref i2) (.ref i3)) (j1 : J1 i s.heap) (j2 : J2 i s.heap) (j3 : J3 i s.heap) (l1 : i < n1) (l2 : i < n2) (l3 : i < n3)
    (hQ : ∀ x1 x2 x3 h' tk, P1 i x1 → P2 i x2 → P3 i x3 → IsZipHeld h' q TI TO T true → J1 (i + 1) h' → J2 (i + 1) h' → J3 (i + 1) h' → IsTupOf3 h' s.heap.objs.size x1 x2 x3 → h'.objs.size = s.heap.objs.size + 1 →
      (∀ c o, c ≠ q → c ≠ i1 → c ≠ i2 → c ≠ i3 → s.heap.get? c = some o → h'.get? c = some o) → Q (some (.ref s.heap.objs.size)) { s with heap := h', toks := tk }) :
    wpAny (model prog w) A (pyNext (.ref q)) Q E s := by
  have ty : s.TypeIs (.ref q) "zip" := ⟨_, hq, rfl⟩
  unfold pyNext
  exact wpAny_bind (wpAny_attempt (wpAny_callSpecial?_slot (name := Str.ofString "__next__") ty PySem.F.slot_zip_next
    (wpAny_call_entry PySem.F.slot_zip_next ty PySem.F.entry_zip_next
      (z3_item S D1 D2 D3 hq hT hTI j1 j2 j3 l1 l2 l3 fun x1 x2 x3 h' tk a1 a2 a3 a4 a5 a6 a7 a8 a9 b1 => wpAny_pure (hQ x1 x2 x3 h' tk a1 a2 a3 a4 a5 a6 a7 a8 a9 b1)) (PySem.F.args_zip_next_1 _))))
theorem z3_stop {Q : Option Value → Shared → Prop} (S : ZipSep3 q TI TO i1 i2 i3 fa fb fc) (D1 : Draws prog w A.in1 i1 fa n1 P1 J1) (hq : IsZipHeld s.heap q TI TO T f) (hT : s.heap.get? T = some oT) (hTI : IsTupOf3 s.heap TI (.ref i1) (.ref i2) (.ref i3)) (j1 : J1 n1 s.heap)
    (hQ : ∀ h', (∀ c o, c ≠ q → c ≠ i1 → s.heap.get? c = some o → h'.get? c = some o) → Q none { s with heap := h' }) : wpAny (model prog w) A (pyNext (.ref q)) Q E s := by
  have ty : s.TypeIs (.ref q) "zip" := ⟨_, hq, rfl⟩
  unfold pyNext
  refine wpAny_bind (wpAny_attempt (wpAny_callSpecial?_slot (name := Str.ofString "__next__") ty PySem.F.slot_zip_next
    (wpAny_call_entry PySem.F.slot_zip_next ty PySem.F.entry_zip_next (z3_end S D1 hq hT hTI j1 fun h' e hk he => ?_) (PySem.F.args_zip_next_1 _))))
  obtain ⟨o, ho, hc⟩ := he
  refine wpAny_bind (wpAny_isInstance (T := "StopIteration") (b := true) ⟨o, ho, hc⟩ isSubtype_stop ?_)
  exact wpAny_pure (hQ _ hk)
end
/-! ### what an iterator gives, laid into a list or a tuple -/
theorem zip_len0 : typeLookup (.type "zip") "__len__" = pure none := by rw [typeLookup_type, builtinLookup_eq_fast]; kernel_rfl
theorem zip_hint0 : typeLookup (.type "zip") "__length_hint__" = pure none := by rw [typeLookup_type, builtinLookup_eq_fast]; kernel_rfl
abbrev lso (out : List Value) (c : Nat) : Obj := { cls := .type "list", dict := none, data := .seq out.toArray c, slots := #[] }
structure ItS (prog : Program) (w : World) (A : Around) (I : Addr) (n : Nat) (S : Addr) (J : Nat → List Value → Shared → Prop) (Fi : List Value → Shared → Prop) : Prop where
  put : ∀ i out (s : Shared) h', J i out s → (∀ b o, b ≠ S → s.heap.get? b = some o → h'.get? b = some o) → s.heap.objs.size ≤ h'.objs.size → J i out { s with heap := h' }
  item : ∀ i out (s : Shared) (Q : Option Value → Shared → Prop) (E : Value → Shared → Prop), i < n → J i out s → (∀ v s', J (i + 1) (out ++ [v]) s' → (∀ o, s.heap.get? S = some o → s'.heap.get? S = some o) → Q (some v) s') → wpAny (model prog w) A (pyNext (.ref I)) Q E s
  stop : ∀ out (s : Shared) (Q : Option Value → Shared → Prop) (E : Value → Shared → Prop), J n out s → (∀ s', Fi out s' → (∀ o, s.heap.get? S = some o → s'.heap.get? S = some o) → Q none s') → wpAny (model prog w) A (pyNext (.ref I)) Q E s
  self : ∀ (A' : Around) (s : Shared) (Q : Value → Shared → Prop) (E : Value → Shared → Prop), J 0 [] s → Q (.ref I) s → wpAny (model prog w) A' (pyIter (.ref I)) Q E s
  ty : ∀ s, J 0 [] s → s.TypeIs (.ref I) "zip"
section
variable {prog : Program} {w : World} {A : Around} {E : Value → Shared → Prop} {s : Shared} {R : Result → Shared → Prop} {I S : Addr} {n : Nat} {J : Nat → List Value → Shared → Prop} {Fi : List Value → Shared → Prop}
theorem its_loop (W : ItS prog w A.in1 I n S J Fi) (hn : n ≤ sizeLine) (res : Value) (hR : ∀ s' out c, Fi out s' → out.length = n → s'.heap.get? S = some (lso out c) → R (.ok (.ret res)) s') :
    ∀ (k i : Nat) (s : Shared) (out : List Value), n - i = k → i ≤ n → J i out s → out.length = i → (∃ c, s.heap.get? S = some (lso out c)) → codeAny (model prog w) A (.builtin "list.extend.loop" ⟨[.ref S, .ref I, res], []⟩) R s := by
  intro k
  induction k with
  | zero =>
    intro i s out hk hi j hl ⟨c, hS⟩
    have e : i = n := by omega
    subst e
    refine codeAny_builtin PySem.F.entry_extend_loop ?_
    rw [Around.under_plainId PySem.F.plain_extend_loop _]
    show wpAny _ A.in1 (pyNext (.ref I) >>= _) _ _ _
    refine wpAny_bind (W.stop out s _ _ j fun s' fi hs => ?_)
    exact wpAny_pure (hR s' out c fi hl (hs _ hS))
  | succ k ih =>
    intro i s out hk hi j hl ⟨c, hS⟩
    refine codeAny_builtin PySem.F.entry_extend_loop ?_
    rw [Around.under_plainId PySem.F.plain_extend_loop _]
    show wpAny _ A.in1 (pyNext (.ref I) >>= _) _ _ _
    refine wpAny_bind (W.item i out s _ _ (by omega) j fun v s1 j1 hs => ?_)
    have hS1 := hs _ hS
    show wpAny _ A.in1 (updateSeq S (·.push v) >>= _) _ _ _
    refine wpAny_bind ?_
    refine wpAny_updateSeq hS1 rfl (wpAny_pure ⟨plainId_quiet PySem.F.plain_extend_loop _, ih (i + 1) _ (out ++ [v]) (by omega) (by omega) (W.put _ _ _ _ j1 (fun b o hb e => (Heap.get?_update_other _ _ (Ne.symm hb)).trans e) (Nat.le_of_eq (Heap.SameBut.update ..).1.symm)) (by rw [List.length_append, hl]; rfl) ?_⟩) ?_
    · have e := Heap.get?_update_self (Obj.mapSeq (·.push v)) hS1 rfl
      have e2 : ∃ c', Obj.mapSeq (·.push v) (lso out c) = lso (out ++ [v]) c' := by
        simp only [Obj.mapSeq, lso, List.push_toArray]
        exact ⟨_, rfl⟩
      obtain ⟨c', e2⟩ := e2
      exact ⟨c', e.trans (congrArg some e2)⟩
    · show out.toArray.size ≤ sizeLine
      rw [List.size_toArray]
      omega
theorem its_extend (W : ItS prog w A.in1 I n S J Fi) (hSI : S ≠ I) (hn : n ≤ sizeLine) (res : Value) (c0 : Nat) (j : J 0 [] s) (hS : s.heap.get? S = some (lso [] c0))
    (hR : ∀ s' out c, Fi out s' → out.length = n → s'.heap.get? S = some (lso out c) → R (.ok (.ret res)) s') :
    wpAny (model prog w) A.in1 (Builtin.List.listExtendWith (.ref S) (.ref I) res)
      (fun fin s' => match fin with | .done f => R (.ok f) s' | .again c' => c'.quiet = true ∧ codeAny (model prog w) A c' R s') (fun e s' => R (.error e) s') s := by
  unfold Builtin.List.listExtendWith
  refine wpAny_bind (wpAny_typeOf (W.ty _ j) ?_)
  have e1 : Builtin.List.listSameRef (.ref S) (.ref I) = false := by simp [Builtin.List.listSameRef, hSI]
  have e2 : (Value.type "zip" == Value.type "list") = false := by decide
  have e3 : (Value.type "zip" == Value.type "tuple") = false := by decide
  simp only [e1, e2, e3, Bool.or_false, Bool.false_eq_true, if_false]
  refine wpAny_bind (W.self _ _ _ _ j ?_)
  refine wpAny_bind (wpAny_holding ?_)
  unfold Builtin.List.listLengthHint
  refine wpAny_bind (wpAny_specialOf (W.ty _ j) zip_len0 ?_)
  show wpAny _ A.in1 (specialOf (Value.ref I) (Str.ofString "__length_hint__") >>= _) _ _ _
  refine wpAny_bind (wpAny_specialOf (W.ty _ j) zip_hint0 (wpAny_pure ?_))
  show wpAny _ A.in1 (rule "list.extend.makes-room" >>= fun _ => Builtin.List.listTouch (.ref S) >>= fun _ =>
    again (.builtin "list.extend.loop" ⟨[.ref S, .ref I, res], []⟩)) _ _ _
  refine wpAny_bind (wpAny_rule (wpAny_bind ?_))
  show wpAny _ A.in1 (updateSeq S (·.push .none) >>= fun _ => updateSeq S (·.pop)) _ _ _
  refine wpAny_bind (wpAny_updateSeq hS rfl ?_)
  have hS2 := Heap.get?_update_self (Obj.mapSeq (·.push Value.none)) hS rfl
  refine wpAny_updateSeq (hz := by seq_fits) hS2 rfl ?_
  have hS3 := Heap.get?_update_self (Obj.mapSeq (·.pop)) hS2 rfl
  refine wpAny_pure ⟨plainId_quiet PySem.F.plain_extend_loop _, its_loop W hn res hR n 0 _ [] rfl (Nat.zero_le _) (W.put _ _ _ _ (W.put _ _ _ _ j (fun b o hb e => ?_) (Nat.le_of_eq (Heap.SameBut.update ..).1.symm)) (fun b o hb e => ?_) (Nat.le_of_eq (Heap.SameBut.update ..).1.symm)) rfl ⟨_, hS3⟩⟩
  · exact (Heap.get?_update_other _ _ (Ne.symm hb)).trans e
  · exact (Heap.get?_update_other _ _ (Ne.symm hb)).trans e
end
section
variable {prog : Program} {w : World} {A : Around} {E : Value → Shared → Prop} {s : Shared} {I : Addr} {n : Nat} {J : Nat → List Value → Shared → Prop} {Fi : List Value → Shared → Prop}
/-- list(z) -/
theorem its_list {Q : Value → Shared → Prop} (W : ItS prog w A.in1.in1 I n s.heap.objs.size J Fi) (hI : I < s.heap.objs.size) (hn : n ≤ sizeLine) (j : ∀ h', (∀ b o, s.heap.get? b = some o → h'.get? b = some o) → s.heap.objs.size < h'.objs.size → J 0 [] { s with heap := h' })
    (hQ : ∀ s' out c, Fi out s' → out.length = n → s'.heap.get? s.heap.objs.size = some (lso out c) → Q (.ref s.heap.objs.size) s') : wpAny (model prog w) A (call (.type "list") [.ref I]) Q E s := by
  refine callType_codes (Q₁ := fun obj s1 => obj = .ref s.heap.objs.size ∧ s1 = { s with heap := s.heap.push { cls := .type "list", data := .seq #[] } }) PySem.F.called_list (PySem.F.typeCall_list_1 _) PySem.F.entry_list_init
    (code_list_new _ ⟨rfl, rfl⟩) fun obj s1 h1 => ?_
  obtain ⟨rfl, rfl⟩ := h1
  have hS : (s.heap.push { cls := .type "list", data := .seq #[] }).get? s.heap.objs.size = some (lso [] 0) := Heap.get?_push_size _ rfl
  have hne : s.heap.objs.size ≠ I := Nat.ne_of_gt hI
  refine ⟨⟨_, hS, rfl⟩, PySem.F.args_list_init_2 _ _, ?_⟩
  show wpAny _ _ (do let old ← Builtin.List.listItems (.ref s.heap.objs.size); Builtin.List.listUpdate (.ref s.heap.objs.size) (fun _ => #[]); letGo old.toList.reverse; Builtin.List.listExtendWith (.ref s.heap.objs.size) (.ref I) .none) _ _ _
  refine wpAny_bind ?_
  unfold Builtin.List.listItems
  refine wpAny_bind (wpAny_seqItems hS rfl (wpAny_pure ?_))
  show wpAny _ _ (updateSeq s.heap.objs.size (fun _ => #[]) >>= fun _ => letGo (#[] : Array Value).toList.reverse >>= fun _ => Builtin.List.listExtendWith (.ref s.heap.objs.size) (.ref I) .none) _ _ _
  refine wpAny_bind (wpAny_updateSeq hS rfl ?_)
  have hS2 := Heap.get?_update_self (Obj.mapSeq (fun _ => (#[] : Array Value))) hS rfl
  refine wpAny_bind (wpAny_letGo ?_)
  refine its_extend (A := A.in1) W hne hn .none _ (j _ (fun b o e => ?_) ?_) hS2 fun s' out c fi hl hs => ⟨rfl, hQ s' out c fi hl hs⟩
  · exact (Heap.get?_update_other _ _ (Nat.ne_of_gt (Heap.lt_size e))).trans (Heap.get?_push_of_some _ e)
  · exact Heap.lt_size hS2
/-- the items of z, by a list that goes -/
theorem its_collect {Q : List Value → Shared → Prop} (W : ItS prog w A.in1 I n s.heap.objs.size J Fi) (hI : I < s.heap.objs.size) (hn : n ≤ sizeLine) (j : ∀ h', (∀ b o, s.heap.get? b = some o → h'.get? b = some o) → s.heap.objs.size < h'.objs.size → J 0 [] { s with heap := h' })
    (hQ : ∀ s' out, Fi out s' → out.length = n → Q out s') : wpAny (model prog w) A (collect (.ref I)) Q E s := by
  unfold collect
  refine wpAny_bind (wpAny_runValue (codeAny_builtin PyProof.Rows.entry_proto_collect' ?_))
  rw [Around.under_plainId PySem.F.plain_proto_collect _]
  show wpAny _ A.in1 (newList [] >>= fun l => again (.builtin "list.__iadd__" ⟨[l, .ref I], []⟩)) _ _ s
  refine wpAny_bind (wpAny_newObj_type ?_)
  refine wpAny_pure ⟨plainId_quiet PySem.F.plain_list_iadd _, codeAny_builtin PyProof.Rows.entry_list_iadd' ?_⟩
  rw [Around.under_plainId PySem.F.plain_list_iadd _]
  have hS : (s.heap.push { cls := .type "list", data := .seq ([] : List Value).toArray }).get? s.heap.objs.size = some (lso [] 0) := Heap.get?_push_size _ rfl
  have hne : s.heap.objs.size ≠ I := Nat.ne_of_gt hI
  show wpAny _ A.in1 (Builtin.List.listExtendWith (.ref s.heap.objs.size) (.ref I) (.ref s.heap.objs.size)) _ _ _
  have key := its_extend (A := A) (s := { s with heap := s.heap.push { cls := .type "list", data := .seq ([] : List Value).toArray } }) (R := fun (r : Result) (s' : Shared) => ∃ out c, r = .ok (.ret (.ref s.heap.objs.size)) ∧ Fi out s' ∧ out.length = n ∧ s'.heap.get? s.heap.objs.size = some (lso out c))
    W hne hn (.ref s.heap.objs.size) 0 (j _ (fun b o e => Heap.get?_push_of_some _ e) (Heap.lt_size hS)) hS fun s' out c fi hl hs => ⟨out, c, rfl, fi, hl, hs⟩
  refine wpAny_mono key (fun r s' x => ?_) fun e s' x => ?_
  · cases r with
    | done f =>
      obtain ⟨out, c, e, fi, hl, hs⟩ := x
      cases e
      show wpAny _ A (load s.heap.objs.size >>= _) _ _ _
      refine wpAny_bind (wpAny_load hs (wpAny_pure ?_))
      show Q out.toArray.toList s'
      simpa using hQ s' out fi hl
    | again c1 =>
      refine ⟨x.1, codeAny_mono x.2 fun r s2 y => ?_⟩
      obtain ⟨out, c, rfl, fi, hl, hs⟩ := y
      show wpAny _ A (load s.heap.objs.size >>= _) _ _ _
      refine wpAny_bind (wpAny_load hs (wpAny_pure ?_))
      show Q out.toArray.toList s2
      simpa using hQ s2 out fi hl
  · obtain ⟨_, _, e', _⟩ := x
    cases e'
theorem its_tuple {Q : Value → Shared → Prop} (W : ItS prog w A.in1.in1.in1 I n s.heap.objs.size J Fi) (hI : I < s.heap.objs.size) (hn : n ≤ sizeLine) (f4 : s.TypeIs (.ref I) "zip") (j : ∀ h', (∀ b o, s.heap.get? b = some o → h'.get? b = some o) → s.heap.objs.size < h'.objs.size → J 0 [] { s with heap := h' })
    (hQ : ∀ s' out, Fi out s' → out.length = n → Q (.ref s'.heap.objs.size) { s' with heap := s'.heap.push { cls := .type "tuple", data := .seq out.toArray } }) : wpAny (model prog w) A (call (.type "tuple") [.ref I]) Q E s := by
  have hnew : codeAny (model prog w) A.in1 (.call (.builtin "tuple.__new__") ⟨[.type "tuple", .ref I], []⟩) (wants (fun obj s1 => s1.TypeIs obj "tuple" ∧ Q obj s1) E) s := by
    refine codeAny_of_tree ?_
    show wpAny _ A.in1.in1 (do checkBuiltinCall "tuple.__new__" ⟨[.type "tuple", .ref I], []⟩; again (.builtin "tuple.__new__" ⟨[.type "tuple", .ref I], []⟩)) _ _ s
    refine wpAny_bind (wpAny_of_eq (PySem.F.newCall_tuple_1 _) (wpAny_pure ⟨plainId_quiet PySem.F.plain_tuple_new _, codeAny_builtin PySem.F.entry_tuple_new ?_⟩))
    rw [Around.under_plainId PySem.F.plain_tuple_new _]
    have f1 := sub_tuple_self
    have f2 := init_tuple_lookup
    have f3 := madeHere_tuple
    wp_walk using wpAny_typeOf f4, its_collect W hI hn j
    intro s' out fi hl
    show wpAny _ _ (Builtin.Tuple.tupleExact out.toArray >>= fun v => ret v) _ _ _
    unfold Builtin.Tuple.tupleExact
    refine wpAny_bind (wpAny_newObj_type ?_ (by show out.toArray.size ≤ sizeLine; rw [List.size_toArray, hl]; exact hn))
    refine wpAny_pure ?_
    exact ⟨⟨_, Heap.get?_push_size _ rfl, rfl⟩, hQ s' out fi hl⟩
  refine callType_codes (Q₁ := fun obj s1 => s1.TypeIs obj "tuple" ∧ Q obj s1) PySem.F.called_tuple (PySem.F.typeCall_tuple_1 _) PySem.F.entry_object_init hnew fun obj s1 h1 => ?_
  exact ⟨h1.1, PySem.F.args_object_init_2 obj _, object_init_meets PySem.F.called_tuple.init.lookup PySem.F.called_tuple.made (by decide) prog w A.in1 _ s1 ⟨h1.1, rfl, h1.2⟩⟩
end
end TB

namespace TB
open PySem L2
/-- a row that iterators go through: a list or a tuple -/
structure RowG (r : Addr) (its : Array Value) (o : Obj) (G : Heap → Prop) (M : Addr → Nat → Heap → Prop) : Prop where
  beg : Begins (.ref r) o G
  drw : ∀ (prog : Program) (w : World) (A : Around) (it : Addr), A.handled = none → r ≠ it → Draws prog w A it [it, r] its.size (fun i v => its[i]? = some v) (M it)
  st0 : ∀ it h, h.get? it = some o → G h → M it 0 h
  sz : its.size ≤ sizeLine
theorem rowG {X : Cx} {pins : List (Addr × Obj)} {σ : L2.St} {H : Hp} {s : Shared} {r : Addr} {xs : List V} (I : Inv X pins σ H s) (h : SqL X.K H r xs ∨ SqT X.K H r xs) : ∃ its o G M, Vals xs its ∧ RowG r its.toArray o G M ∧ G s.heap ∧ r < s.heap.objs.size := by
  rcases h with h | h
  · obtain ⟨its, rv, p, hz⟩ := I.list h
    have hl : s.heap.IsList r its.toArray := by
      obtain ⟨o, n, e1, e2, _, e3⟩ := p
      exact ⟨o, e1, e2, n, e3⟩
    refine ⟨its, _, _, fun it i h => h.IsListIter it r i ∧ h.IsList r its.toArray, rv, ⟨begins_list r its.toArray, fun prog w A it hh hne => Draws.list hh it r hne its.toArray, fun it h e g => ⟨⟨_, e, rfl, rfl⟩, g⟩, ?_⟩, hl, ?_⟩
    · rw [List.size_toArray, ← rv.length]; exact hz
    · obtain ⟨o, e1, _⟩ := hl
      exact Heap.lt_size e1
  · obtain ⟨its, rv, p, hz⟩ := I.tuple h
    have hl : s.heap.IsTuple r its.toArray := by
      obtain ⟨o, e1, e2, e3⟩ := p
      exact ⟨o, e1, e2, e3⟩
    refine ⟨its, _, _, fun it i h => h.IsTupleIter it r i ∧ h.IsTuple r its.toArray, rv, ⟨begins_tuple r its.toArray, fun prog w A it hh hne => Draws.tuple hh it r hne its.toArray, fun it h e g => ⟨⟨_, e, rfl, rfl⟩, g⟩, ?_⟩, hl, ?_⟩
    · rw [List.size_toArray, ← rv.length]; exact hz
    · obtain ⟨o, e1, _⟩ := hl
      exact Heap.lt_size e1
/-- the three rows side by side -/
def zip3D (as bs cs : List D) : List D := (List.range as.length).map fun i => .tuple [as.getD i .none, bs.getD i .none, cs.getD i .none]
theorem zip3_take {as bs cs : List D} {i : Nat} (h : i < as.length) : (zip3D as bs cs).take (i + 1) = (zip3D as bs cs).take i ++ [.tuple [as.getD i .none, bs.getD i .none, cs.getD i .none]] := by
  have hl : i < (zip3D as bs cs).length := by unfold zip3D; rw [List.length_map, List.length_range]; exact h
  rw [List.take_succ, List.getElem?_eq_getElem hl]
  unfold zip3D
  simp
section
variable {X : Cx} {pins : List (Addr × Obj)} {σ : L2.St} {F H : Hp} {s0 : Shared}
/-- while zip(*rows) is gone through: z's cells lie at N .. N + 5, the list that is filled at N + 6 -/
structure ZJ (X : Cx) (pins : List (Addr × Obj)) (σ : L2.St) (F H : Hp) (N : Nat) (ds : List D) (M1 M2 M3 : Addr → Nat → Heap → Prop) (i : Nat) (out : List Value) (s : Shared) : Prop where
  ex : ∃ F' H' vs, Inv X pins σ H' s ∧ Fz F H F' H' ∧ Vals vs out ∧ DpAll X.K F' vs (ds.take i) ∧ ∀ c, N ≤ c → c ≤ N + 6 → H' c = none
  sz : N + 7 ≤ s.heap.objs.size
  ti : IsTupOf3 s.heap (N + 3) (.ref N) (.ref (N + 1)) (.ref (N + 2))
  m1 : M1 N i s.heap
  m2 : M2 (N + 1) i s.heap
  m3 : M3 (N + 2) i s.heap
  st : (i = 0 ∧ IsZip s.heap (N + 5) (N + 3) (N + 4) .none ∧ IsTupOf3 s.heap (N + 4) .none .none .none) ∨ (0 < i ∧ ∃ T f oT, N + 7 ≤ T ∧ IsZipHeld s.heap (N + 5) (N + 3) (N + 4) T f ∧ s.heap.get? T = some oT)
def ZF (X : Cx) (pins : List (Addr × Obj)) (σ : L2.St) (F H : Hp) (N : Nat) (ds : List D) (out : List Value) (s : Shared) : Prop :=
  ∃ F' H' vs, Inv X pins σ H' s ∧ Fz F H F' H' ∧ Vals vs out ∧ DpAll X.K F' vs ds ∧ ∀ c, N ≤ c → c ≤ N + 6 → H' c = none
theorem z3_its {A : Around} (hA : A.handled = none) (I0 : Inv X pins σ H s0) (exF : Ex F H) {r1 r2 r3 : Addr} {i1 i2 i3 : List Value} {o1 o2 o3 : Obj} {G1 G2 G3 : Heap → Prop} {M1 M2 M3 : Addr → Nat → Heap → Prop}
    (R1 : RowG r1 i1.toArray o1 G1 M1) (R2 : RowG r2 i2.toArray o2 G2 M2) (R3 : RowG r3 i3.toArray o3 G3 M3) (b1 : r1 < s0.heap.objs.size) (b2 : r2 < s0.heap.objs.size) (b3 : r3 < s0.heap.objs.size)
    {v1 v2 v3 : List V} {as bs cs : List D} (e1 : Vals v1 i1) (e2 : Vals v2 i2) (e3 : Vals v3 i3) (d1 : DpAll X.K F v1 as) (d2 : DpAll X.K F v2 bs) (d3 : DpAll X.K F v3 cs) (hb : bs.length = as.length) (hc : cs.length = as.length) :
    ItS X.prog X.w A (s0.heap.objs.size + 5) as.length (s0.heap.objs.size + 6) (ZJ X pins σ F H s0.heap.objs.size (zip3D as bs cs) M1 M2 M3) (ZF X pins σ F H s0.heap.objs.size (zip3D as bs cs)) := by
  have hS := zip_sep3 (N := s0.heap.objs.size) (fp1 := [r1]) (fp2 := [r2]) (fp3 := [r3]) (fun b h => by rw [List.mem_singleton.mp h]; exact b1) (fun b h => by rw [List.mem_singleton.mp h]; exact b2) (fun b h => by rw [List.mem_singleton.mp h]; exact b3)
  have D1 := R1.drw X.prog X.w A.in1 s0.heap.objs.size hA (Nat.ne_of_lt b1)
  have D2 := R2.drw X.prog X.w A.in1 (s0.heap.objs.size + 1) hA (Nat.ne_of_lt (Nat.lt_succ_of_lt b2))
  have D3 := R3.drw X.prog X.w A.in1 (s0.heap.objs.size + 2) hA (Nat.ne_of_lt (Nat.lt_succ_of_lt (Nat.lt_succ_of_lt b3)))
  have z1 : i1.toArray.size = as.length := by rw [List.size_toArray, ← e1.length, da_len d1]
  have z2 : i2.toArray.size = as.length := by rw [List.size_toArray, ← e2.length, da_len d2, hb]
  have z3 : i3.toArray.size = as.length := by rw [List.size_toArray, ← e3.length, da_len d3, hc]
  generalize hN : s0.heap.objs.size = N at *
  have fp : ∀ {H' : Hp} {c : Addr}, N ≤ c → c ≤ N + 6 → (∀ c, N ≤ c → c ≤ N + 6 → H' c = none) → FpOk X pins H' c := fun h1 h2 h3 => I0.fpOk (by rw [hN]; exact h1) (h3 _ h1 h2)
  -- one turn, the tuple's cell and what else has changed being told
  have turn : ∀ {i : Nat} {out : List Value} {s : Shared} {h' : Heap} {tk : Nat} {x1 x2 x3 : Value}, ZJ X pins σ F H N (zip3D as bs cs) M1 M2 M3 i out s → i < as.length → i1.toArray[i]? = some x1 → i2.toArray[i]? = some x2 → i3.toArray[i]? = some x3 →
      IsTupOf3 h' s.heap.objs.size x1 x2 x3 → h'.objs.size = s.heap.objs.size + 1 → (∀ c o, c ≠ N + 5 → c ≠ N + 4 → c ≠ N → c ≠ N + 1 → c ≠ N + 2 → s.heap.get? c = some o → h'.get? c = some o) → M1 N (i + 1) h' → M2 (N + 1) (i + 1) h' → M3 (N + 2) (i + 1) h' →
      (∃ T f oT, N + 7 ≤ T ∧ IsZipHeld h' (N + 5) (N + 3) (N + 4) T f ∧ h'.get? T = some oT) → ZJ X pins σ F H N (zip3D as bs cs) M1 M2 M3 (i + 1) (out ++ [.ref s.heap.objs.size]) { s with heap := h', toks := tk } := by
    intro i out s h' tk x1 x2 x3 j hi q1 q2 q3 hT hz hk m1 m2 m3 hq
    obtain ⟨F', H', vs, I, z, rv, da, nt⟩ := j.ex
    have hsz := j.sz
    have get : ∀ {v : List V} {its : List Value} {es : List D} {x : Value}, Vals v its → DpAll X.K F v es → es.length = as.length → its.toArray[i]? = some x → ∃ y, RelV y x ∧ Dp X.K F' y (es.getD i .none) := fun {v its es x} ev dv el hx => by
      have hie : i < es.length := by omega
      obtain ⟨y, hy, dy⟩ := da_get dv (List.getElem?_eq_getElem hie)
      obtain ⟨u, hu, ru⟩ := ev.get hy
      have hu' : its.toArray[i]? = some u := by simpa using hu
      rw [hu'] at hx
      cases hx
      refine ⟨y, ru, ?_⟩
      rw [List.getD_eq_getElem?_getD, List.getElem?_eq_getElem hie]
      exact dp_ex z.f _ _ dy
    obtain ⟨y1, ry1, dy1⟩ := get e1 d1 rfl q1
    obtain ⟨y2, ry2, dy2⟩ := get e2 d2 hb q2
    obtain ⟨y3, ry3, dy3⟩ := get e3 d3 hc q3
    have hfr : H' s.heap.objs.size = none := I.hok.fresh (Nat.le_refl _)
    have new : ObjOk X.prog X.w (upd H' s.heap.objs.size (.tup [y1, y2, y3])) h' s.heap.objs.size (.tup [y1, y2, y3]) := ⟨by show 3 ≤ sizeLine; decide, [x1, x2, x3], .cons ry1 (.cons ry2 (.cons ry3 .nil)), ⟨_, hT, rfl, _, rfl⟩⟩
    have I1 : Inv X pins σ (upd H' s.heap.objs.size (.tup [y1, y2, y3])) { s with heap := h', toks := tk } :=
      I.turnedNew (ch := [N + 5, N + 4, N, N + 1, N + 2]) (fun c o hb q => hk c o (fun q' => hb (by simp [q'])) (fun q' => hb (by simp [q'])) (fun q' => hb (by simp [q'])) (fun q' => hb (by simp [q'])) (fun q' => hb (by simp [q'])) q)
        (fun c hc => by
          have hc' : c = N + 5 ∨ c = N + 4 ∨ c = N ∨ c = N + 1 ∨ c = N + 2 := by simpa using hc
          refine fp ?_ ?_ nt
          · rcases hc' with q | q | q | q | q <;> rw [q] <;> first | exact Nat.le_refl _ | exact Nat.le_add_right _ _
          · rcases hc' with q | q | q | q | q <;> rw [q] <;> first | exact Nat.le_add_right _ _ | exact Nat.add_le_add_left (by decide) _) (Nat.le_refl _) new
    have zn := Fz.new (F := F') (H := H') (o := .tup [y1, y2, y3]) z.s hfr
    refine ⟨⟨upd F' s.heap.objs.size (.tup [y1, y2, y3]), _, vs ++ [.ref s.heap.objs.size], I1, z.trans zn, rv.append (.cons (show RelV (V.ref _) (Value.ref _) from rfl) .nil), ?_, fun c h1 h2 => ?_⟩, ?_, ?_, m1, m2, m3, .inr ⟨Nat.succ_pos _, hq⟩⟩
    · rw [zip3_take hi]
      exact da_app (da_ex zn.f _ _ da) (.cons (.tup (SqT.of upd_same) (da_ex zn.f _ _ (.cons dy1 (.cons dy2 (.cons dy3 .nil))))) .nil)
    · have : c ≠ s.heap.objs.size := Nat.ne_of_lt (by have e : c ≤ N + 6 := h2; omega)
      rw [upd_ne this]
      exact nt c h1 h2
    · show N + 7 ≤ h'.objs.size
      omega
    · exact hk _ _ (Nat.ne_of_lt (Nat.add_lt_add_left (by decide) N)) (Nat.ne_of_lt (Nat.add_lt_add_left (by decide) N)) (Nat.ne_of_gt (Nat.lt_add_of_pos_right (by decide))) (Nat.ne_of_gt (Nat.add_lt_add_left (by decide) N)) (Nat.ne_of_gt (Nat.add_lt_add_left (by decide) N)) j.ti
  refine ⟨fun i out s h' j k hz => ?_, fun i out s Q E hi j hQ => ?_, fun out s Q E j hQ => ?_, fun A' s Q E j hQ => ?_, fun s j => ?_⟩
  · obtain ⟨F', H', vs, I, z, rv, da, nt⟩ := j.ex
    have ne : ∀ {c : Addr}, c < N + 6 → c ≠ N + 6 := fun h => Nat.ne_of_lt h
    have l5 : ∀ {m : Nat}, m < 6 → N + m ≠ N + 6 := fun h => ne (Nat.add_lt_add_left h N)
    have low : ∀ {r it : Addr}, r < N → it ≠ N + 6 → ∀ b ∈ [it, r], ∀ o, s.heap.get? b = some o → h'.get? b = some o := fun hr hit b hb o e => by
      rcases List.mem_cons.mp hb with rfl | hb
      · exact k _ o hit e
      · rw [List.mem_singleton.mp hb] at e ⊢
        exact k _ o (Nat.ne_of_lt (Nat.lt_of_lt_of_le hr (Nat.le_add_right _ _))) e
    refine ⟨⟨F', H', vs, I.turnedL (t' := s.toks) (ch := [N + 6]) (fun b o hb e => k b o (fun q => hb (by simp [q])) e) (fun b hb => ?_), z, rv, da, nt⟩, Nat.le_trans j.sz hz, k _ _ (l5 (by decide)) j.ti, D1.frame _ _ _ j.m1 (low b1 (ne (Nat.lt_add_of_pos_right (by decide)))), D2.frame _ _ _ j.m2 (low b2 (l5 (by decide))), D3.frame _ _ _ j.m3 (low b3 (l5 (by decide))), ?_⟩
    · rw [List.mem_singleton.mp hb]
      exact fp (Nat.le_add_right _ _) (Nat.le_refl _) nt
    · rcases j.st with ⟨h1, h2, h3⟩ | ⟨h0, T, f, oT, h1, h2, h3⟩
      · exact .inl ⟨h1, k _ _ (l5 (by decide)) h2, k _ _ (l5 (by decide)) h3⟩
      · exact .inr ⟨h0, T, f, oT, h1, k _ _ (l5 (by decide)) h2, k _ _ (Nat.ne_of_gt h1) h3⟩
  · have n6 : ∀ {m : Nat}, m < 6 → N + 6 ≠ N + m := fun h => Nat.ne_of_gt (Nat.add_lt_add_left h N)
    have n0 : N + 6 ≠ N := Nat.ne_of_gt (Nat.lt_add_of_pos_right (by decide))
    have ng : ∀ {T m : Nat}, N + 7 ≤ T → m < 7 → T ≠ N + m := fun h1 h => Nat.ne_of_gt (Nat.lt_of_lt_of_le (Nat.add_lt_add_left h N) h1)
    have ng0 : ∀ {T : Nat}, N + 7 ≤ T → T ≠ N := fun h1 => Nat.ne_of_gt (Nat.lt_of_lt_of_le (Nat.lt_add_of_pos_right (by decide)) h1)
    rcases j.st with ⟨h1, h2, h3⟩ | ⟨h0, T, f, oT, h1, h2, h3⟩
    · refine wpAny_pyNext_zipD3_item hS D1 D2 D3 h2 j.ti h3 j.m1 j.m2 j.m3 (by omega) (by omega) (by omega) fun x1 x2 x3 h' tk p1 p2 p3 a1 a2 m1 m2 m3 a3 a4 a5 => ?_
      exact hQ _ _ (turn (h' := h') (tk := tk) j hi p1 p2 p3 a3 a4 a5 m1 m2 m3 ⟨_, false, _, j.sz, a1, a3⟩) fun o e => a5 _ o (n6 (by decide)) (n6 (by decide)) n0 (n6 (by decide)) (n6 (by decide)) e
    · refine z3_next hS D1 D2 D3 h2 h3 j.ti j.m1 j.m2 j.m3 (by omega) (by omega) (by omega) fun x1 x2 x3 h' tk p1 p2 p3 a1 m1 m2 m3 a3 a4 a5 => ?_
      exact hQ _ _ (turn (h' := h') (tk := tk) j hi p1 p2 p3 a3 a4 (fun c o c1 _ c3 c4 c5 e => a5 c o c1 c3 c4 c5 e) m1 m2 m3 ⟨T, true, oT, h1, a1, a5 _ _ (ng h1 (by decide)) (ng0 h1) (ng h1 (by decide)) (ng h1 (by decide)) h3⟩) fun o e => a5 _ o (n6 (by decide)) n0 (n6 (by decide)) (n6 (by decide)) e
  · have n6 : ∀ {m : Nat}, m < 6 → N + 6 ≠ N + m := fun h => Nat.ne_of_gt (Nat.add_lt_add_left h N)
    have n0 : N + 6 ≠ N := Nat.ne_of_gt (Nat.lt_add_of_pos_right (by decide))
    have fin : ∀ {h' : Heap} {tk : Nat}, (∀ c o, c ≠ N + 5 → c ≠ N + 4 → c ≠ N → c ≠ N + 1 → c ≠ N + 2 → s.heap.get? c = some o → h'.get? c = some o) → ZF X pins σ F H N (zip3D as bs cs) out { s with heap := h', toks := tk } := fun {h' tk} hk => by
      obtain ⟨F', H', vs, I, z, rv, da, nt⟩ := j.ex
      refine ⟨F', H', vs, ?_, z, rv, ?_, nt⟩
      · exact I.turnedL (ch := [N + 5, N + 4, N, N + 1, N + 2]) (fun c o hb q => hk c o (fun q' => hb (by simp [q'])) (fun q' => hb (by simp [q'])) (fun q' => hb (by simp [q'])) (fun q' => hb (by simp [q'])) (fun q' => hb (by simp [q'])) q)
          (fun c hc => by
            have hc' : c = N + 5 ∨ c = N + 4 ∨ c = N ∨ c = N + 1 ∨ c = N + 2 := by simpa using hc
            refine fp ?_ ?_ nt
            · rcases hc' with q | q | q | q | q <;> rw [q] <;> first | exact Nat.le_refl _ | exact Nat.le_add_right _ _
            · rcases hc' with q | q | q | q | q <;> rw [q] <;> first | exact Nat.le_add_right _ _ | exact Nat.add_le_add_left (by decide) _)
      · have e : (zip3D as bs cs).take as.length = zip3D as bs cs := List.take_of_length_le (by unfold zip3D; rw [List.length_map, List.length_range]; exact Nat.le_refl _)
        rw [e] at da
        exact da
    rcases j.st with ⟨h1, h2, h3⟩ | ⟨h0, T, f, oT, h1, h2, h3⟩
    · refine wpAny_pyNext_zipD3_end hS D1 D2 D3 h2 j.ti h3 j.m1 j.m2 j.m3 (by omega) (by omega) (by omega) (.inl (by omega)) fun h' tk a5 => ?_
      exact hQ _ (fin (tk := tk) a5) fun o e => a5 _ o (n6 (by decide)) (n6 (by decide)) n0 (n6 (by decide)) (n6 (by decide)) e
    · refine z3_stop hS D1 h2 h3 j.ti (by rw [z1]; exact j.m1) fun h' a5 => ?_
      exact hQ _ (fin (tk := s.toks) fun c o c1 _ c3 _ _ e => a5 c o c1 c3 e) fun o e => a5 _ o (n6 (by decide)) n0 e
  · rcases j.st with ⟨h1, h2, h3⟩ | ⟨h0, _⟩
    · exact wpAny_pyIter_zip h2 hQ
    · exact absurd h0 (Nat.lt_irrefl _)
  · rcases j.st with ⟨h1, h2, h3⟩ | ⟨h0, _⟩
    · exact ⟨_, h2, rfl⟩
    · exact absurd h0 (Nat.lt_irrefl _)
end
end TB
namespace TB
open PySem L2
section
variable {X : Cx} {W : WX} {F0 H0 : Hp} {Γ : List S} {e : Expr} {p p2 p3 pos pos2 : Pos} {d r1 r2 r3 : D} {as bs cs : List D}
theorem sqD_ref {K : PySem.W.Frag} {F H : Hp} {v : V} {d : D} {ds : List D} (e : Ex F H) (sq : SqD d ds) (h : Dp K F v d) : ∃ a xs, v = .ref a ∧ (SqL K H a xs ∨ SqT K H a xs) ∧ DpAll K F xs ds := by
  rcases sq with rfl | rfl
  · cases h with
    | tup h1 h2 => exact ⟨_, _, rfl, .inr (st_ex e h1), h2⟩
  · cases h with
    | lst h1 h2 => exact ⟨_, _, rfl, .inl (sl_ex e h1), h2⟩
/-- the call of a type with *e -/
theorem callT_star {M : Model} {A : Around} {E : Value → Shared → Prop} {s : Shared} {T : String} {env : Env} {e : Expr} {p pos : Pos} {Q : Value → Shared → Prop}
    (h : wpAny M A (eval e env) (fun v s1 => PySem.W.StarOf M A E v (fun vs s2 => wpAny M A (call (.type T) vs) Q E s2) s1) E s) (he : starEach [.Starred e p] env = [(true, eval e env)]) :
    wpAny M A (callWith pos (.type T) [] (backTo pos (starEach [.Starred e p] env)) []) Q E s := by
  rw [he]
  refine PySem.W.ks_call (P := fun _ => True) rfl (fun h _ => ⟨.machine, .inr (.inl rfl), PySem.W.Looks.of_pure rfl⟩) (PySem.W.ks_lone ?_)
  refine wpAny_mono h (fun v s1 g => ?_) fun _ _ x => x
  unfold PySem.W.StarOf at g ⊢
  refine wpAny_mono g (fun b s2 g2 => ⟨g2.1, wpAny_mono g2.2 (fun vs s3 g3 => ⟨trivial, g3⟩) fun _ _ x => x⟩) fun _ _ x => x
/-- zip(*e) of three rows, ahead of what goes through it -/
theorem zip3_made {pins : List (Addr × Obj)} {s : Shared} {σ : L2.St} {H : Hp} {Q : Value → Shared → Prop} (hc : X.calm = true) (I : Inv X pins σ H s) (sq : SqD d [r1, r2, r3]) (q1 : SqD r1 as) (q2 : SqD r2 bs) (q3 : SqD r3 cs) (hb : bs.length = as.length) (hd : cs.length = as.length) (hm : X.mg "zip" = none) (hg : Gl X "zip") (he : JE X WF F0 H0 Γ e (.v d)) {F : Hp} (ok : Ok X.K F0 H0 F σ H Γ)
    (hst : starEach [.Starred e p3] X.env = [(true, eval e X.env)])
    (hQ : ∀ (F1 H1 : Hp) (s1 : Shared) (h' : Heap) (J : Nat → List Value → Shared → Prop), Fz F H F1 H1 → Inv X pins σ H1 s1 → as.length ≤ sizeLine → h'.objs.size = s1.heap.objs.size + 6 → (∀ c o, s1.heap.get? c = some o → h'.get? c = some o) →
      (∀ A : Around, A.handled = none → ItS X.prog X.w A (s1.heap.objs.size + 5) as.length (s1.heap.objs.size + 6) J (ZF X pins σ F1 H1 s1.heap.objs.size (zip3D as bs cs))) → ({ s1 with heap := h' } : Shared).TypeIs (.ref (s1.heap.objs.size + 5)) "zip" →
      (∀ h2, (∀ c o, h'.get? c = some o → h2.get? c = some o) → h'.objs.size < h2.objs.size → J 0 [] { s1 with heap := h2 }) → Q (.ref (s1.heap.objs.size + 5)) { s1 with heap := h' }) :
    wpAny (model X.prog X.w) X.A (eval (.Call (.Name "zip" p2) [.Starred e p3] [] pos2) X.env) Q X.xe s := by
  refine wpAny_Call_Name_kw (ld_blt I hg hm PyProof.Rows.boot_zip ?_)
  refine callT_star (thn (he.run pins s σ H (fun v H1 => ∃ F1, Fz F H F1 H1 ∧ Dp X.K F1 v d) I ⟨F, ok, fun v F1 H1 z1 dp => ⟨F1, z1, dp⟩⟩) fun u s1 g => ?_) hst
  obtain ⟨v, H1, I1, rv, F1, z1, dp⟩ := g
  obtain ⟨a, xs, rfl, hs, da⟩ := sqD_ref z1.s sq dp
  obtain rfl : u = Value.ref a := rv
  refine StX.star_any I1 hs.symm fun us s2 I2 ru => ?_
  cases da with | cons x1 da =>
  cases da with | cons x2 da =>
  cases da with | cons x3 da =>
  cases da
  obtain ⟨a1, y1, rfl, hs1, da1⟩ := sqD_ref z1.s q1 x1
  obtain ⟨a2, y2, rfl, hs2, da2⟩ := sqD_ref z1.s q2 x2
  obtain ⟨a3, y3, rfl, hs3, da3⟩ := sqD_ref z1.s q3 x3
  cases ru with | cons w1 ru =>
  cases ru with | cons w2 ru =>
  cases ru with | cons w3 ru =>
  cases ru
  cases w1; cases w2; cases w3
  obtain ⟨i1, o1, G1, M1, e1, R1, g1, b1⟩ := rowG I2 hs1
  obtain ⟨i2, o2, G2, M2, e2, R2, g2, b2⟩ := rowG I2 hs2
  obtain ⟨i3, o3, G3, M3, e3, R3, g3, b3⟩ := rowG I2 hs3
  refine zip_begins3 R1.beg R2.beg R3.beg g1 g2 g3 fun h' c1 c2 c3 c4 c5 c6 hz hk => ?_
  refine hQ F1 H1 s2 h' (ZJ X pins σ F1 H1 s2.heap.objs.size (zip3D as bs cs) M1 M2 M3) z1 I2 ?_ hz hk (fun A hA => z3_its hA I2 z1.s R1 R2 R3 b1 b2 b3 e1 e2 e3 da1 da2 da3 hb hd) ⟨_, c1, rfl⟩ fun h2 k2 z2 => ?_
  · rw [← da_len da1, e1.length, ← List.size_toArray]
    exact R1.sz
  · have I3 : Inv X pins σ H1 { s2 with heap := h2 } := I2.kept (t' := s2.toks) fun b o e => k2 _ _ (hk _ _ e)
    refine ⟨⟨F1, H1, [], I3, Fz.refl z1.s, .nil, .nil, fun c h1 _ => I2.hok.fresh h1⟩, ?_, k2 _ _ c2, R1.st0 _ _ (k2 _ _ c4) (R1.beg.keeps _ _ g1 fun b o e => k2 _ _ (hk _ _ e)), R2.st0 _ _ (k2 _ _ c5) (R2.beg.keeps _ _ g2 fun b o e => k2 _ _ (hk _ _ e)), R3.st0 _ _ (k2 _ _ c6) (R3.beg.keeps _ _ g3 fun b o e => k2 _ _ (hk _ _ e)), .inl ⟨rfl, k2 _ _ c1, k2 _ _ c3⟩⟩
    show _ ≤ h2.objs.size
    omega
/-- list(zip(*e)) -/
theorem je_listZip (hc : X.calm = true) (sq : SqD d [r1, r2, r3]) (q1 : SqD r1 as) (q2 : SqD r2 bs) (q3 : SqD r3 cs) (hb : bs.length = as.length) (hd : cs.length = as.length) (hm : X.mg "zip" = none) (hm2 : X.mg "list" = none) (he : JE X WF F0 H0 Γ e (.v d))
    (hg : Gl X "zip" := by rfl) (hg2 : Gl X "list" := by rfl) (hst : starEach [.Starred e p3] X.env = [(true, eval e X.env)] := by rfl)
    (hs : starEach [.Call (.Name "zip" p2) [.Starred e p3] [] pos2] X.env = (false, eval (.Call (.Name "zip" p2) [.Starred e p3] [] pos2) X.env) :: starEach [] X.env := by rfl) :
    JE X W F0 H0 Γ (.Call (.Name "list" p) [.Call (.Name "zip" p2) [.Starred e p3] [] pos2] [] pos) (.o (zip3D as bs cs)) := by
  refine ⟨fun pins s σ H Q I ⟨F, ok, hq⟩ => ?_⟩
  refine wpAny_Call_Name_kw (ld_blt I hg2 hm2 PyProof.Rows.boot_list ?_)
  refine PyProof.Rows.callWith_type1 ?_ hs rfl
  rw [hs]
  show wpAny _ _ (spliced ((false, eval (.Call (.Name "zip" p2) [.Starred e p3] [] pos2) X.env) :: backTo pos (starEach [] X.env))) _ _ s
  refine Calls.spliced_cons (zip3_made hc I sq q1 q2 q3 hb hd hm hg he ok hst fun F1 H1 s1 h' J z1 I1 hn hz hk W hT j => ?_)
  refine Calls.spliced_nil ?_
  have e6 : ({ s1 with heap := h' } : Shared).heap.objs.size = s1.heap.objs.size + 6 := hz
  refine its_list (J := J) (Fi := ZF X pins σ F1 H1 s1.heap.objs.size (zip3D as bs cs)) (s := { s1 with heap := h' }) (by rw [e6]; exact W _ (I1.ok.hd hc)) (by rw [e6]; exact Nat.lt_succ_self _) hn (fun h2 k2 z2 => j h2 k2 z2) fun s3 out c ⟨F3, H3, vs, I3, z3, rv, da, nt⟩ hl hS => ?_
  rw [e6] at hS ⊢
  have hN : H3 (s1.heap.objs.size + 6) = none := nt _ (Nat.le_add_right _ _) (Nat.le_refl _)
  have fp : FpOk X pins H3 (s1.heap.objs.size + 6) := I1.fpOk (Nat.le_add_right _ _) hN
  have new : ObjOk X.prog X.w (upd H3 (s1.heap.objs.size + 6) (.lst vs)) s3.heap (s1.heap.objs.size + 6) (.lst vs) := ⟨by rw [rv.length, hl]; exact hn, out, c, rv, hS⟩
  have I4 := I3.take (t' := s3.toks) (h' := s3.heap) (fun b o _ q => q) fp new
  have zz := z1.trans z3
  refine ⟨.ref _, _, I4, rfl, ?_⟩
  have hH : H (s1.heap.objs.size + 6) = none := zz.h.none hN
  exact hq _ vs F3 _ (zz.trans (Fz.fresh z3.s hN)) hH upd_same (z3.s.none hN) da
/-- tuple(zip(*e)) -/
theorem je_tupZip (hc : X.calm = true) (sq : SqD d [r1, r2, r3]) (q1 : SqD r1 as) (q2 : SqD r2 bs) (q3 : SqD r3 cs) (hb : bs.length = as.length) (hd : cs.length = as.length) (hm : X.mg "zip" = none) (hm2 : X.mg "tuple" = none) (he : JE X WF F0 H0 Γ e (.v d))
    (hg : Gl X "zip" := by rfl) (hg2 : Gl X "tuple" := by rfl) (hst : starEach [.Starred e p3] X.env = [(true, eval e X.env)] := by rfl)
    (hs : starEach [.Call (.Name "zip" p2) [.Starred e p3] [] pos2] X.env = (false, eval (.Call (.Name "zip" p2) [.Starred e p3] [] pos2) X.env) :: starEach [] X.env := by rfl) :
    JE X W F0 H0 Γ (.Call (.Name "tuple" p) [.Call (.Name "zip" p2) [.Starred e p3] [] pos2] [] pos) (.v (.tuple (zip3D as bs cs))) := by
  refine ⟨fun pins s σ H Q I ⟨F, ok, hq⟩ => ?_⟩
  refine wpAny_Call_Name_kw (ld_blt I hg2 hm2 PyProof.Rows.boot_tuple ?_)
  refine PyProof.Rows.callWith_type1 ?_ hs rfl
  rw [hs]
  show wpAny _ _ (spliced ((false, eval (.Call (.Name "zip" p2) [.Starred e p3] [] pos2) X.env) :: backTo pos (starEach [] X.env))) _ _ s
  refine Calls.spliced_cons (zip3_made hc I sq q1 q2 q3 hb hd hm hg he ok hst fun F1 H1 s1 h' J z1 I1 hn hz hk W hT j => ?_)
  refine Calls.spliced_nil ?_
  have e6 : ({ s1 with heap := h' } : Shared).heap.objs.size = s1.heap.objs.size + 6 := hz
  refine its_tuple (J := J) (Fi := ZF X pins σ F1 H1 s1.heap.objs.size (zip3D as bs cs)) (s := { s1 with heap := h' }) (by rw [e6]; exact W _ (I1.ok.hd hc)) (by rw [e6]; exact Nat.lt_succ_self _) hn hT (fun h2 k2 z2 => j h2 k2 z2) fun s3 out ⟨F3, H3, vs, I3, z3, rv, da, nt⟩ hl => ?_
  have hT3 : (s3.heap.push { cls := .type "tuple", data := .seq out.toArray }).get? s3.heap.objs.size = some { cls := .type "tuple", data := .seq out.toArray } := Heap.get?_push_size _ rfl
  have new : ObjOk X.prog X.w (upd H3 s3.heap.objs.size (.tup vs)) (s3.heap.push { cls := .type "tuple", data := .seq out.toArray }) s3.heap.objs.size (.tup vs) := ⟨by rw [rv.length, hl]; exact hn, out, rv, ⟨_, hT3, rfl, _, rfl⟩⟩
  have hN : H3 s3.heap.objs.size = none := I3.hok.fresh (Nat.le_refl _)
  have I4 := I3.turnedNew (t' := s3.toks) (ch := []) (h' := s3.heap.push { cls := .type "tuple", data := .seq out.toArray }) (fun b o _ q => Heap.get?_push_of_some _ q) (fun b hb => by cases hb) (Nat.le_refl _) new
  refine ⟨.ref _, _, I4, rfl, ?_⟩
  have zz := (z1.trans z3).trans (Fz.new (o := .tup vs) z3.s hN)
  exact hq _ _ _ zz (.tup (SqT.of upd_same) (da_ex (Fz.new z3.s hN).f _ _ da))
end
end TB

namespace TB
open PySem L2 PySem.Spec PyProof.Rows
/-! ### turns one behind another -/
def mulM : List (List Int) → List (List Int) → List (List Int)
  | [[a, b, c], [d, e, f], [g, h, i]], [[a', b', c'], [d', e', f'], [g', h', i']] =>
    [[a * a' + b * d' + c * g', a * b' + b * e' + c * h', a * c' + b * f' + c * i'], [d * a' + e * d' + f * g', d * b' + e * e' + f * h', d * c' + e * f' + f * i'], [g * a' + h * d' + i * g', g * b' + h * e' + i * h', g * c' + h * f' + i * i']]
  | _, _ => []
def trpL : List (List Int) → List (List Int)
  | [[a, b, c], [d, e, f], [g, h, i]] => [[a, d, g], [b, e, h], [c, f, i]]
  | _ => []
theorem nine {a b c d e f g h i a' b' c' d' e' f' g' h' i' : Int} (h1 : a = a') (h2 : b = b') (h3 : c = c') (h4 : d = d') (h5 : e = e') (h6 : f = f') (h7 : g = g') (h8 : h = h') (h9 : i = i') : [[a, b, c], [d, e, f], [g, h, i]] = [[a', b', c'], [d', e', f'], [g', h', i']] := by
  subst h1 h2 h3 h4 h5 h6 h7 h8 h9
  rfl
theorem mulM_times {A B : List (List Int)} (hA : form3 A = true) (hB : form3 B = true) (m n : Int) : mulM (A.map (timesL m)) (B.map (timesL n)) = (mulM A B).map (timesL (m * n)) := by
  obtain ⟨a, b, c, d, e, f, g, h, i, rfl⟩ := form3_rows hA
  obtain ⟨a', b', c', d', e', f', g', h', i', rfl⟩ := form3_rows hB
  have k : ∀ p q r x y z : Int, p * m * (x * n) + q * m * (y * n) + r * m * (z * n) = (p * x + q * y + r * z) * (m * n) := fun p q r x y z => by grind
  exact nine (k ..) (k ..) (k ..) (k ..) (k ..) (k ..) (k ..) (k ..) (k ..)
theorem mulM_form {A B : List (List Int)} (hA : form3 A = true) (hB : form3 B = true) : form3 (mulM A B) = true := by
  obtain ⟨a, b, c, d, e, f, g, h, i, rfl⟩ := form3_rows hA
  obtain ⟨a', b', c', d', e', f', g', h', i', rfl⟩ := form3_rows hB
  rfl
theorem rows_form {x : List Int} (h : x.length = 4) : form3 (rowsT x) = true := form3_iff.mpr ⟨(rot_len h).2, (rot_len h).1⟩
theorem turn_form {x : List Int} (hx : isNum x = true) (h0 : zeroB x = false) : form3 (turnR x) = true := (good_form (good_turn hx h0)).2
theorem turnS_pos {x : List Int} (hx : isNum x = true) (h0 : zeroB x = false) : 0 < turnS x := (good_form (good_turn hx h0)).1
theorem form_len {A : List (List Int)} (h : form3 A = true) : ∀ r ∈ A, r.length = 3 := (form3_iff.mp h).2
theorem sq_mul {x y : List Int} (hx : isNum x = true) (hy : isNum y = true) : sqS y * sqS x = 4 * sqS (mulL y x) := by
  obtain ⟨a, b, c, d, rfl, k⟩ := num_cases hx
  obtain ⟨e, f, g, h, rfl, l⟩ := num_cases hy
  obtain ⟨p, q, r, s, ⟨h1, h2, h3, h4⟩, _, e2⟩ := mul_pr l k
  rw [e2]
  show (e * e + (f * f + (g * g + (h * h + 0)))) * (a * a + (b * b + (c * c + (d * d + 0)))) = 4 * (p * p + (q * q + (r * r + (s * s + 0))))
  have k4 : 4 * (p * p + (q * q + (r * r + (s * s + 0)))) = (2 * p) * (2 * p) + (2 * q) * (2 * q) + (2 * r) * (2 * r) + (2 * s) * (2 * s) := by grind
  rw [k4, h1, h2, h3, h4]
  grind
theorem rows_mul {x y : List Int} (hx : isNum x = true) (hy : isNum y = true) : mulM (rowsT y) (rowsT x) = (rowsT (mulL y x)).map (timesL 4) := by
  obtain ⟨a, b, c, d, rfl, k⟩ := num_cases hx
  obtain ⟨e, f, g, h, rfl, l⟩ := num_cases hy
  obtain ⟨p, q, r, s, ⟨h1, h2, h3, h4⟩, _, e2⟩ := mul_pr l k
  rw [e2]
  have d1 : ∀ u v w z : Int, (u * u + v * v - w * w - z * z) * 4 = (2 * u) * (2 * u) + (2 * v) * (2 * v) - (2 * w) * (2 * w) - (2 * z) * (2 * z) := fun u v w z => by grind
  have d2 : ∀ u v w z : Int, (u * u - v * v + w * w - z * z) * 4 = (2 * u) * (2 * u) - (2 * v) * (2 * v) + (2 * w) * (2 * w) - (2 * z) * (2 * z) := fun u v w z => by grind
  have d3 : ∀ u v w z : Int, (u * u - v * v - w * w + z * z) * 4 = (2 * u) * (2 * u) - (2 * v) * (2 * v) - (2 * w) * (2 * w) + (2 * z) * (2 * z) := fun u v w z => by grind
  have o1 : ∀ u v w z : Int, 2 * (u * v - w * z) * 4 = 2 * ((2 * u) * (2 * v) - (2 * w) * (2 * z)) := fun u v w z => by grind
  have o2 : ∀ u v w z : Int, 2 * (u * v + w * z) * 4 = 2 * ((2 * u) * (2 * v) + (2 * w) * (2 * z)) := fun u v w z => by grind
  refine nine ?_ ?_ ?_ ?_ ?_ ?_ ?_ ?_ ?_
  · refine Eq.trans ?_ (d1 _ _ _ _).symm; rw [h1, h2, h3, h4]; grind
  · refine Eq.trans ?_ (o1 _ _ _ _).symm; rw [h1, h2, h3, h4]; grind
  · refine Eq.trans ?_ (o2 _ _ _ _).symm; rw [h1, h2, h3, h4]; grind
  · refine Eq.trans ?_ (o2 _ _ _ _).symm; rw [h1, h2, h3, h4]; grind
  · refine Eq.trans ?_ (d2 _ _ _ _).symm; rw [h1, h2, h3, h4]; grind
  · refine Eq.trans ?_ (o1 _ _ _ _).symm; rw [h1, h2, h3, h4]; grind
  · refine Eq.trans ?_ (o1 _ _ _ _).symm; rw [h1, h2, h3, h4]; grind
  · refine Eq.trans ?_ (o2 _ _ _ _).symm; rw [h1, h2, h3, h4]; grind
  · refine Eq.trans ?_ (d3 _ _ _ _).symm; rw [h1, h2, h3, h4]; grind
theorem zero_mul {x y : List Int} (hx : isNum x = true) (hy : isNum y = true) (zx : zeroB x = false) (zy : zeroB y = false) : zeroB (mulL y x) = false := by
  have p1 := Int.mul_pos (sq_pos hy zy) (sq_pos hx zx)
  rw [sq_mul hx hy] at p1
  cases q : zeroB (mulL y x) with
  | false => rfl
  | true =>
    exfalso
    have : sqS (mulL y x) = 0 := by
      unfold sqS
      have e : ∀ l : List Int, (∀ z ∈ l, z = 0) → (l.map fun p => p * p).sum = 0 := fun l => by
        induction l with
        | nil => intro _; rfl
        | cons a l ih =>
          intro h
          rw [List.map_cons, List.sum_cons, ih (fun z hz => h z (List.mem_cons_of_mem _ hz)), h a List.mem_cons_self]
          rfl
      exact e _ (zeroB_iff.mp q)
    omega
/-- one turn behind another is the turn of the product -/
theorem comp_turn {x y : List Int} (hx : isNum x = true) (hy : isNum y = true) (zx : zeroB x = false) (zy : zeroB y = false) :
    lowS (turnS x * turnS y) (mulM (turnR y) (turnR x)) = turnS (mulL y x) ∧ lowR (turnS x * turnS y) (mulM (turnR y) (turnR x)) = turnR (mulL y x) := by
  obtain ⟨gx, px, sx, rx⟩ := parts_of_turn hx zx
  obtain ⟨gy, py, sy, ry⟩ := parts_of_turn hy zy
  have fx := turn_form hx zx
  have fy := turn_form hy zy
  have e1 := mulM_times fy fx gy gx
  rw [← rx, ← ry, rows_mul hx hy] at e1
  have e2 : 4 * sqS (mulL y x) = gy * gx * (turnS x * turnS y) := by rw [← sq_mul hx hy, sx, sy]; grind
  have ps := Int.mul_pos (turnS_pos hx zx) (turnS_pos hy zy)
  have t1 := low_times (m := gy * gx) (form_len (mulM_form fy fx)) ps (Int.mul_pos py px)
  have hm := num_mul hy hx
  have t2 := low_times (m := 4) (form_len (rows_form (num_len hm))) (sq_pos hm (zero_mul hx hy zx zy)) (by decide)
  rw [← e1, ← e2, t2.1, t2.2] at t1
  exact ⟨t1.1.symm, t1.2.symm⟩
theorem gT_ext {s s' : Int} {A B : List (List Int)} (hA : ∀ r ∈ A, r.length = 3) (hB : ∀ r ∈ B, r.length = 3) (hs : 0 < s) (hs' : 0 < s') (h : ∀ m : Int, (m ∣ s ∧ ∀ r ∈ A, ∀ z ∈ r, m ∣ z) ↔ (m ∣ s' ∧ ∀ r ∈ B, ∀ z ∈ r, m ∣ z)) : gT s A = gT s' B := by
  obtain ⟨p1, p2, p3⟩ := gT_ok hA hs
  obtain ⟨q1, q2, q3⟩ := gT_ok hB hs'
  have a1 := (h (gT s A)).mp ⟨p2, p3⟩
  have a2 := (h (gT s' B)).mpr ⟨q2, q3⟩
  exact Int.dvd_antisymm (Int.le_of_lt p1) (Int.le_of_lt q1) (gT_great hB a1.1 a1.2) (gT_great hA a2.1 a2.2)
theorem trp_form {A : List (List Int)} (h : form3 A = true) : form3 (trpL A) = true := by
  obtain ⟨a, b, c, d, e, f, g, h, i, rfl⟩ := form3_rows h
  rfl
theorem trp_mem {A : List (List Int)} (h : form3 A = true) {P : Int → Prop} : (∀ r ∈ A, ∀ z ∈ r, P z) ↔ ∀ r ∈ trpL A, ∀ z ∈ r, P z := by
  obtain ⟨a, b, c, d, e, f, g, h, i, rfl⟩ := form3_rows h
  simp only [trpL, List.mem_cons, List.not_mem_nil, or_false, forall_eq_or_imp, forall_eq]
  constructor
  · rintro ⟨⟨h1, h2, h3⟩, ⟨h4, h5, h6⟩, h7, h8, h9⟩
    exact ⟨⟨h1, h4, h7⟩, ⟨h2, h5, h8⟩, h3, h6, h9⟩
  · rintro ⟨⟨h1, h2, h3⟩, ⟨h4, h5, h6⟩, h7, h8, h9⟩
    exact ⟨⟨h1, h4, h7⟩, ⟨h2, h5, h8⟩, h3, h6, h9⟩
theorem low_trp {s : Int} {A : List (List Int)} (h : form3 A = true) (hs : 0 < s) : lowS s (trpL A) = lowS s A ∧ lowR s (trpL A) = trpL (lowR s A) := by
  have e : gT s (trpL A) = gT s A := gT_ext (form_len (trp_form h)) (form_len h) hs hs fun m => by rw [trp_mem h]
  unfold lowS lowR
  rw [e]
  obtain ⟨a, b, c, d, e, f, g, h, i, rfl⟩ := form3_rows h
  exact ⟨rfl, rfl⟩
theorem rows_conj {x : List Int} (h : x.length = 4) : rowsT (conjL x) = trpL (rowsT x) ∧ sqS (conjL x) = sqS x := by
  obtain ⟨a, b, c, d, rfl⟩ := four h
  constructor
  · show rowsT [a, -b, -c, -d] = trpL (rowsT [a, b, c, d])
    exact nine (by grind) (by grind) (by grind) (by grind) (by grind) (by grind) (by grind) (by grind) (by grind)
  · show a * a + (-b * -b + (-c * -c + (-d * -d + 0))) = a * a + (b * b + (c * c + (d * d + 0)))
    grind
theorem turn_conj {x : List Int} (hx : isNum x = true) (h0 : zeroB x = false) : turnS (conjL x) = turnS x ∧ turnR (conjL x) = trpL (turnR x) := by
  unfold turnS turnR
  rw [(rows_conj (num_len hx)).1, (rows_conj (num_len hx)).2]
  exact low_trp (rows_form (num_len hx)) (sq_pos hx h0)
theorem zero_conj {x : List Int} (hx : isNum x = true) (h0 : zeroB x = false) : zeroB (conjL x) = false := by
  obtain ⟨a, b, c, d, rfl⟩ := four (num_len hx)
  cases q : zeroB (conjL [a, b, c, d]) with
  | false => rfl
  | true =>
    have h := zeroB_iff.mp q
    have h1 := h a (by simp [conjL])
    have h2 := h (-b) (by simp [conjL])
    have h3 := h (-c) (by simp [conjL])
    have h4 := h (-d) (by simp [conjL])
    have : zeroB [a, b, c, d] = true := zeroB_iff.mpr fun z hz => by
      simp only [List.mem_cons, List.not_mem_nil, or_false] at hz
      omega
    rw [h0] at this
    cases this
theorem turn_one {m : Int} (hm : m ≠ 0) : turnS [2 * m, 0, 0, 0] = 1 ∧ turnR [2 * m, 0, 0, 0] = [[1, 0, 0], [0, 1, 0], [0, 0, 1]] := by
  have e : [2 * m, 0, 0, 0] = timesL m [2, 0, 0, 0] := by
    show [2 * m, 0, 0, 0] = [2 * m, 0 * m, 0 * m, 0 * m]
    simp
  rw [e]
  obtain ⟨h1, h2⟩ := turn_times (m := m) (x := [2, 0, 0, 0]) hm (by decide) (by decide)
  rw [h1, h2]
  exact ⟨by decide, by decide⟩
/-- rows times a point -/
def tmL (rs : List (List Int)) (p : List Int) : List Int := rs.map fun r => r.getD 0 0 * p.getD 0 0 + r.getD 1 0 * p.getD 1 0 + r.getD 2 0 * p.getD 2 0
theorem tm_mul {A B : List (List Int)} (hA : form3 A = true) (hB : form3 B = true) (p : List Int) : tmL A (tmL B p) = tmL (mulM A B) p := by
  obtain ⟨a, b, c, d, e, f, g, h, i, rfl⟩ := form3_rows hA
  obtain ⟨a', b', c', d', e', f', g', h', i', rfl⟩ := form3_rows hB
  have k : ∀ p0 p1 p2 x y z a b c d e f g h i : Int, x * (a * p0 + b * p1 + c * p2) + y * (d * p0 + e * p1 + f * p2) + z * (g * p0 + h * p1 + i * p2) = (x * a + y * d + z * g) * p0 + (x * b + y * e + z * h) * p1 + (x * c + y * f + z * i) * p2 := fun _ _ _ _ _ _ _ _ _ _ _ _ _ _ _ => by grind
  show [_, _, _] = [_, _, _]
  congr 1
  · exact k ..
  congr 1
  · exact k ..
  congr 1
  exact k ..
theorem tm_times (A : List (List Int)) (m : Int) (hA : form3 A = true) (p : List Int) : tmL (A.map (timesL m)) p = timesL m (tmL A p) := by
  obtain ⟨a, b, c, d, e, f, g, h, i, rfl⟩ := form3_rows hA
  have k : ∀ x y z u v w : Int, x * m * u + y * m * v + z * m * w = (x * u + y * v + z * w) * m := fun x y z u v w => by grind
  show [_, _, _] = [_, _, _]
  congr 1
  · exact k ..
  congr 1
  · exact k ..
  congr 1
  exact k ..
end TB

namespace TB
open PySem L2 PySem.Spec PyProof.Rows
def R_inv (c : Addr) : List D → Out → Prop := RTq c fun s rs => .v (turnD s (trpL rs))
/-- two turns, one behind another -/
def R_comp (c : Addr) : List D → Out → Prop := fun ds o => ∃ d e, ds = [d, e] ∧ ((R_chkT c [d] (.x c) ∧ o = .x c) ∨ (R_chkT c [d] (.v .none) ∧ R_chkT c [e] (.x c) ∧ o = .x c) ∨
  ∃ s dr es rs s' dr' es' rs', SqD d [.int s, dr] ∧ TurnA s dr es rs ∧ SqD e [.int s', dr'] ∧ TurnA s' dr' es' rs' ∧ goodT s rs = true ∧ goodT s' rs' = true ∧ (∀ r ∈ rs, ∀ z ∈ r, Bt 190 z) ∧ (∀ r ∈ rs', ∀ z ∈ r, Bt 190 z) ∧ Bt 190 s ∧ Bt 190 s' ∧
    R_chkT c [d] (.v .none) ∧ R_chkT c [e] (.v .none) ∧ o = .v (turnD (lowS (s * s') (mulM rs' rs)) (lowR (s * s') (mulM rs' rs))))
theorem chk_of {c : Addr} {d : D} {s : Int} {dr : D} {es : List D} {rs : List (List Int)} (sq : SqD d [.int s, dr]) (ta : TurnA s dr es rs) (h : goodT s rs = true) : R_chkT c [d] (.v .none) := ⟨d, _, rfl, sq, .inr (.inr ⟨s, dr, es, rs, rfl, ta, by rw [if_pos h]⟩)⟩
theorem comp_of {c : Addr} {d e : D} {s s' : Int} {dr dr' : D} {es es' : List D} {rs rs' : List (List Int)} (sq : SqD d [.int s, dr]) (ta : TurnA s dr es rs) (sq' : SqD e [.int s', dr']) (ta' : TurnA s' dr' es' rs') (h : goodT s rs = true) (h' : goodT s' rs' = true)
    (b1 : ∀ r ∈ rs, ∀ z ∈ r, Bt 190 z) (b2 : ∀ r ∈ rs', ∀ z ∈ r, Bt 190 z) (b3 : Bt 190 s) (b4 : Bt 190 s') : R_comp c [d, e] (.v (turnD (lowS (s * s') (mulM rs' rs)) (lowR (s * s') (mulM rs' rs)))) :=
  ⟨d, e, rfl, .inr (.inr ⟨s, dr, es, rs, s', dr', es', rs', sq, ta, sq', ta', h, h', b1, b2, b3, b4, chk_of sq ta h, chk_of sq' ta' h', rfl⟩)⟩
theorem dt_row {p : List Int} (hp : p.length = 3) {A : List (List Int)} (hA : form3 A = true) {q : List (List Int)} : True := trivial
/-- the product of tables, as it is reckoned -/
theorem mulM_dt {A B : List (List Int)} (hA : form3 A = true) (hB : form3 B = true) : A.map (fun r => (trpL B).map fun c => dtL r c) = mulM A B := by
  obtain ⟨a, b, c, d, e, f, g, h, i, rfl⟩ := form3_rows hA
  obtain ⟨a', b', c', d', e', f', g', h', i', rfl⟩ := form3_rows hB
  exact nine (dot3 ..) (dot3 ..) (dot3 ..) (dot3 ..) (dot3 ..) (dot3 ..) (dot3 ..) (dot3 ..) (dot3 ..)
theorem bt_s3 {m : Nat} {p q r : Int} (h1 : Bt m p) (h2 : Bt m q) (h3 : Bt m r) : Bt (m + 2) (p + q + r) := by
  unfold Bt at *
  rw [Nat.pow_succ, Nat.pow_succ]
  omega
theorem mulM_b {A B : List (List Int)} (hA : form3 A = true) (hB : form3 B = true) {m n : Nat} (h1 : ∀ r ∈ A, ∀ z ∈ r, Bt m z) (h2 : ∀ r ∈ B, ∀ z ∈ r, Bt n z) : ∀ r ∈ mulM A B, ∀ z ∈ r, Bt (m + n + 2) z := by
  obtain ⟨a, b, c, d, e, f, g, h, i, rfl⟩ := form3_rows hA
  obtain ⟨a', b', c', d', e', f', g', h', i', rfl⟩ := form3_rows hB
  have x1 := h1 [a, b, c] (by simp)
  have x2 := h1 [d, e, f] (by simp)
  have x3 := h1 [g, h, i] (by simp)
  have y1 := h2 [a', b', c'] (by simp)
  have y2 := h2 [d', e', f'] (by simp)
  have y3 := h2 [g', h', i'] (by simp)
  have k : ∀ p q r x y z : Int, Bt m p → Bt m q → Bt m r → Bt n x → Bt n y → Bt n z → Bt (m + n + 2) (p * x + q * y + r * z) := fun p q r x y z a1 a2 a3 a4 a5 a6 => bt_s3 (bt_mul a1 a4) (bt_mul a2 a5) (bt_mul a3 a6)
  have l3 : ∀ {x p q z : Int} {P : Int → Prop}, z ∈ [x, p, q] → P x → P p → P q → P z := fun hz h1 h2 h3 => by
    simp only [List.mem_cons, List.not_mem_nil, or_false] at hz
    rcases hz with rfl | rfl | rfl <;> assumption
  intro r hr z hz
  simp only [mulM, List.mem_cons, List.not_mem_nil, or_false] at hr
  have t0 : ∀ {p q r : Int} {m : Nat}, (∀ z ∈ [p, q, r], Bt m z) → Bt m p ∧ Bt m q ∧ Bt m r := fun h => ⟨h _ (by simp), h _ (by simp), h _ (by simp)⟩
  obtain ⟨p1, p2, p3⟩ := t0 x1
  obtain ⟨p4, p5, p6⟩ := t0 x2
  obtain ⟨p7, p8, p9⟩ := t0 x3
  obtain ⟨q1, q2, q3⟩ := t0 y1
  obtain ⟨q4, q5, q6⟩ := t0 y2
  obtain ⟨q7, q8, q9⟩ := t0 y3
  rcases hr with rfl | rfl | rfl
  · exact l3 hz (k _ _ _ _ _ _ p1 p2 p3 q1 q4 q7) (k _ _ _ _ _ _ p1 p2 p3 q2 q5 q8) (k _ _ _ _ _ _ p1 p2 p3 q3 q6 q9)
  · exact l3 hz (k _ _ _ _ _ _ p4 p5 p6 q1 q4 q7) (k _ _ _ _ _ _ p4 p5 p6 q2 q5 q8) (k _ _ _ _ _ _ p4 p5 p6 q3 q6 q9)
  · exact l3 hz (k _ _ _ _ _ _ p7 p8 p9 q1 q4 q7) (k _ _ _ _ _ _ p7 p8 p9 q2 q5 q8) (k _ _ _ _ _ _ p7 p8 p9 q3 q6 q9)
/-- rows times a point, the law's -/
def R_law_tm : List D → Out → Prop := fun ds o => ∃ (e dr : D) (es : List D) (rs : List (List Int)) (p : List Int), ds = [dr, e] ∧ SqD dr es ∧ SeqAll es rs ∧ rs.length ≤ 10 ∧ (∀ r ∈ rs, 3 ≤ r.length ∧ ∀ z ∈ r, Bt 1000 z) ∧ Seq e p ∧ 3 ≤ p.length ∧ (∀ z ∈ p, Bt 1000 z) ∧ o = .o ((tmL rs p).map .int)
end TB
namespace TB
open PySem L2 PySem.Spec PyProof.Rows
theorem far_whole {x y p : List Int} (hx : isNum x = true) (hy : isNum y = true) (zx : zeroB x = false) (zy : zeroB y = false) (k : Nat) :
    (tmL (turnR y) (tmL (turnR x) p)).getD k 0 * turnS (mulL y x) = (tmL (turnR (mulL y x)) p).getD k 0 * turnS x * turnS y := by
  have fx := turn_form hx zx
  have fy := turn_form hy zy
  have ps := Int.mul_pos (turnS_pos hx zx) (turnS_pos hy zy)
  obtain ⟨e1, e2⟩ := low_back (form_len (mulM_form fy fx)) ps
  obtain ⟨c1, c2⟩ := comp_turn hx hy zx zy
  rw [c1] at e1
  rw [c2] at e2
  generalize gT (turnS x * turnS y) (mulM (turnR y) (turnR x)) = g at e1 e2
  have hm := num_mul hy hx
  have zm := zero_mul hx hy zx zy
  rw [tm_mul fy fx, e2, tm_times _ _ (turn_form hm zm)]
  generalize hW : tmL (turnR (mulL y x)) p = W
  have : (timesL g W).getD k 0 = W.getD k 0 * g := by
    unfold timesL
    rw [List.getD_eq_getElem?_getD, List.getD_eq_getElem?_getD, List.getElem?_map]
    cases W[k]? with
    | none => simp
    | some z => rfl
  rw [this, Int.mul_assoc (W.getD k 0) (turnS x), e1]
  grind
theorem tm_b {A : List (List Int)} {p : List Int} {m n : Nat} (hA : ∀ r ∈ A, r.length = 3) (hp : p.length = 3) (h1 : ∀ r ∈ A, ∀ z ∈ r, Bt m z) (h2 : ∀ z ∈ p, Bt n z) : (∀ z ∈ tmL A p, Bt (m + n + 2) z) ∧ (tmL A p).length = A.length := by
  refine ⟨fun z hz => ?_, by unfold tmL; rw [List.length_map]⟩
  obtain ⟨r, hr, rfl⟩ := List.mem_map.mp hz
  have hl := hA r hr
  exact bt_s3 (bt_mul (h1 r hr _ (getD_mem4 (by omega))) (h2 _ (getD_mem4 (by omega)))) (bt_mul (h1 r hr _ (getD_mem4 (by omega))) (h2 _ (getD_mem4 (by omega)))) (bt_mul (h1 r hr _ (getD_mem4 (by omega))) (h2 _ (getD_mem4 (by omega))))
end TB

namespace TB
open PySem L2 PySem.Spec PyProof.Rows
section
variable {X : Cx} {W : WX} {F0 H0 : Hp} {Γ : List S} {tg it : Expr} {body : List Stmt} {pos : Pos} {ds : List D}
theorem ex_le {Γ' Γ1 : List S} (B : JSs X W F0 H0 Γ1 body (.nx Γ')) (L : Le Γ' Γ) : ∃ Γ', JSs X W F0 H0 Γ1 body (.nx Γ') ∧ Le Γ' Γ := ⟨Γ', B, L⟩
/-- a loop that leaves everything as it was -/
theorem js_forC {T : List S → D → List S → Prop} (hp : PassesOwn (model X.prog X.w) X.A X.env X.xe) (hc : X.calm = true) (hi : JI X F0 H0 Γ tg it ds) (hg : JG X F0 H0 tg T) (Γt : D → List S) (ht : ∀ d, T Γ d (Γt d))
    (hb : ∀ (k : Nat) (d : D), ds[k]? = some d → ∃ Γ', JSs X W F0 H0 (Γt d) body (.nx Γ') ∧ Le Γ' Γ) (hs : ∀ x, foldedSetIterable it X.env x = pure x := by intro _; rfl) : JS X W F0 H0 Γ (.For tg it body [] pos) (.nx Γ) :=
  js_forAll (fun _ => Γ) (fun (k : Nat) => match (ds[k]? : Option D) with | some d => Γt d | none => []) hp hc hi hg (Le.refl _) (fun k d e => by rw [e]; exact ht d) (fun k d e => by
    obtain ⟨Γ', j, l⟩ := hb k d e
    rw [e]
    exact jss_nx j l) hs
end
end TB

namespace TB
open PySem L2 PySem.Spec PyProof.Rows PySem.Calls
/-! ### gcd of three -/
def gcd3 (a b c : Int) : Nat := ((Nat.gcd 0 a.natAbs).gcd b.natAbs).gcd c.natAbs
theorem ok_gcd3 (a b c : Value) : argsOk "math.gcd" ⟨[a, b, c], []⟩ := by unfold argsOk; kernel_rfl
theorem gives_gcd3 (a b c : Int) (t1 t2 t3 : Tok) : PySem.Gives (Builtin.«math.gcd» ⟨[.int a t1, .int b t2, .int c t3], []⟩) (.int ((gcd3 a b c : Nat) : Int)) :=
  .of_wp fun M A E s Q h => by
    obtain ⟨p1, p2, p3, p4, p5⟩ := s
    wp_walk
    exact ⟨_, rfl, h⟩
def rGcd3 : List V → Hp → VK → Prop := fun vs H Q => ∃ a b c : Int, vs = [.int a, .int b, .int c] ∧ Q (.int ((gcd3 a b c : Nat) : Int)) H
theorem cr_gcd3 {X : Cx} : CallR X (.builtin "math.gcd") rGcd3 := by
  intro pins s σ H vs us Q I r h
  obtain ⟨a, b, c, rfl, q⟩ := h
  cases r with | cons r1 r =>
  cases r with | cons r2 r =>
  cases r with | cons r3 r =>
  cases r
  obtain ⟨t1, rfl⟩ := r1
  obtain ⟨t2, rfl⟩ := r2
  obtain ⟨t3, rfl⟩ := r3
  exact call_function_meets PySem.W.MGF.kind_gcd PySem.W.MGF.plain_gcd PySem.W.MGF.entry_gcd (ok_gcd3 _ _ _) (gives_gcd3 a b c t1 t2 t3).meets ⟨.int _, H, I.tok _, ⟨_, rfl⟩, q⟩
section
variable {X : Cx} {W : WX} {F0 H0 : Hp} {Γ : List S} {e1 e2 e3 : Expr} {a b c : Int} {pos np : Pos}
theorem je_gcd3 (hm : X.mg "gcd" = some (.builtin "math.gcd")) (h1 : JE X WF F0 H0 Γ e1 (.v (.int a))) (h2 : JE X WF F0 H0 Γ e2 (.v (.int b))) (h3 : JE X WF F0 H0 Γ e3 (.v (.int c))) (hg : Gl X "gcd" := by rfl)
    (s1 : starEach [e1, e2, e3] X.env = (false, eval e1 X.env) :: starEach [e2, e3] X.env := by rfl) (s2 : starEach [e2, e3] X.env = (false, eval e2 X.env) :: starEach [e3] X.env := by rfl) (s3 : starEach [e3] X.env = (false, eval e3 X.env) :: starEach [] X.env := by rfl)
    (hpl : (backTo pos (starEach [e2, e3] X.env)).any (·.1) = false := by rfl) : JE X W F0 H0 Γ (.Call (.Name "gcd" np) [e1, e2, e3] [] pos) (.v (.int ((gcd3 a b c : Nat) : Int))) :=
  pe_imp (pe_callBfun cr_gcd3 hg hm (ja_cons h1 (ja_cons h2 (ja_cons h3 ja_nil s3) s2) s1) (by decide) s1 hpl) fun σ H Q ⟨F, ok, q⟩ => ⟨F, ok, fun vs F1 H1 z1 d1 => by
    cases d1 with | cons d1 dv =>
    cases dv with | cons d2 dv =>
    cases dv with | cons d3 dv =>
    cases dv
    cases d1; cases d2; cases d3
    exact ⟨a, b, c, rfl, q _ F1 H1 z1 (.int _)⟩⟩
end
theorem gcd3_dvd (a b c : Int) : ((gcd3 a b c : Nat) : Int) ∣ a ∧ ((gcd3 a b c : Nat) : Int) ∣ b ∧ ((gcd3 a b c : Nat) : Int) ∣ c := by
  unfold gcd3
  rw [Nat.gcd_zero_left]
  have up : ∀ {m : Nat} {z : Int}, m ∣ z.natAbs → (m : Int) ∣ z := fun h => Int.natAbs_dvd_natAbs.mp h
  have h1 := Nat.gcd_dvd_left a.natAbs b.natAbs
  have h2 := Nat.gcd_dvd_right a.natAbs b.natAbs
  have h3 := Nat.gcd_dvd_left (a.natAbs.gcd b.natAbs) c.natAbs
  have h4 := Nat.gcd_dvd_right (a.natAbs.gcd b.natAbs) c.natAbs
  exact ⟨up (Nat.dvd_trans h3 h1), up (Nat.dvd_trans h3 h2), up h4⟩
theorem gcd3_great {a b c m : Int} (h1 : m ∣ a) (h2 : m ∣ b) (h3 : m ∣ c) : m ∣ ((gcd3 a b c : Nat) : Int) := by
  unfold gcd3
  rw [Nat.gcd_zero_left]
  refine Int.natAbs_dvd_natAbs.mp ?_
  exact Nat.dvd_gcd (Nat.dvd_gcd (Int.natAbs_dvd_natAbs.mpr h1) (Int.natAbs_dvd_natAbs.mpr h2)) (Int.natAbs_dvd_natAbs.mpr h3)
theorem gcd3_zero {a b c : Int} : ((gcd3 a b c : Nat) : Int) = 0 ↔ a = 0 ∧ b = 0 ∧ c = 0 := by
  constructor
  · intro h
    obtain ⟨h1, h2, h3⟩ := gcd3_dvd a b c
    rw [h] at h1 h2 h3
    exact ⟨Int.zero_dvd.mp h1, Int.zero_dvd.mp h2, Int.zero_dvd.mp h3⟩
  · rintro ⟨rfl, rfl, rfl⟩
    decide
theorem dp_k2 {K : PySem.W.Frag} {a : Addr} {od : Option Addr} {x y : Int} {u1 u2 : Tok} {n : Nat} {sl : Array (Option Value)} (h : K.lookup a = some ⟨.type "tuple", od, .seq #[.int x u1, .int y u2] n, sl⟩) : ∀ F, Dp K F (.ref a) (ti [x, y]) := fun F =>
  .tup (xs := [.int x, .int y]) (.inr ⟨_, _, _, h, rfl, rfl, (by show 2 ≤ sizeLine; decide), .cons ⟨_, rfl⟩ (.cons ⟨_, rfl⟩ .nil)⟩) (da_of_ints [x, y])
/-! ### the order of a turn -/
/-- the powers of x: x ^ t = u t * x - n * u (t - 1) -/
def uS (T N : Int) : Nat → Int × Int
  | 0 => (0, 1)
  | t + 1 => (T * (uS T N t).1 + (uS T N t).2, -(N * (uS T N t).1))
def powL (x : List Int) : Nat → List Int
  | 0 => [2, 0, 0, 0]
  | t + 1 => mulL (powL x t) x
theorem pow_is {x : List Int} (hx : isNum x = true) : ∀ t, powL x t = [(uS (x.getD 0 0) (normL x) t).1 * x.getD 0 0 + 2 * (uS (x.getD 0 0) (normL x) t).2, (uS (x.getD 0 0) (normL x) t).1 * x.getD 1 0, (uS (x.getD 0 0) (normL x) t).1 * x.getD 2 0, (uS (x.getD 0 0) (normL x) t).1 * x.getD 3 0]
  | 0 => by
    unfold powL uS
    simp
  | t + 1 => by
    have ih := pow_is hx t
    obtain ⟨a, b, c, d, rfl⟩ := four (num_len hx)
    have hn : a * a + (b * b + (c * c + (d * d + 0))) = 4 * normL [a, b, c, d] := sq_norm hx
    unfold powL
    rw [ih]
    simp only [uS]
    generalize normL [a, b, c, d] = N at *
    show mulL [(uS a N t).1 * a + 2 * (uS a N t).2, (uS a N t).1 * b, (uS a N t).1 * c, (uS a N t).1 * d] [a, b, c, d] = [(a * (uS a N t).1 + (uS a N t).2) * a + 2 * -(N * (uS a N t).1), (a * (uS a N t).1 + (uS a N t).2) * b, (a * (uS a N t).1 + (uS a N t).2) * c, (a * (uS a N t).1 + (uS a N t).2) * d]
    generalize (uS a N t).1 = u
    generalize (uS a N t).2 = v
    show [_ / 2, _ / 2, _ / 2, _ / 2] = [_, _, _, _]
    have half : ∀ {p q : Int}, p = 2 * q → p / 2 = q := fun h => by omega
    congr 1
    · refine half ?_
      have : u * (a * a + (b * b + (c * c + (d * d + 0)))) = u * (4 * N) := by rw [hn]
      grind
    congr 1
    · exact half (by grind)
    congr 1
    · exact half (by grind)
    congr 1
    exact half (by grind)
/-- a loop that leaves with an answer at the first turn where P holds -/
def outOf (so' : Nat → SO) (o : SO) : Option Nat → SO
  | some k => so' k
  | none => o
def SO.ret : SO → Prop
  | .rt _ => True
  | .rto _ => True
  | .rtq _ => True
  | _ => False
section
variable {X : Cx} {W : WX} {F0 H0 : Hp} {Γ : List S} {tg it : Expr} {body : List Stmt} {pos : Pos}
theorem js_forFind {T : List S → D → List S → Prop} {ds : List D} (P : Nat → Bool) (so' : Nat → SO) (Γs : Nat → List S) (Γt : Nat → List S) (hp : PassesOwn (model X.prog X.w) X.A X.env X.xe) (hc : X.calm = true) (hi : JI X F0 H0 Γ tg it ds) (hg : JG X F0 H0 tg T) (h0 : Le Γ (Γs 0))
    (ht : ∀ (k : Nat) (d : D), ds[k]? = some d → T (Γs k) d (Γt k)) (hb0 : ∀ (k : Nat) (d : D), ds[k]? = some d → P k = false → JSs X W F0 H0 (Γt k) body (.nx (Γs (k + 1)))) (hb1 : ∀ (k : Nat) (d : D), ds[k]? = some d → P k = true → JSs X W F0 H0 (Γt k) body (so' k) ∧ (so' k).ret)
    (hs : ∀ x, foldedSetIterable it X.env x = pure x := by intro _; rfl) : JS X W F0 H0 Γ (.For tg it body [] pos) (outOf so' (.nx (Γs ds.length)) ((List.range ds.length).find? P)) := by
  cases hf : (List.range ds.length).find? P with
  | none =>
    have hn := List.find?_eq_none.mp hf
    exact js_forAll Γs Γt hp hc hi hg h0 ht (fun k d e => hb0 k d e (by
      have hk := (List.getElem?_eq_some_iff.mp e).1
      have := hn k (List.mem_range.mpr hk)
      simpa using this)) hs
  | some m =>
    have hpm := List.find?_some hf
    have hm := List.mem_range.mp (List.mem_of_find?_eq_some hf)
    have before : ∀ k, k < m → P k = false := fun k hk => by
      obtain ⟨_, as, bs, e, h⟩ := List.find?_eq_some_iff_append.mp hf
      have hk2 : k ∈ as := by
        have : k ∈ as ++ m :: bs := by rw [← e]; exact List.mem_range.mpr (by omega)
        rcases List.mem_append.mp this with q | q
        · exact q
        · exfalso
          have srt : (as ++ m :: bs).Pairwise (· < ·) := by rw [← e]; exact List.pairwise_lt_range
          have srt2 := (List.pairwise_append.mp srt).2.1
          rcases List.mem_cons.mp q with q | q
          · omega
          · have := (List.pairwise_cons.mp srt2).1 k q
            omega
      simpa using h k hk2
    have hd : ds[m]? = some ds[m] := List.getElem?_eq_getElem hm
    obtain ⟨j, rt⟩ := hb1 m _ hd hpm
    refine js_for Γs Γt m hp hc hi hg h0 (Nat.le_of_lt hm) (fun k d e _ => ht k d e) (fun k d e hk => ⟨_, hb0 k d e (before k hk), rfl⟩) (fun _ => ⟨_, j, ?_, .inl ⟨rfl, ?_, ?_⟩⟩) (fun h => absurd h (by omega)) hs
    · revert rt
      show SO.ret (so' m) → SO.stop (so' m)
      cases so' m <;> intro h <;> first | exact h.elim | trivial
    · intro g e
      rw [e] at rt
      exact rt
    · intro g e
      rw [e] at rt
      exact rt
end
section
variable {X : Cx} {W : WX} {F0 H0 : Hp} {Γ Γ1 : List S} {st : Stmt} {rest : List Stmt} {so2 : SO} {so' : Nat → SO} {o : Option Nat}
theorem jss_find (h : JS X W F0 H0 Γ st (outOf so' (.nx Γ1) o)) (hr : ∀ k, (so' k).ret) (h2 : o = none → JSs X W F0 H0 Γ1 rest so2) : JSs X W F0 H0 Γ (st :: rest) (outOf so' so2 o) := by
  cases o with
  | none => exact jss_cons h (h2 rfl)
  | some k =>
    refine jss_stop h ?_
    have rt := hr k
    revert rt
    show SO.ret (so' k) → SO.stop (so' k)
    cases so' k <;> intro h <;> first | exact h.elim | trivial
end
/-! where the powers are whole -/
def eoS (s n : Int) : Nat → Int × Int
  | 0 => (0, 1)
  | j + 1 => let e := (eoS s n j).2 - n * (eoS s n j).1; (e, s * e - n * (eoS s n j).2)
theorem eo_mod (s n : Int) : ∀ j, n ∣ (eoS s n j).2 - s ^ j ∧ n ∣ (eoS s n (j + 1)).1 - s ^ j
  | 0 => by simp [eoS]
  | j + 1 => by
    obtain ⟨h1, h2⟩ := eo_mod s n j
    have k1 : n ∣ (eoS s n (j + 1)).2 - s ^ (j + 1) := by
      obtain ⟨c, hc⟩ := h2
      refine ⟨s * c - (eoS s n j).2, ?_⟩
      have : (eoS s n (j + 1)).2 = s * (eoS s n (j + 1)).1 - n * (eoS s n j).2 := rfl
      rw [this, Int.pow_succ]
      have e2 : (eoS s n (j + 1)).1 = s ^ j + n * c := by omega
      rw [e2]
      grind
    refine ⟨k1, ?_⟩
    obtain ⟨c, hc⟩ := k1
    refine ⟨c - (eoS s n (j + 1)).1, ?_⟩
    have : (eoS s n (j + 1 + 1)).1 = (eoS s n (j + 1)).2 - n * (eoS s n (j + 1)).1 := rfl
    rw [this, Int.mul_sub, ← hc]
    omega
theorem us_alg {g T U n gj E O : Int} (h : g * U = T * (gj * E)) : g * (T * (gj * O) + -(g * n * U)) = T * (gj * g * (O - n * E)) := by
  have e : g * (T * (gj * O) + -(g * n * U)) = g * T * (gj * O) - g * n * (g * U) := by grind
  rw [e, h]
  grind
theorem us_eo {T N g s n : Int} (hg : g ≠ 0) (hS : T * T = g * s) (hN : N = g * n) : ∀ j, g * (uS T N (2 * j)).1 = T * (g ^ j * (eoS s n j).1) ∧ (uS T N (2 * j + 1)).1 = g ^ j * (eoS s n j).2 ∧ (uS T N (2 * j + 1)).2 = -(N * (uS T N (2 * j)).1)
  | 0 => by simp [uS, eoS]
  | j + 1 => by
    obtain ⟨h1, h2, h3⟩ := us_eo hg hS hN j
    have a1 : (uS T N (2 * (j + 1))).1 = T * (uS T N (2 * j + 1)).1 + (uS T N (2 * j + 1)).2 := rfl
    have a2 : (uS T N (2 * (j + 1))).2 = -(N * (uS T N (2 * j + 1)).1) := rfl
    have a3 : (uS T N (2 * (j + 1) + 1)).1 = T * (uS T N (2 * (j + 1))).1 + (uS T N (2 * (j + 1))).2 := rfl
    have b1 : (eoS s n (j + 1)).1 = (eoS s n j).2 - n * (eoS s n j).1 := rfl
    have b2 : (eoS s n (j + 1)).2 = s * (eoS s n (j + 1)).1 - n * (eoS s n j).2 := rfl
    have k1 : g * (uS T N (2 * (j + 1))).1 = T * (g ^ (j + 1) * (eoS s n (j + 1)).1) := by
      rw [a1, h3, h2, b1, Int.pow_succ, hN]
      rw [hN] at h1
      exact us_alg h1
    refine ⟨k1, ?_, rfl⟩
    refine Int.eq_of_mul_eq_mul_left hg ?_
    rw [a3, a2, h2, b2, Int.mul_add]
    have : g * (T * (uS T N (2 * (j + 1))).1) = T * (g * (uS T N (2 * (j + 1))).1) := by grind
    rw [this, k1, Int.pow_succ, hN]
    have e3 : T * (T * (g ^ j * g * (eoS s n (j + 1)).1)) = (T * T) * (g ^ j * g * (eoS s n (j + 1)).1) := by grind
    rw [e3, hS]
    generalize (eoS s n (j + 1)).1 = E
    generalize (eoS s n j).2 = O
    generalize g ^ j = gj
    clear h1 h2 h3 a1 a2 a3 b1 b2 k1 this e3 hS hN hg
    grind
theorem cop_one {s n : Int} (hn : 0 < n) (hc : Int.gcd s n = 1) {j : Nat} (h : n ∣ s ^ j) : n = 1 := by
  have h1 : n.natAbs ∣ s.natAbs ^ j := by
    rw [← Int.natAbs_pow]
    exact Int.natAbs_dvd_natAbs.mpr h
  have h2 : Nat.Coprime n.natAbs (s.natAbs ^ j) := Nat.Coprime.pow_right j (Nat.Coprime.symm hc)
  have h3 := Nat.Coprime.eq_one_of_dvd h2 h1
  omega
/-- a power's other parts vanish at these five ratios alone -/
theorem us_root {T N : Int} (hN : 0 < N) (hb : T * T < 4 * N) {t : Nat} (ht : 1 ≤ t) (h : (uS T N t).1 = 0) : T * T = 0 ∨ T * T = N ∨ T * T = 2 * N ∨ T * T = 3 * N := by
  by_cases hT : T = 0
  · left; rw [hT]; rfl
  have hSp : 0 < T * T := by
    rcases Int.lt_or_gt_of_ne hT with q | q
    · exact Int.mul_pos_of_neg_of_neg q q
    · exact Int.mul_pos q q
  have hgp : 0 < Int.gcd (T * T) N := Int.gcd_pos_of_ne_zero_right _ (by omega)
  obtain ⟨s, hs⟩ := Int.gcd_dvd_left (T * T) N
  obtain ⟨n, hn⟩ := Int.gcd_dvd_right (T * T) N
  have hcop : Int.gcd s n = 1 := by
    have := Int.gcd_mul_left (Int.gcd (T * T) N : Int) s n
    rw [← hs, ← hn] at this
    have h4 : ((Int.gcd (T * T) N : Nat) : Int).natAbs = Int.gcd (T * T) N := Int.natAbs_natCast _
    rw [h4] at this
    exact Nat.eq_of_mul_eq_mul_left hgp (by omega)
  generalize hg : ((Int.gcd (T * T) N : Nat) : Int) = g at hs hn
  have gp : 0 < g := by omega
  have np : 0 < n := by
    rcases Int.lt_or_le 0 n with q | q
    · exact q
    · have := Int.mul_nonpos_of_nonneg_of_nonpos (Int.le_of_lt gp) q
      omega
  have n1 : n = 1 := by
    obtain ⟨j, e⟩ : ∃ j, t = 2 * j ∨ t = 2 * j + 1 := ⟨t / 2, by omega⟩
    rcases e with e | e
    · obtain ⟨j', rfl⟩ : ∃ j', j = j' + 1 := ⟨j - 1, by omega⟩
      have e1 := (us_eo (by omega) hs hn (j' + 1)).1
      rw [← e, h, Int.mul_zero] at e1
      have e2 : (eoS s n (j' + 1)).1 = 0 := by
        rcases Int.mul_eq_zero.mp e1.symm with q | q
        · exact absurd q hT
        · rcases Int.mul_eq_zero.mp q with q | q
          · have := Int.pow_pos (m := j' + 1) gp
            omega
          · exact q
      have d := (eo_mod s n j').2
      rw [e2] at d
      exact cop_one np hcop (j := j') (by
        have : n ∣ -(s ^ j') := by simpa using d
        exact Int.dvd_neg.mp this)
    · have e1 := (us_eo (by omega) hs hn j).2.1
      rw [← e, h] at e1
      have e2 : (eoS s n j).2 = 0 := by
        rcases Int.mul_eq_zero.mp e1.symm with q | q
        · have := Int.pow_pos (m := j) gp
          omega
        · exact q
      have d := (eo_mod s n j).1
      rw [e2] at d
      exact cop_one np hcop (j := j) (by
        have : n ∣ -(s ^ j) := by simpa using d
        exact Int.dvd_neg.mp this)
  rw [n1, Int.mul_one] at hn
  subst hn
  have sp : 0 < s := by
    rcases Int.lt_or_le 0 s with q | q
    · exact q
    · have := Int.mul_nonpos_of_nonneg_of_nonpos (Int.le_of_lt gp) q
      omega
  have s4 : s < 4 := by
    refine Classical.byContradiction fun q => ?_
    have : N * 4 ≤ N * s := Int.mul_le_mul_of_nonneg_left (by omega) (by omega)
    omega
  have s3 : s = 1 ∨ s = 2 ∨ s = 3 := by omega
  rcases s3 with rfl | rfl | rfl
  · right; left; omega
  · right; right; left; omega
  · right; right; right; omega
/-- the order of the turn of a number with the real part T / 2 and the norm N -/
def ordD (T N : Int) : D := if T * T = 4 * N then .int 1 else if T * T = 0 * N then .int 2 else if T * T = 1 * N then .int 3 else if T * T = 2 * N then .int 4 else if T * T = 3 * N then .int 6 else .none
/-- the law's search -/
def ordL (x : List Int) : D := match (List.range 12).find? (fun k => decide ((powL x (k + 1)).drop 1 = [0, 0, 0])) with | some k => .int ((k : Int) + 1) | none => .none
theorem us_zero {T N : Int} (hN : 0 < N) (hb : T * T < 4 * N) : ∀ t, 1 ≤ t → t ≤ 12 → ((uS T N t).1 = 0 → T * T = 0 * N ∨ T * T = 1 * N ∨ T * T = 2 * N ∨ T * T = 3 * N) := fun t h1 _ h => by
  rcases us_root hN hb h1 h with q | q | q | q
  · left; omega
  · right; left; omega
  · right; right; left; omega
  · right; right; right; omega
theorem vec_zero {x : List Int} (hx : isNum x = true) : x.getD 0 0 * x.getD 0 0 = 4 * normL x ↔ x.drop 1 = [0, 0, 0] := by
  have hn := sq_norm hx
  obtain ⟨a, b, c, d, rfl⟩ := four (num_len hx)
  have e : a * a + (b * b + (c * c + (d * d + 0))) = 4 * normL [a, b, c, d] := hn
  show a * a = 4 * normL [a, b, c, d] ↔ [b, c, d] = [0, 0, 0]
  rw [← e]
  have nn : ∀ z : Int, 0 ≤ z * z := fun z => by
    rcases Int.lt_or_le z 0 with q | q
    · exact Int.le_of_lt (Int.mul_pos_of_neg_of_neg q q)
    · exact Int.mul_nonneg q q
  have z0 : ∀ z : Int, z * z = 0 → z = 0 := fun z h => by rcases Int.mul_eq_zero.mp h with q | q <;> exact q
  have b1 := nn b
  have c1 := nn c
  have d1 := nn d
  constructor
  · intro h
    rw [z0 b (by omega), z0 c (by omega), z0 d (by omega)]
  · intro h
    simp only [List.cons.injEq, and_true] at h
    obtain ⟨rfl, rfl, rfl⟩ := h
    omega
theorem pow_tail {x : List Int} (hx : isNum x = true) (hv : x.drop 1 ≠ [0, 0, 0]) (t : Nat) : (powL x t).drop 1 = [0, 0, 0] ↔ (uS (x.getD 0 0) (normL x) t).1 = 0 := by
  rw [pow_is hx t]
  obtain ⟨a, b, c, d, rfl⟩ := four (num_len hx)
  generalize (uS ([a, b, c, d].getD 0 0) (normL [a, b, c, d]) t).1 = u
  show [u * b, u * c, u * d] = [0, 0, 0] ↔ u = 0
  constructor
  · intro h
    simp only [List.cons.injEq, and_true] at h
    obtain ⟨h1, h2, h3⟩ := h
    refine Classical.byContradiction fun q => hv ?_
    show [b, c, d] = [0, 0, 0]
    rcases Int.mul_eq_zero.mp h1 with r | r
    · exact absurd r q
    rcases Int.mul_eq_zero.mp h2 with r2 | r2
    · exact absurd r2 q
    rcases Int.mul_eq_zero.mp h3 with r3 | r3
    · exact absurd r3 q
    rw [r, r2, r3]
  · rintro rfl
    simp
theorem find_at {P : Nat → Bool} {n m : Nat} (hm : m < n) (h1 : P m = true) (h0 : ∀ k, k < m → P k = false) : (List.range n).find? P = some m := by
  induction n with
  | zero => omega
  | succ n ih =>
    rw [List.range_succ, List.find?_append]
    by_cases q : m < n
    · rw [ih q]; rfl
    · have e : m = n := by omega
      subst e
      have : (List.range m).find? P = none := List.find?_eq_none.mpr fun k hk => by rw [h0 k (List.mem_range.mp hk)]; exact Bool.false_ne_true
      rw [this]
      simp [h1]
/-- both find the same order -/
theorem ord_law {x : List Int} (hx : isNum x = true) (h0 : zeroB x = false) : ordL x = ordD (x.getD 0 0) (normL x) := by
  have hN := norm_pos hx h0
  have v := vec_zero hx
  unfold ordL ordD
  by_cases hv : x.drop 1 = [0, 0, 0]
  · rw [if_pos (v.mpr hv)]
    rw [find_at (m := 0) (by decide) ?_ (fun k hk => absurd hk (by omega))]
    · rfl
    · have e : powL x 1 = x := by
        rw [pow_is hx 1]
        obtain ⟨a, b, c, d, rfl⟩ := four (num_len hx)
        simp [uS]
      rw [e, hv]
      rfl
  · have hne : ¬ x.getD 0 0 * x.getD 0 0 = 4 * normL x := fun h => hv (v.mp h)
    rw [if_neg hne]
    have pt := pow_tail hx hv
    have hb : x.getD 0 0 * x.getD 0 0 < 4 * normL x := by
      have hn := sq_norm hx
      obtain ⟨a, b, c, d, rfl⟩ := four (num_len hx)
      have e : a * a + (b * b + (c * c + (d * d + 0))) = 4 * normL [a, b, c, d] := hn
      have nn : ∀ z : Int, 0 ≤ z * z := fun z => by
        rcases Int.lt_or_le z 0 with q | q
        · exact Int.le_of_lt (Int.mul_pos_of_neg_of_neg q q)
        · exact Int.mul_nonneg q q
      have b1 := nn b
      have c1 := nn c
      have d1 := nn d
      have hne' : ¬ a * a = 4 * normL [a, b, c, d] := hne
      show a * a < 4 * normL [a, b, c, d]
      omega
    simp only [pt]
    generalize x.getD 0 0 = T at *
    generalize normL x = N at *
    clear pt v hv hne hx h0
    have u1 : (uS T N 1).1 = 1 := by simp [uS]
    have u2 : (uS T N 2).1 = T := by simp [uS]
    have u3 : (uS T N 3).1 = T * T - N := by simp [uS]; omega
    have u4 : (uS T N 4).1 = T * (T * T - 2 * N) := by
      have e : (uS T N 4).1 = T * (uS T N 3).1 + -(N * (uS T N 2).1) := rfl
      rw [e, u3, u2]; grind
    have u5 : (uS T N 5).1 = T * T * (T * T) - 3 * (T * T * N) + N * N := by
      have e : (uS T N 5).1 = T * (uS T N 4).1 + -(N * (uS T N 3).1) := rfl
      rw [e, u4, u3]; grind
    have u6 : (uS T N 6).1 = T * ((T * T - N) * (T * T - 3 * N)) := by
      have e : (uS T N 6).1 = T * (uS T N 5).1 + -(N * (uS T N 4).1) := rfl
      rw [e, u5, u4]; grind
    have d1 : ¬ (uS T N 1).1 = 0 := by rw [u1]; decide
    by_cases q0 : T * T = 0 * N
    · rw [if_pos q0]
      have hT : T = 0 := by rcases Int.mul_eq_zero.mp (by omega : T * T = 0) with q | q <;> exact q
      rw [find_at (m := 1) (by decide) (decide_eq_true (by rw [u2]; exact hT)) (fun k hk => by
        have : k = 0 := by omega
        subst this
        exact decide_eq_false d1)]
      rfl
    rw [if_neg q0]
    have hT : T ≠ 0 := fun h => q0 (by rw [h]; omega)
    have d2 : ¬ (uS T N 2).1 = 0 := by rw [u2]; exact hT
    by_cases q1 : T * T = 1 * N
    · rw [if_pos q1, find_at (m := 2) (by decide) (decide_eq_true (by rw [u3]; omega)) (fun k hk => by
        have : k = 0 ∨ k = 1 := by omega
        rcases this with rfl | rfl
        · exact decide_eq_false d1
        · exact decide_eq_false d2)]
      rfl
    rw [if_neg q1]
    have d3 : ¬ (uS T N 3).1 = 0 := by rw [u3]; omega
    by_cases q2 : T * T = 2 * N
    · rw [if_pos q2, find_at (m := 3) (by decide) (decide_eq_true (by rw [u4, q2, Int.sub_self, Int.mul_zero])) (fun k hk => by
        have : k = 0 ∨ k = 1 ∨ k = 2 := by omega
        rcases this with rfl | rfl | rfl
        · exact decide_eq_false d1
        · exact decide_eq_false d2
        · exact decide_eq_false d3)]
      rfl
    rw [if_neg q2]
    have d4 : ¬ (uS T N 4).1 = 0 := by
      rw [u4]
      intro h
      rcases Int.mul_eq_zero.mp h with q | q
      · exact hT q
      · omega
    by_cases q3 : T * T = 3 * N
    · have d5 : ¬ (uS T N 5).1 = 0 := by
        rw [u5, q3]
        have : 3 * N * (3 * N) - 3 * (3 * N * N) + N * N = N * N := by grind
        rw [this]
        have := Int.mul_pos hN hN
        omega
      rw [if_pos q3, find_at (m := 5) (by decide) (decide_eq_true (by rw [u6, q3, Int.sub_self, Int.mul_zero, Int.mul_zero])) (fun k hk => by
        have : k = 0 ∨ k = 1 ∨ k = 2 ∨ k = 3 ∨ k = 4 := by omega
        rcases this with rfl | rfl | rfl | rfl | rfl
        · exact decide_eq_false d1
        · exact decide_eq_false d2
        · exact decide_eq_false d3
        · exact decide_eq_false d4
        · exact decide_eq_false d5)]
      rfl
    rw [if_neg q3]
    have : (List.range 12).find? (fun k => decide ((uS T N (k + 1)).1 = 0)) = none := List.find?_eq_none.mpr fun k hk => by
      have hk12 := List.mem_range.mp hk
      rw [decide_eq_true_eq]
      intro h
      rcases us_zero hN hb (k + 1) (by omega) (by omega) h with q | q | q | q
      · exact q0 q
      · exact q1 q
      · exact q2 q
      · exact q3 q
    rw [this]
end TB

namespace TB
open PySem L2 PySem.Spec PyProof.Rows
/-! ### orders and axes -/
def ordsL : List (List Int) := [[4, 1], [0, 2], [1, 3], [2, 4], [3, 6]]
def R_ordO (c : Addr) : List D → Out → Prop := RTq c fun s rs => .v (ordD ((nT s rs).getD 0 0) (normL (nT s rs)))
def axisV (y : List Int) : List Int := [y.getD 1 0 / ((gcd3 (y.getD 1 0) (y.getD 2 0) (y.getD 3 0) : Nat) : Int), y.getD 2 0 / ((gcd3 (y.getD 1 0) (y.getD 2 0) (y.getD 3 0) : Nat) : Int), y.getD 3 0 / ((gcd3 (y.getD 1 0) (y.getD 2 0) (y.getD 3 0) : Nat) : Int)]
def axD (y : List Int) : D := if ((gcd3 (y.getD 1 0) (y.getD 2 0) (y.getD 3 0) : Nat) : Int) = 0 then .none else ti (pmax (axisV y))
def R_axO (c : Addr) : List D → Out → Prop := RTq c fun s rs => .v (axD (nT s rs))
theorem ord_find (T N : Int) : ordD T N = match (List.range 5).find? (fun k => decide (T * T = (ordsL.getD k []).getD 0 0 * N)) with | some k => .int ((ordsL.getD k []).getD 1 0) | none => .none := by
  unfold ordD
  by_cases h4 : T * T = 4 * N
  · rw [if_pos h4, find_at (m := 0) (by decide) (decide_eq_true h4) (fun k hk => absurd hk (by omega))]
    rfl
  by_cases h0 : T * T = 0 * N
  · rw [if_neg h4, if_pos h0, find_at (m := 1) (by decide) (decide_eq_true h0) (fun k hk => by
      have : k = 0 := by omega
      subst this
      exact decide_eq_false h4)]
    rfl
  by_cases h1 : T * T = 1 * N
  · rw [if_neg h4, if_neg h0, if_pos h1, find_at (m := 2) (by decide) (decide_eq_true h1) (fun k hk => by
      have : k = 0 ∨ k = 1 := by omega
      rcases this with rfl | rfl
      · exact decide_eq_false h4
      · exact decide_eq_false h0)]
    rfl
  by_cases h2 : T * T = 2 * N
  · rw [if_neg h4, if_neg h0, if_neg h1, if_pos h2, find_at (m := 3) (by decide) (decide_eq_true h2) (fun k hk => by
      have : k = 0 ∨ k = 1 ∨ k = 2 := by omega
      rcases this with rfl | rfl | rfl
      · exact decide_eq_false h4
      · exact decide_eq_false h0
      · exact decide_eq_false h1)]
    rfl
  by_cases h3 : T * T = 3 * N
  · rw [if_neg h4, if_neg h0, if_neg h1, if_neg h2, if_pos h3, find_at (m := 4) (by decide) (decide_eq_true h3) (fun k hk => by
      have : k = 0 ∨ k = 1 ∨ k = 2 ∨ k = 3 := by omega
      rcases this with rfl | rfl | rfl | rfl
      · exact decide_eq_false h4
      · exact decide_eq_false h0
      · exact decide_eq_false h1
      · exact decide_eq_false h2)]
    rfl
  rw [if_neg h4, if_neg h0, if_neg h1, if_neg h2, if_neg h3]
  have : (List.range 5).find? (fun k => decide (T * T = (ordsL.getD k []).getD 0 0 * N)) = none := List.find?_eq_none.mpr fun k hk => by
    have hk5 := List.mem_range.mp hk
    rw [decide_eq_true_eq]
    have : k = 0 ∨ k = 1 ∨ k = 2 ∨ k = 3 ∨ k = 4 := by omega
    rcases this with rfl | rfl | rfl | rfl | rfl <;> assumption
  rw [this]
/-- the number of a turn is a number -/
theorem pmax_G {m : Nat} {x : List Int} (g : G m x) (h0 : zeroB x = false) : G m (pmax x) ∧ zeroB (pmax x) = false := by
  unfold pmax
  split
  · exact ⟨g.neg, by rw [neg_zeroB]; exact h0⟩
  · exact ⟨g, h0⟩
theorem nT_ok {s : Int} {dr : D} {es : List D} {rs : List (List Int)} (ta : TurnA s dr es rs) (h : goodT s rs = true) : G 410 (nT s rs) ∧ zeroB (nT s rs) = false := by
  obtain ⟨h0, hf⟩ := good_form h
  obtain ⟨ts, f1, f2, f3, f4⟩ := firT_ok h0 hf
  have fb := tab_b hf ta.bs ta.b _ f2
  have hn := dbl_num f4
  have zy : zeroB (timesL 2 (firT s rs)) = false := by rw [times_zero_iff (by decide)]; exact f3
  obtain ⟨p1, p2, p3, p4, p5⟩ := prim_spec hn zy
  refine pmax_G ⟨p2, fun z hz => ?_⟩ p3
  obtain ⟨w, hw, rfl⟩ := List.mem_map.mp hz
  refine quo_bt p1 ?_
  obtain ⟨v, hv, rfl⟩ := List.mem_map.mp hw
  exact bt_up (bt_mul (fb v hv) two_bt) (by decide)
/-- two numbers in one line have one order -/
theorem ord_times {x y : List Int} (hx : isNum x = true) (hy : isNum y = true) {m n : Int} (hm : m ≠ 0) (hn : n ≠ 0) (h : timesL m x = timesL n y) : ordD (x.getD 0 0) (normL x) = ordD (y.getD 0 0) (normL y) := by
  have sx := sq_norm hx
  have sy := sq_norm hy
  have l1 := num_len hx
  have l2 := num_len hy
  have e0 : x.getD 0 0 * m = y.getD 0 0 * n := by
    obtain ⟨a, b, c, d, rfl⟩ := four l1
    obtain ⟨e, f, g, i, rfl⟩ := four l2
    have h' : [a * m, b * m, c * m, d * m] = [e * n, f * n, g * n, i * n] := h
    injection h'
  have eN : m * m * normL x = n * n * normL y := by
    have h1 := (rot_times m l1).2
    have h2 := (rot_times n l2).2
    rw [h, h2, sx, sy] at h1
    have : 4 * (m * m * normL x) = 4 * (n * n * normL y) := by grind
    omega
  have mm : 0 < m * m := by
    rcases Int.lt_or_gt_of_ne hm with q | q
    · exact Int.mul_pos_of_neg_of_neg q q
    · exact Int.mul_pos q q
  have nn : 0 < n * n := by
    rcases Int.lt_or_gt_of_ne hn with q | q
    · exact Int.mul_pos_of_neg_of_neg q q
    · exact Int.mul_pos q q
  have key : ∀ f : Int, x.getD 0 0 * x.getD 0 0 = f * normL x ↔ y.getD 0 0 * y.getD 0 0 = f * normL y := fun f => by
    have e1 : m * m * (x.getD 0 0 * x.getD 0 0) = n * n * (y.getD 0 0 * y.getD 0 0) := by
      have : m * m * (x.getD 0 0 * x.getD 0 0) = (x.getD 0 0 * m) * (x.getD 0 0 * m) := by grind
      rw [this, e0]
      grind
    have e2 : m * m * (f * normL x) = n * n * (f * normL y) := by
      have : m * m * (f * normL x) = f * (m * m * normL x) := by grind
      rw [this, eN]
      grind
    constructor
    · intro h
      refine Int.eq_of_mul_eq_mul_left (show n * n ≠ 0 by omega) ?_
      rw [← e1, ← e2, h]
    · intro h
      refine Int.eq_of_mul_eq_mul_left (show m * m ≠ 0 by omega) ?_
      rw [e1, e2, h]
  unfold ordD
  simp only [key]
theorem primT_times {x : List Int} (hx : isNum x = true) (h0 : zeroB x = false) : ∃ m : Int, m ≠ 0 ∧ timesL m (primT x) = x ∧ isNum (primT x) = true := by
  rw [primT_is hx h0]
  obtain ⟨p1, p2, p3, p4, p5⟩ := prim_spec hx h0
  unfold pmax
  split
  · refine ⟨-contL x, by omega, ?_, neg_num p2⟩
    conv => rhs; rw [p4]
    rw [neg_times, times_times]
    congr 1
    omega
  · exact ⟨contL x, by omega, p4.symm, p2⟩
theorem ord_turn {x : List Int} (hx : isNum x = true) (h0 : zeroB x = false) : ordD ((primT x).getD 0 0) (normL (primT x)) = ordL x := by
  obtain ⟨m, hm, e, hn⟩ := primT_times hx h0
  rw [ord_law hx h0]
  refine ord_times hn hx hm (n := 1) (by decide) ?_
  rw [e]
  unfold timesL
  conv => lhs; rw [← List.map_id x]
  exact List.map_congr_left fun z _ => by show z = z * 1; omega
/-! axes -/
theorem ax_spec {x : List Int} (hx : isNum x = true) (h0 : zeroB x = false) : (x.drop 1 = [0, 0, 0] → axD (primT x) = .none) ∧ (x.drop 1 ≠ [0, 0, 0] → ∃ v : List Int, axD (primT x) = ti v ∧ v.length = 3 ∧ dvL v = 1 ∧ ¬ v < [0, 0, 0] ∧ tmL (turnR x) v = timesL (turnS x) v) := by
  obtain ⟨m, hm, e, hn⟩ := primT_times hx h0
  generalize primT x = y at e hn ⊢
  obtain ⟨y0, y1, y2, y3, rfl⟩ := four (num_len hn)
  have ex : x = [y0 * m, y1 * m, y2 * m, y3 * m] := e.symm
  have hz : x.drop 1 = [0, 0, 0] ↔ y1 = 0 ∧ y2 = 0 ∧ y3 = 0 := by
    rw [ex]
    show [y1 * m, y2 * m, y3 * m] = [0, 0, 0] ↔ _
    simp only [List.cons.injEq, and_true]
    constructor
    · rintro ⟨h1, h2, h3⟩
      refine ⟨?_, ?_, ?_⟩
      · rcases Int.mul_eq_zero.mp h1 with q | q; exact q; exact absurd q hm
      · rcases Int.mul_eq_zero.mp h2 with q | q; exact q; exact absurd q hm
      · rcases Int.mul_eq_zero.mp h3 with q | q; exact q; exact absurd q hm
    · rintro ⟨rfl, rfl, rfl⟩
      simp
  have hg : ((gcd3 y1 y2 y3 : Nat) : Int) = 0 ↔ x.drop 1 = [0, 0, 0] := by rw [hz]; exact gcd3_zero
  have eD : axD [y0, y1, y2, y3] = if ((gcd3 y1 y2 y3 : Nat) : Int) = 0 then .none else ti (pmax [y1 / ((gcd3 y1 y2 y3 : Nat) : Int), y2 / ((gcd3 y1 y2 y3 : Nat) : Int), y3 / ((gcd3 y1 y2 y3 : Nat) : Int)]) := rfl
  rw [eD]
  refine ⟨fun h => by rw [if_pos (hg.mpr h)], fun h => ?_⟩
  have hg0 : ((gcd3 y1 y2 y3 : Nat) : Int) ≠ 0 := fun q => h (hg.mp q)
  rw [if_neg hg0]
  obtain ⟨⟨a, ha⟩, ⟨b, hb⟩, ⟨c, hc⟩⟩ := gcd3_dvd y1 y2 y3
  have great : ∀ k : Int, k ∣ y1 → k ∣ y2 → k ∣ y3 → k ∣ ((gcd3 y1 y2 y3 : Nat) : Int) := fun k h1 h2 h3 => gcd3_great h1 h2 h3
  have gp : 0 < ((gcd3 y1 y2 y3 : Nat) : Int) := by omega
  generalize ((gcd3 y1 y2 y3 : Nat) : Int) = g at *
  have qa : y1 / g = a := by rw [ha]; exact Int.mul_ediv_cancel_left _ hg0
  have qb : y2 / g = b := by rw [hb]; exact Int.mul_ediv_cancel_left _ hg0
  have qc : y3 / g = c := by rw [hc]; exact Int.mul_ediv_cancel_left _ hg0
  rw [qa, qb, qc]
  -- the first of the pair has no divisor
  have d1 : dvL [a, b, c] = 1 := by
    have hn0 := dvL_nn [a, b, c]
    have hd : ∀ z ∈ [a, b, c], dvL [a, b, c] ∣ z := fun z hz => dvL_dvd hz
    have k := great (g * dvL [a, b, c]) (by rw [ha]; exact Int.mul_dvd_mul_left g (hd a (by simp))) (by rw [hb]; exact Int.mul_dvd_mul_left g (hd b (by simp))) (by rw [hc]; exact Int.mul_dvd_mul_left g (hd c (by simp)))
    have k2 : g * dvL [a, b, c] ∣ g * 1 := by rw [Int.mul_one]; exact k
    have k3 : dvL [a, b, c] ∣ 1 := Int.dvd_of_mul_dvd_mul_left hg0 k2
    have k4 : dvL [a, b, c] ≠ 0 := fun q => by
      rw [q] at k3
      have := Int.zero_dvd.mp k3
      omega
    exact pos_dvd_one (by omega) k3
  have abc0 : ¬ (a = 0 ∧ b = 0 ∧ c = 0) := by
    rintro ⟨rfl, rfl, rfl⟩
    exact h (hz.mpr ⟨by rw [ha]; omega, by rw [hb]; omega, by rw [hc]; omega⟩)
  -- the turn keeps its axis
  have fix : ∀ u : Int, tmL (turnR x) [a * u, b * u, c * u] = timesL (turnS x) [a * u, b * u, c * u] := fun u => by
    obtain ⟨t, ht, s1, r1⟩ := parts_of_turn hx h0
    have fx := turn_form hx h0
    have e2 := tm_times (turnR x) t fx [a * u, b * u, c * u]
    rw [← r1] at e2
    have e3 : tmL (rowsT x) [a * u, b * u, c * u] = timesL (sqS x) [a * u, b * u, c * u] := by
      rw [ex, ha, hb, hc]
      show [_, _, _] = [_, _, _]
      simp only [List.getD_cons_zero, List.getD_cons_succ]
      have sq : sqS [y0 * m, g * a * m, g * b * m, g * c * m] = y0 * m * (y0 * m) + (g * a * m * (g * a * m) + (g * b * m * (g * b * m) + (g * c * m * (g * c * m) + 0))) := rfl
      rw [sq]
      congr 1
      · grind
      congr 1
      · grind
      congr 1
      grind
    rw [e3] at e2
    refine times_inj (m := t) (by omega) ?_
    rw [← e2, times_times, s1, Int.mul_comm]
  have neg3 : ∀ {p q r : Int}, negL [p, q, r] = [p * -1, q * -1, r * -1] := fun {p q r} => by show [-p, -q, -r] = _; congr 1; omega; congr 1; omega; congr 1; omega
  have lt3 : ∀ {p q r : Int}, [p, q, r] < [0, 0, 0] ↔ p < 0 ∨ p = 0 ∧ (q < 0 ∨ q = 0 ∧ r < 0) := fun {p q r} => by
    simp only [List.cons_lt_cons_iff, List.not_lt_nil, and_false, or_false]
  have ltn : ∀ {p q r : Int}, [p, q, r] < negL [p, q, r] ↔ p < 0 ∨ p = 0 ∧ (q < 0 ∨ q = 0 ∧ r < 0) := fun {p q r} => by
    show [p, q, r] < [-p, -q, -r] ↔ _
    simp only [List.cons_lt_cons_iff, List.not_lt_nil, and_false, or_false]
    omega
  have dneg : dvL (negL [a, b, c]) = dvL [a, b, c] := by
    unfold dvL dvN negL
    rw [List.foldl_map]
    simp only [Int.natAbs_neg]
  unfold pmax
  by_cases hl : [a, b, c] < negL [a, b, c]
  · rw [if_pos hl]
    refine ⟨negL [a, b, c], rfl, rfl, by rw [dneg]; exact d1, ?_, ?_⟩
    · have := ltn.mp hl
      show ¬ [-a, -b, -c] < [0, 0, 0]
      rw [lt3]
      omega
    · rw [neg3]
      exact fix (-1)
  · rw [if_neg hl]
    refine ⟨[a, b, c], rfl, rfl, d1, ?_, ?_⟩
    · rw [ltn] at hl
      rw [lt3]
      omega
    · have := fix 1
      rwa [Int.mul_one, Int.mul_one, Int.mul_one] at this
theorem RTq.bad {c : Addr} {g : Int → List (List Int) → Out} {d : D} (h : R_chkT c [d] (.x c)) : RTq c g [d] (.x c) := by
  obtain ⟨d', es, e, sq, h | ⟨b, dr, h1, h2⟩ | ⟨s, dr, es', rs, h1, ta, h2⟩⟩ := h
  · cases e
    exact ⟨d, es, rfl, sq, .inl h⟩
  · cases e
    exact ⟨d, es, rfl, sq, .inr (.inl ⟨b, dr, h1, h2⟩)⟩
  · cases e
    refine ⟨d, es, rfl, sq, .inr (.inr ⟨s, dr, es', rs, h1, ta, ?_⟩)⟩
    by_cases q : goodT s rs = true
    · rw [if_pos q] at h2
      cases h2
    · rw [if_neg q]
theorem norm_bt {m : Nat} {x : List Int} (g : G m x) : Bt (2 * (m + 2)) (normL x) := by
  have h := G_norm g
  have h0 : 0 ≤ normL x := by
    by_cases z : zeroB x = true
    · have : normL x = 0 := by
        unfold normL
        have e : ∀ l : List Int, (∀ z ∈ l, z = 0) → (l.map fun p => p * p).sum = 0 := fun l => by
          induction l with
          | nil => intro _; rfl
          | cons a l ih =>
            intro h
            rw [List.map_cons, List.sum_cons, ih (fun z hz => h z (List.mem_cons_of_mem _ hz)), h a List.mem_cons_self]
            rfl
        rw [e _ (zeroB_iff.mp z)]
        decide
      omega
    · exact Int.le_of_lt (norm_pos g.num (by simpa using z))
  unfold Bt
  have : ((normL x).natAbs : Int) < ((2 ^ (2 * (m + 2)) : Nat) : Int) := by
    rw [Int.natAbs_of_nonneg h0]
    exact_mod_cast h
  exact Int.ofNat_lt.mp this
theorem ordB (k : Nat) : Bt 5 ((ordsL.getD k []).getD 0 0) := by
  by_cases h : k < 5
  · have : k = 0 ∨ k = 1 ∨ k = 2 ∨ k = 3 ∨ k = 4 := by omega
    rcases this with rfl | rfl | rfl | rfl | rfl <;> (unfold Bt; decide)
  · have e : ordsL.getD k [] = [] := by
      rw [List.getD_eq_getElem?_getD, List.getElem?_eq_none (by show 5 ≤ k; omega)]
      rfl
    rw [e]
    unfold Bt
    decide
theorem gcd3_bt {m : Nat} {a b c : Int} (h1 : Bt m a) (h2 : Bt m b) (h3 : Bt m c) : Bt m ((gcd3 a b c : Nat) : Int) := by
  by_cases z : ((gcd3 a b c : Nat) : Int) = 0
  · rw [z]
    unfold Bt
    exact Nat.pos_of_neZero _
  obtain ⟨d1, d2, d3⟩ := gcd3_dvd a b c
  have gp : 0 < ((gcd3 a b c : Nat) : Int) := by omega
  have one : ∀ {u : Int}, u ≠ 0 → Bt m u → ((gcd3 a b c : Nat) : Int) ∣ u → Bt m ((gcd3 a b c : Nat) : Int) := fun {u} hu hb hd => by
    unfold Bt at *
    have := Nat.le_of_dvd (Int.natAbs_pos.mpr hu) (Int.natAbs_dvd_natAbs.mpr hd)
    omega
  by_cases ha : a = 0
  · by_cases hb : b = 0
    · by_cases hc : c = 0
      · exact absurd (gcd3_zero.mpr ⟨ha, hb, hc⟩) z
      · exact one hc h3 d3
    · exact one hb h2 d2
  · exact one ha h1 d1
theorem pow_G {x : List Int} (g : G 43 x) : ∀ k, G (2 + k * 46) (powL x k)
  | 0 => ⟨by show isNum [2, 0, 0, 0] = true; decide, fun z hz => by
    have hz' : z = 2 ∨ z = 0 ∨ z = 0 ∨ z = 0 := by simpa [powL] using hz
    unfold Bt
    omega⟩
  | k + 1 => by
    have := (pow_G g k).mul g
    have e : 2 + k * 46 + 43 + 3 = 2 + (k + 1) * 46 := by omega
    rw [e] at this
    exact this
def R_law_ord : List D → Out → Prop := fun ds o => ∃ x : List Int, ds = [ti x] ∧ isNum x = true ∧ (∀ z ∈ x, Bt 43 z) ∧ o = .v (ordL x)
end TB

namespace TB
open PySem L2 PySem.Spec PyProof.Rows
/-! ### comparisons of rows of integers -/
def rOrdD (K : PySem.W.Frag) (g : D → D → Bool) : L2.R2 := fun x y H Q => ∃ (F : Hp) (d e : D), Ex F H ∧ Dp K F x d ∧ Dp K F y e ∧ PySem.W.alike d e = true ∧ d ≠ .none ∧ min d.depth e.depth ≤ 60 ∧ Q (.bl (g d e)) H
section
variable {X : Cx}
theorem op_ltD (hu : X.A.units + 64 < cLine) : OpR X (compareOp .Lt) (rOrdD X.K fun d e => PySem.W.dataLt d e) := by
  intro pins s σ H x y v u Q I rx ry ⟨F, d, e, ex, d1, d2, hal, hn, hdp, q⟩
  obtain ⟨as1, r1⟩ := Dp.reads I d x v (dp_ex ex _ _ d1) rx
  obtain ⟨as2, r2⟩ := Dp.reads I e y u (dp_ex ex _ _ d2) ry
  exact PySem.W.lt_data r1 r2 hal hn (by omega) ⟨.bl _, H, I, rfl, q⟩
theorem op_leD (hu : X.A.units + 64 < cLine) : OpR X (compareOp .LtE) (rOrdD X.K fun d e => !PySem.W.dataLt e d) := by
  intro pins s σ H x y v u Q I rx ry ⟨F, d, e, ex, d1, d2, hal, hn, hdp, q⟩
  obtain ⟨as1, r1⟩ := Dp.reads I d x v (dp_ex ex _ _ d1) rx
  obtain ⟨as2, r2⟩ := Dp.reads I e y u (dp_ex ex _ _ d2) ry
  exact PySem.W.le_data r1 r2 hal hn (by omega) ⟨.bl _, H, I, rfl, q⟩
end
section
variable {X : Cx} {W : WX} {F0 H0 : Hp} {Γ : List S} {a b e : Expr} {pos np : Pos} {x y : List Int}
theorem rd_ltTi {K : PySem.W.Frag} : RD K (rOrdD K fun d e => PySem.W.dataLt d e) (ti x) (ti y) (.bool (decide (x < y))) := fun v u F H Q s d1 d2 q =>
  ⟨F, ti x, ti y, s, d1, d2, alike_ti x y, (fun h => nomatch h), by rw [dep_ti, dep_ti]; decide, q _ F H (Fz.refl s) (by rw [← lt_ti]; exact .bl _)⟩
theorem rd_leTi {K : PySem.W.Frag} : RD K (rOrdD K fun d e => !PySem.W.dataLt e d) (ti x) (ti y) (.bool (!decide (y < x))) := fun v u F H Q s d1 d2 q =>
  ⟨F, ti x, ti y, s, d1, d2, alike_ti x y, (fun h => nomatch h), by rw [dep_ti, dep_ti]; decide, q _ F H (Fz.refl s) (by rw [← lt_ti]; exact .bl _)⟩
theorem jt_ltTi (hu : X.A.units + 64 < cLine) (ha : JE X WF F0 H0 Γ a (.v (ti x))) (hb : JE X WF F0 H0 Γ b (.v (ti y))) : JT X F0 H0 Γ (.Compare a [.Lt] [b] pos) (decide (x < y)) := jt_cmp (op_ltD hu) rd_ltTi ha hb (nomark _)
theorem je_ltTi (hu : X.A.units + 64 < cLine) (ha : JE X W F0 H0 Γ a (.v (ti x))) (hb : JE X W F0 H0 Γ b (.v (ti y))) : JE X W F0 H0 Γ (.Compare a [.Lt] [b] pos) (.v (.bool (decide (x < y)))) := je_cmp (op_ltD hu) rd_ltTi ha hb (nomark _)
theorem jt_leTi (hu : X.A.units + 64 < cLine) (ha : JE X WF F0 H0 Γ a (.v (ti x))) (hb : JE X WF F0 H0 Γ b (.v (ti y))) : JT X F0 H0 Γ (.Compare a [.LtE] [b] pos) (!decide (y < x)) := jt_cmp (op_leD hu) rd_leTi ha hb (nomark _)
end
theorem shown_ord (T N : Int) : Shown (ordD T N) := by
  have i : ∀ z : Int, Bt 7 z → Shown (.int z) := fun z h => shown_int h (by decide) (by decide)
  have b : ∀ z : Int, 0 ≤ z → z < 100 → Bt 7 z := fun z h1 h2 => by unfold Bt; omega
  unfold ordD
  split
  · exact i 1 (b 1 (by decide) (by decide))
  split
  · exact i 2 (b 2 (by decide) (by decide))
  split
  · exact i 3 (b 3 (by decide) (by decide))
  split
  · exact i 4 (b 4 (by decide) (by decide))
  split
  · exact i 6 (b 6 (by decide) (by decide))
  · exact shown_none
theorem sh_ord (T N : Int) : SeqAt.shaped (ordD T N) = true := by
  unfold ordD
  split
  · exact sh_int _
  split
  · exact sh_int _
  split
  · exact sh_int _
  split
  · exact sh_int _
  split
  · exact sh_int _
  · exact sh_none
theorem axis_b {m : Nat} {y v : List Int} (g : G m y) (h : axD y = ti v) : ∀ z ∈ v, Bt m z := by
  obtain ⟨a, b, c, d, rfl⟩ := four (num_len g.num)
  have eD : axD [a, b, c, d] = if ((gcd3 b c d : Nat) : Int) = 0 then .none else ti (pmax [b / ((gcd3 b c d : Nat) : Int), c / ((gcd3 b c d : Nat) : Int), d / ((gcd3 b c d : Nat) : Int)]) := rfl
  rw [eD] at h
  by_cases q : ((gcd3 b c d : Nat) : Int) = 0
  · rw [if_pos q] at h
    cases h
  rw [if_neg q] at h
  have gp : 0 < ((gcd3 b c d : Nat) : Int) := by omega
  rw [← ti_inj h]
  have base : ∀ z ∈ [b / ((gcd3 b c d : Nat) : Int), c / ((gcd3 b c d : Nat) : Int), d / ((gcd3 b c d : Nat) : Int)], Bt m z := fun z hz => by
    simp only [List.mem_cons, List.not_mem_nil, or_false] at hz
    rcases hz with rfl | rfl | rfl
    · exact quo_bt gp (g.sm b (by simp))
    · exact quo_bt gp (g.sm c (by simp))
    · exact quo_bt gp (g.sm d (by simp))
  intro z hz
  unfold pmax at hz
  split at hz
  · obtain ⟨w, hw, rfl⟩ := List.mem_map.mp hz
    exact (base w hw).neg
  · exact base z hz
end TB

namespace TB
open PySem L2 PySem.Spec PyProof.Rows PySem.Calls
/-! ### gcd and lcm of two -/
def gcd2 (a b : Int) : Int := ((Nat.gcd a.natAbs b.natAbs : Nat) : Int)
def lcm2 (a b : Int) : Int := ((Nat.lcm a.natAbs b.natAbs : Nat) : Int)
def rLcm : List V → Hp → VK → Prop := fun vs H Q => ∃ a b : Int, vs = [.int a, .int b] ∧ Bt 6000 a ∧ Bt 6000 b ∧ Q (.int (lcm2 a b)) H
theorem lcm_log {a b : Int} (h1 : Bt 6000 a) (h2 : Bt 6000 b) : Bt 12000 (lcm2 a b) := by
  unfold lcm2 Bt at *
  rw [Int.natAbs_natCast]
  have := PySem.W.mc_lcm_le a.natAbs b.natAbs
  have h3 : a.natAbs * b.natAbs < 2 ^ 6000 * 2 ^ 6000 := Nat.mul_lt_mul_of_lt_of_lt h1 h2
  rw [← Nat.pow_add] at h3
  omega
theorem log_bt2 {n : Nat} {x : Nat} (h : x < 2 ^ n) (hn : 0 < n) : x.log2 < n := by
  by_cases z : x = 0
  · rw [z]; simpa using hn
  · exact (Nat.log2_lt z).mpr h
theorem cr_lcm {X : Cx} : CallR X (.builtin "math.lcm") rLcm := by
  intro pins s σ H vs us Q I r h
  obtain ⟨a, b, rfl, h1, h2, q⟩ := h
  obtain ⟨t, u, rfl⟩ := Vals.int2 r
  have l1 := log_bt2 h1 (by decide)
  have l2 := log_bt2 h2 (by decide)
  have m1 : (max 1 a.natAbs).log2 < 6000 := log_bt2 (by
    rcases Nat.le_total 1 a.natAbs with h | h
    · rw [Nat.max_eq_right h]; exact h1
    · rw [Nat.max_eq_left h]; exact Nat.one_lt_two_pow (by decide)) (by decide)
  have m2 : (max a.natAbs b.natAbs).log2 < 6000 := log_bt2 (Nat.max_lt.mpr ⟨h1, h2⟩) (by decide)
  have e : (Nat.lcm 1 a.natAbs).lcm b.natAbs = Nat.lcm a.natAbs b.natAbs := by rw [PySem.W.mc_lcm_one]
  have hs : ((((Nat.lcm 1 a.natAbs).lcm b.natAbs : Nat) : Int)).natAbs.log2 < bitsLine := by
    rw [e]
    exact Nat.lt_of_lt_of_le (log_bt2 (lcm_log h1 h2) (by decide)) (by decide)
  have g := PySem.W.mg_run_lcm a t b u (by omega) (by omega) hs
  rw [e] at g
  exact call_function_meets PySem.W.MGF.kind_lcm PySem.W.MGF.plain_lcm PySem.W.MGF.entry_lcm (PySem.W.MGF.args_lcm _ _) g.meets ⟨.int _, H, I.tok _, ⟨_, rfl⟩, q⟩
section
variable {X : Cx} {W : WX} {F0 H0 : Hp} {Γ : List S} {e1 e2 : Expr} {a b : Int} {pos np : Pos}
theorem je_gcd2 (hm : X.mg "gcd" = some (.builtin "math.gcd")) (h1 : JE X WF F0 H0 Γ e1 (.v (.int a))) (h2 : JE X WF F0 H0 Γ e2 (.v (.int b))) (hg : Gl X "gcd" := by rfl)
    (s1 : starEach [e1, e2] X.env = (false, eval e1 X.env) :: starEach [e2] X.env := by rfl) (s2 : starEach [e2] X.env = (false, eval e2 X.env) :: starEach [] X.env := by rfl)
    (hpl : (backTo pos (starEach [e2] X.env)).any (·.1) = false := by rfl) : JE X W F0 H0 Γ (.Call (.Name "gcd" np) [e1, e2] [] pos) (.v (.int (gcd2 a b))) :=
  pe_imp (pe_callBfun cr_gcd hg hm (ja_cons h1 (ja_cons h2 ja_nil s2) s1) (by decide) s1 hpl) fun σ H Q ⟨F, ok, q⟩ => ⟨F, ok, fun vs F1 H1 z1 d1 => by
    cases d1 with | cons d1 dv =>
    cases dv with | cons d2 dv =>
    cases dv
    cases d1; cases d2
    exact ⟨a, b, rfl, q _ F1 H1 z1 (.int _)⟩⟩
theorem je_lcm2 (hm : X.mg "lcm" = some (.builtin "math.lcm")) (ba : Bt 6000 a) (bb : Bt 6000 b) (h1 : JE X WF F0 H0 Γ e1 (.v (.int a))) (h2 : JE X WF F0 H0 Γ e2 (.v (.int b))) (hg : Gl X "lcm" := by rfl)
    (s1 : starEach [e1, e2] X.env = (false, eval e1 X.env) :: starEach [e2] X.env := by rfl) (s2 : starEach [e2] X.env = (false, eval e2 X.env) :: starEach [] X.env := by rfl)
    (hpl : (backTo pos (starEach [e2] X.env)).any (·.1) = false := by rfl) : JE X W F0 H0 Γ (.Call (.Name "lcm" np) [e1, e2] [] pos) (.v (.int (lcm2 a b))) :=
  pe_imp (pe_callBfun cr_lcm hg hm (ja_cons h1 (ja_cons h2 ja_nil s2) s1) (by decide) s1 hpl) fun σ H Q ⟨F, ok, q⟩ => ⟨F, ok, fun vs F1 H1 z1 d1 => by
    cases d1 with | cons d1 dv =>
    cases dv with | cons d2 dv =>
    cases dv
    cases d1; cases d2
    exact ⟨a, b, rfl, ba, bb, q _ F1 H1 z1 (.int _)⟩⟩
end
/-! ### fractions -/
theorem gcd2_dvd (a b : Int) : gcd2 a b ∣ a ∧ gcd2 a b ∣ b := ⟨Int.natAbs_dvd_natAbs.mp (by unfold gcd2; rw [Int.natAbs_natCast]; exact Nat.gcd_dvd_left _ _), Int.natAbs_dvd_natAbs.mp (by unfold gcd2; rw [Int.natAbs_natCast]; exact Nat.gcd_dvd_right _ _)⟩
theorem gcd2_great {a b m : Int} (h1 : m ∣ a) (h2 : m ∣ b) : m ∣ gcd2 a b := Int.natAbs_dvd_natAbs.mp (by unfold gcd2; rw [Int.natAbs_natCast]; exact Nat.dvd_gcd (Int.natAbs_dvd_natAbs.mpr h1) (Int.natAbs_dvd_natAbs.mpr h2))
theorem gcd2_pos {a b : Int} (h : 0 < b) : 0 < gcd2 a b := by
  unfold gcd2
  have := Nat.gcd_pos_of_pos_right a.natAbs (show 0 < b.natAbs by omega)
  omega
theorem dv_two {a b : Int} (h : 0 < b) : dvL [a, b] = gcd2 a b := by
  have p1 : 0 < dvL [a, b] := dvL_pos (z := b) (by simp) (by omega)
  have p2 := gcd2_pos (a := a) h
  have d1 : dvL [a, b] ∣ gcd2 a b := gcd2_great (dvL_dvd (by simp)) (dvL_dvd (by simp))
  have d2 : gcd2 a b ∣ dvL [a, b] := dvL_great fun z hz => by
    have h2 : z = a ∨ z = b := by simpa using hz
    rcases h2 with rfl | rfl
    · exact (gcd2_dvd _ _).1
    · exact (gcd2_dvd _ _).2
  have := Int.le_of_dvd p2 d1
  have := Int.le_of_dvd p1 d2
  omega
def fracL (a b : Int) : List Int := [a / gcd2 a b, b / gcd2 a b]
theorem frac_ok {a b : Int} (h : 0 < b) : ∃ a' b' : Int, fracL a b = [a', b'] ∧ 0 < b' ∧ a * b' = a' * b ∧ a = gcd2 a b * a' ∧ b = gcd2 a b * b' := by
  obtain ⟨⟨a', ea⟩, ⟨b', eb⟩⟩ := gcd2_dvd a b
  have p := gcd2_pos (a := a) h
  have e1 : a / gcd2 a b = a' := Int.ediv_eq_of_eq_mul_right (by omega) ea
  have e2 : b / gcd2 a b = b' := Int.ediv_eq_of_eq_mul_right (by omega) eb
  refine ⟨a', b', by unfold fracL; rw [e1, e2], ?_, ?_, ea, eb⟩
  · rw [eb] at h
    exact Int.pos_of_mul_pos_right h p
  · generalize gcd2 a b = g at *
    subst ea eb
    grind
/-- equal fractions are one in lowest terms -/
theorem frac_eq {a b c d : Int} (hb : 0 < b) (hd : 0 < d) (h : a * d = c * b) : fracL a b = fracL c d := by
  obtain ⟨a', b', e1, p1, _, ea, eb⟩ := frac_ok (a := a) hb
  obtain ⟨c', d', e2, p2, _, ec, ed⟩ := frac_ok (a := c) hd
  have g1 := gcd2_pos (a := a) hb
  have g2 := gcd2_pos (a := c) hd
  have cop : ∀ {x y x' y' : Int}, 0 < gcd2 x y → x = gcd2 x y * x' → y = gcd2 x y * y' → Nat.gcd x'.natAbs y'.natAbs = 1 := fun {x y x' y'} gp ex ey => by
    have gd : gcd2 x y * gcd2 x' y' ∣ gcd2 x y := by
      refine gcd2_great ?_ ?_
      · conv => rhs; rw [ex]
        exact Int.mul_dvd_mul_left _ (gcd2_dvd _ _).1
      · conv => rhs; rw [ey]
        exact Int.mul_dvd_mul_left _ (gcd2_dvd _ _).2
    have : gcd2 x' y' ∣ 1 := by
      have h0 : gcd2 x y * gcd2 x' y' ∣ gcd2 x y * 1 := by rw [Int.mul_one]; exact gd
      exact Int.dvd_of_mul_dvd_mul_left (by omega) h0
    have := Int.natAbs_dvd_natAbs.mpr this
    unfold gcd2 at this
    rw [Int.natAbs_natCast] at this
    exact Nat.dvd_one.mp this
  have c1 := cop g1 ea eb
  have c2 := cop g2 ec ed
  rw [e1, e2]
  have key : a' * d' = c' * b' := by
    have : gcd2 a b * gcd2 c d * (a' * d') = gcd2 a b * gcd2 c d * (c' * b') := by
      have h3 : (gcd2 a b * a') * (gcd2 c d * d') = (gcd2 c d * c') * (gcd2 a b * b') := by rw [← ea, ← eb, ← ec, ← ed]; exact h
      grind
    exact Int.eq_of_mul_eq_mul_left (by have := Int.mul_pos g1 g2; omega) this
  have kn : a'.natAbs * d'.natAbs = c'.natAbs * b'.natAbs := by rw [← Int.natAbs_mul, ← Int.natAbs_mul, key]
  have d1 : b'.natAbs ∣ d'.natAbs := Nat.Coprime.dvd_of_dvd_mul_left (show Nat.Coprime b'.natAbs a'.natAbs by rw [Nat.Coprime, Nat.gcd_comm]; exact c1) ⟨c'.natAbs, by rw [kn, Nat.mul_comm]⟩
  have d2 : d'.natAbs ∣ b'.natAbs := Nat.Coprime.dvd_of_dvd_mul_left (show Nat.Coprime d'.natAbs c'.natAbs by rw [Nat.Coprime, Nat.gcd_comm]; exact c2) ⟨a'.natAbs, by rw [← kn, Nat.mul_comm]⟩
  have eq : b' = d' := by have := Nat.dvd_antisymm d1 d2; omega
  subst eq
  have : a' = c' := Int.eq_of_mul_eq_mul_right (by omega) key
  rw [this]
theorem frac_bt {m n : Nat} {a b : Int} (h : 0 < b) (ha : Bt m a) (hb : Bt n b) : ∀ z ∈ fracL a b, Bt m z ∨ Bt n z := by
  have g := gcd2_pos (a := a) h
  intro z hz
  have h2 : z = a / gcd2 a b ∨ z = b / gcd2 a b := by simpa [fracL] using hz
  rcases h2 with rfl | rfl
  · exact .inl (quo_bt g ha)
  · exact .inr (quo_bt g hb)
/-! ### points of fractions -/
def ptB (rs : List (List Int)) : Bool := decide (rs.length = 3) && rs.all fun r => decide (r.length = 2) && decide (0 < r.getD 1 0)
def lcmP (qs : List (List Int)) : Int := qs.foldl (fun b r => lcm2 b (r.getD 1 0)) 1
def wholeP (L : Int) (qs : List (List Int)) : List Int := qs.map fun r => r.getD 0 0 * (L / r.getD 1 0)
def fpL (s : Int) (rs qs : List (List Int)) : List (List Int) := rs.map fun r => fracL (dtL r (wholeP (lcmP qs) qs)) (s * lcmP qs)
def R_law_fr : List D → Out → Prop := fun ds o => ∃ a b : Int, ds = [.int a, .int b] ∧ 0 < b ∧ a.natAbs < 2 ^ 190 ∧ b.natAbs < 2 ^ 190 ∧ o = .v (ti (fracL a b))
def R_fr : List D → Out → Prop := fun ds o => ∃ a b : Int, ds = [.int a, .int b] ∧ 0 < b ∧ Bt 6000 b ∧ o = .v (ti (fracL a b))
def R_ispf : List D → Out → Prop := fun ds o => ∃ (d : D) (es : List D) (rs : List (List Int)), ds = [d] ∧ SqD d es ∧ SeqAll es rs ∧ rs.length ≤ 10 ∧ (∀ r ∈ rs, r.length ≤ 10) ∧ o = .v (.bool (ptB rs))
def R_turned (c q : Addr) : List D → Out → Prop := fun ds o => ∃ d e, ds = [d, e] ∧ ((R_chkT c [d] (.x c) ∧ o = .x c) ∨ (R_chkT c [d] (.v .none) ∧ R_ispf [e] (.v (.bool false)) ∧ o = .x q) ∨
  ∃ s dr es rs ps qs, SqD d [.int s, dr] ∧ TurnA s dr es rs ∧ goodT s rs = true ∧ (∀ r ∈ rs, ∀ z ∈ r, Bt 190 z) ∧ Bt 190 s ∧ R_chkT c [d] (.v .none) ∧ SqD e ps ∧ SeqAll ps qs ∧ ptB qs = true ∧ (∀ r ∈ qs, ∀ z ∈ r, Bt 190 z) ∧ R_ispf [e] (.v (.bool true)) ∧ o = .v (.tuple ((fpL s rs qs).map ti)))
theorem pt_rows {qs : List (List Int)} (h : ptB qs = true) : ∃ a b c d e f, qs = [[a, b], [c, d], [e, f]] ∧ 0 < b ∧ 0 < d ∧ 0 < f := by
  obtain ⟨h1, h2⟩ := (Bool.and_eq_true _ _).mp h
  have h3 := of_decide_eq_true h1
  have hh : ∀ r ∈ qs, r.length = 2 ∧ 0 < r.getD 1 0 := fun r hr => by
    have := List.all_eq_true.mp h2 r hr
    obtain ⟨p, q⟩ := (Bool.and_eq_true _ _).mp this
    exact ⟨of_decide_eq_true p, of_decide_eq_true q⟩
  obtain ⟨p, q, r, rfl⟩ : ∃ p q r, qs = [p, q, r] := by
    match qs, h3 with
    | [p, q, r], _ => exact ⟨p, q, r, rfl⟩
  obtain ⟨l1, p1⟩ := hh p (by simp)
  obtain ⟨l2, p2⟩ := hh q (by simp)
  obtain ⟨l3, p3⟩ := hh r (by simp)
  match p, l1, p1 with
  | [a, b], _, p1 =>
    match q, l2, p2 with
    | [c, d], _, p2 =>
      match r, l3, p3 with
      | [e, f], _, p3 => exact ⟨a, b, c, d, e, f, rfl, p1, p2, p3⟩
theorem lcm2_pos {a b : Int} (ha : 0 < a) (hb : 0 < b) : 0 < lcm2 a b := by
  unfold lcm2
  have := Nat.lcm_pos (show 0 < a.natAbs by omega) (show 0 < b.natAbs by omega)
  omega
theorem lcm2_dvd (a b : Int) : a ∣ lcm2 a b ∧ b ∣ lcm2 a b := ⟨Int.natAbs_dvd_natAbs.mp (by unfold lcm2; rw [Int.natAbs_natCast]; exact Nat.dvd_lcm_left _ _), Int.natAbs_dvd_natAbs.mp (by unfold lcm2; rw [Int.natAbs_natCast]; exact Nat.dvd_lcm_right _ _)⟩
theorem lcm2_bt {m n : Nat} {a b : Int} (ha : Bt m a) (hb : Bt n b) : Bt (m + n) (lcm2 a b) := by
  unfold lcm2 Bt at *
  rw [Int.natAbs_natCast, Nat.pow_add]
  have := PySem.W.mc_lcm_le a.natAbs b.natAbs
  have := Nat.mul_lt_mul_of_lt_of_lt ha hb
  omega
theorem lcmP_ok {a b c d e f : Int} (h1 : 0 < b) (h2 : 0 < d) (h3 : 0 < f) : 0 < lcmP [[a, b], [c, d], [e, f]] ∧ b ∣ lcmP [[a, b], [c, d], [e, f]] ∧ d ∣ lcmP [[a, b], [c, d], [e, f]] ∧ f ∣ lcmP [[a, b], [c, d], [e, f]] := by
  show 0 < lcm2 (lcm2 (lcm2 1 b) d) f ∧ b ∣ lcm2 (lcm2 (lcm2 1 b) d) f ∧ d ∣ lcm2 (lcm2 (lcm2 1 b) d) f ∧ f ∣ lcm2 (lcm2 (lcm2 1 b) d) f
  have p1 := lcm2_pos (show (0 : Int) < 1 by decide) h1
  have p2 := lcm2_pos p1 h2
  refine ⟨lcm2_pos p2 h3, ?_, ?_, (lcm2_dvd _ _).2⟩
  · exact Int.dvd_trans (lcm2_dvd 1 b).2 (Int.dvd_trans (lcm2_dvd (lcm2 1 b) d).1 (lcm2_dvd _ _).1)
  · exact Int.dvd_trans (lcm2_dvd (lcm2 1 b) d).2 (lcm2_dvd _ _).1
/-- a common denominator other than the least makes no difference -/
theorem whole_frac {s r0 r1 r2 a b c d e f L M : Int} (hs : 0 < s) (hL : 0 < L) (hM : 0 < M) (hb : 0 < b) (hd : 0 < d) (hf : 0 < f) (l1 : b ∣ L) (l2 : d ∣ L) (l3 : f ∣ L) (m1 : b ∣ M) (m2 : d ∣ M) (m3 : f ∣ M) :
    fracL (r0 * (a * (L / b)) + r1 * (c * (L / d)) + r2 * (e * (L / f))) (s * L) = fracL (r0 * (a * (M / b)) + r1 * (c * (M / d)) + r2 * (e * (M / f))) (s * M) := by
  refine frac_eq (Int.mul_pos hs hL) (Int.mul_pos hs hM) ?_
  have k : ∀ {b : Int}, 0 < b → b ∣ L → b ∣ M → (L / b) * M = (M / b) * L := fun {b} hb l m => by
    obtain ⟨x, rfl⟩ := l
    obtain ⟨y, rfl⟩ := m
    rw [Int.mul_ediv_cancel_left _ (by omega), Int.mul_ediv_cancel_left _ (by omega)]
    grind
  have k1 := k hb l1 m1
  have k2 := k hd l2 m2
  have k3 := k hf l3 m3
  generalize L / b = u1 at *
  generalize M / b = v1 at *
  generalize L / d = u2 at *
  generalize M / d = v2 at *
  generalize L / f = u3 at *
  generalize M / f = v3 at *
  grind
/-- a turn and then its inverse, as tables -/
theorem inv_mul {x : List Int} (hx : isNum x = true) (h0 : zeroB x = false) : mulM (trpL (turnR x)) (turnR x) = [[turnS x * turnS x, 0, 0], [0, turnS x * turnS x, 0], [0, 0, turnS x * turnS x]] := by
  have np := norm_pos hx h0
  have ps := turnS_pos hx h0
  have fx := turn_form hx h0
  have e := comp_turn hx (num_conj hx) h0 (zero_conj hx h0)
  rw [(mul_conj hx).2, (turn_one (m := normL x) (by omega)).1, (turn_one (m := normL x) (by omega)).2, (turn_conj hx h0).1, (turn_conj hx h0).2] at e
  obtain ⟨e1, e2⟩ := low_back (form_len (mulM_form (trp_form fx) fx)) (Int.mul_pos ps ps)
  rw [e.1] at e1
  rw [e.2] at e2
  rw [Int.mul_one] at e1
  rw [← e1] at e2
  rw [e2]
  simp [timesL]
theorem back_frac {s L M n1 n2 n3 k1 k2 k3 p q r a b w : Int} (hs : 0 < s) (hL : 0 < L) (e1 : k1 * (s * L) = n1 * M) (e2 : k2 * (s * L) = n2 * M) (e3 : k3 * (s * L) = n3 * M) (hX : p * n1 + q * n2 + r * n3 = s * s * w) (hw : w * b = a * L) : (p * k1 + q * k2 + r * k3) * b = a * (s * M) := by
  have hp := Int.mul_pos hs hL
  refine Int.eq_of_mul_eq_mul_right (a := s * L) (by omega) ?_
  have h1 : (p * k1 + q * k2 + r * k3) * b * (s * L) = (p * (k1 * (s * L)) + q * (k2 * (s * L)) + r * (k3 * (s * L))) * b := by grind
  rw [h1, e1, e2, e3]
  have h2 : (p * (n1 * M) + q * (n2 * M) + r * (n3 * M)) * b = (p * n1 + q * n2 + r * n3) * M * b := by grind
  rw [h2, hX]
  have h3 : s * s * w * M * b = s * s * M * (w * b) := by grind
  rw [h3, hw]
  grind
theorem col_sum (p q r a0 a1 a2 b0 b1 b2 c0 c1 c2 u0 u1 u2 : Int) : p * (a0 * u0 + a1 * u1 + a2 * u2) + q * (b0 * u0 + b1 * u1 + b2 * u2) + r * (c0 * u0 + c1 * u1 + c2 * u2) = (p * a0 + q * b0 + r * c0) * u0 + (p * a1 + q * b1 + r * c1) * u1 + (p * a2 + q * b2 + r * c2) * u2 := by grind
theorem part_back {n n' m s L M : Int} (hm : 0 < m) (h : n * m = n' * (s * L)) (d : m ∣ M) : (n' * (M / m)) * (s * L) = n * M := by
  obtain ⟨u, rfl⟩ := d
  rw [Int.mul_ediv_cancel_left _ (by omega)]
  have : n' * u * (s * L) = n' * (s * L) * u := by grind
  rw [this, ← h]
  grind
theorem whole_den {a b L : Int} (hb : 0 < b) (d : b ∣ L) : a * (L / b) * b = a * L := by
  rw [Int.mul_assoc, Int.ediv_mul_cancel d]
/-- the inverse leads the point back -/
theorem turned_back {x : List Int} (hx : isNum x = true) (h0 : zeroB x = false) {a b c d e f : Int} (hb : 0 < b) (hd : 0 < d) (hf : 0 < f) :
    fpL (turnS x) (trpL (turnR x)) (fpL (turnS x) (turnR x) [[a, b], [c, d], [e, f]]) = [fracL a b, fracL c d, fracL e f] ∧ ptB (fpL (turnS x) (turnR x) [[a, b], [c, d], [e, f]]) = true := by
  have im := inv_mul hx h0
  have fx := turn_form hx h0
  have ps := turnS_pos hx h0
  generalize turnS x = s at *
  obtain ⟨r0, r1, r2, r3, r4, r5, r6, r7, r8, er⟩ := form3_rows fx
  rw [er] at im ⊢
  simp only [trpL, mulM, List.cons.injEq, and_true] at im
  obtain ⟨⟨i1, i2, i3⟩, ⟨i4, i5, i6⟩, i7, i8, i9⟩ := im
  obtain ⟨pL, l1, l2, l3⟩ := lcmP_ok (a := a) (c := c) (e := e) hb hd hf
  unfold fpL
  generalize lcmP [[a, b], [c, d], [e, f]] = L at *
  have w0 := whole_den (a := a) hb l1
  have w1 := whole_den (a := c) hd l2
  have w2 := whole_den (a := e) hf l3
  show (List.map _ _ = _) ∧ ptB (List.map _ _) = true
  simp only [wholeP, List.map_cons, List.map_nil, List.getD_cons_zero, List.getD_cons_succ, dot3, trpL]
  generalize a * (L / b) = u0 at *
  generalize c * (L / d) = u1 at *
  generalize e * (L / f) = u2 at *
  have psL := Int.mul_pos ps pL
  obtain ⟨n1', m1', q1, p1, g1, _, _⟩ := frac_ok (a := r0 * u0 + r1 * u1 + r2 * u2) psL
  obtain ⟨n2', m2', q2, p2, g2, _, _⟩ := frac_ok (a := r3 * u0 + r4 * u1 + r5 * u2) psL
  obtain ⟨n3', m3', q3, p3, g3, _, _⟩ := frac_ok (a := r6 * u0 + r7 * u1 + r8 * u2) psL
  rw [q1, q2, q3]
  obtain ⟨pM, t1, t2, t3⟩ := lcmP_ok (a := n1') (c := n2') (e := n3') p1 p2 p3
  generalize lcmP [[n1', m1'], [n2', m2'], [n3', m3']] = M at *
  simp only [List.getD_cons_zero, List.getD_cons_succ]
  have k1 := part_back p1 g1 t1
  have k2 := part_back p2 g2 t2
  have k3 := part_back p3 g3 t3
  generalize n1' * (M / m1') = v1 at *
  generalize n2' * (M / m2') = v2 at *
  generalize n3' * (M / m3') = v3 at *
  have psM := Int.mul_pos ps pM
  refine ⟨?_, ?_⟩
  · rw [frac_eq psM hb (back_frac ps pL k1 k2 k3 (by rw [col_sum, i1, i2, i3, Int.zero_mul, Int.zero_mul, Int.add_zero, Int.add_zero]) w0), frac_eq psM hd (back_frac ps pL k1 k2 k3 (by rw [col_sum, i4, i5, i6, Int.zero_mul, Int.zero_mul, Int.zero_add, Int.add_zero]) w1), frac_eq psM hf (back_frac ps pL k1 k2 k3 (by rw [col_sum, i7, i8, i9, Int.zero_mul, Int.zero_mul, Int.zero_add, Int.zero_add]) w2)]
  · simp [ptB, p1, p2, p3]
theorem pt_len {qs : List (List Int)} (h : ptB qs = true) : qs.length = 3 ∧ ∀ r ∈ qs, r.length = 2 := by
  obtain ⟨a, b, c, d, e, f, rfl, _⟩ := pt_rows h
  exact ⟨rfl, fun r hr => by
    have h2 : r = [a, b] ∨ r = [c, d] ∨ r = [e, f] := by simpa using hr
    rcases h2 with rfl | rfl | rfl <;> rfl⟩
theorem lcmP_pos {qs : List (List Int)} (h : ptB qs = true) : 0 < lcmP qs ∧ ∀ r ∈ qs, 0 < r.getD 1 0 ∧ r.getD 1 0 ∣ lcmP qs := by
  obtain ⟨a, b, c, d, e, f, rfl, h1, h2, h3⟩ := pt_rows h
  obtain ⟨p, q1, q2, q3⟩ := lcmP_ok (a := a) (c := c) (e := e) h1 h2 h3
  exact ⟨p, fun r hr => by
    have h4 : r = [a, b] ∨ r = [c, d] ∨ r = [e, f] := by simpa using hr
    rcases h4 with rfl | rfl | rfl
    · exact ⟨h1, q1⟩
    · exact ⟨h2, q2⟩
    · exact ⟨h3, q3⟩⟩
theorem two_of {r : List Int} (h : r.length = 2) : ∃ a b, r = [a, b] := by
  match r, h with
  | [a, b], _ => exact ⟨a, b, rfl⟩
def lcK (qs : List (List Int)) (k : Nat) : Int := (qs.take k).foldl (fun b r => lcm2 b (r.getD 1 0)) 1
theorem lcK_all (qs : List (List Int)) : lcK qs qs.length = lcmP qs := by unfold lcK lcmP; rw [List.take_length]
theorem lcK_succ (qs : List (List Int)) {k : Nat} (hk : k < qs.length) : lcK qs (k + 1) = lcm2 (lcK qs k) ((qs.getD k []).getD 1 0) := by
  unfold lcK
  rw [foldl_take_succ (List.getElem?_eq_getElem hk)]
  rw [show qs.getD k [] = qs[k] by rw [List.getD_eq_getElem?_getD, List.getElem?_eq_getElem hk]; rfl]
theorem lcK_bt {qs : List (List Int)} (h2 : ∀ r ∈ qs, r.length = 2) (hb : ∀ r ∈ qs, ∀ z ∈ r, Bt 190 z) : ∀ k, k ≤ qs.length → Bt (1 + 190 * k) (lcK qs k)
  | 0, _ => by show (1 : Int).natAbs < 2 ^ (1 + 190 * 0); decide
  | k + 1, hk => by
    rw [lcK_succ qs (by omega)]
    have hm := getD_mem (show k < qs.length by omega)
    have := lcm2_bt (lcK_bt h2 hb k (by omega)) (hb _ hm _ (getD_mem4 (k := 1) (by rw [h2 _ hm]; decide)))
    exact bt_up this (by omega)
/-! ### the law's point -/
def denP (b : Int) : Int := ([1, 1, 6, 1 + b] : List Int).getD (b % 4).toNat 0
def ptQ (ns : List Int) (k : Nat) : List Int := [ns.getD (30 + 2 * k) 0 - 500, denP (ns.getD (31 + 2 * k) 0)]
theorem den_ok {b : Int} (h0 : 0 ≤ b) (h : b < 1009) : 0 < denP b ∧ Bt 11 (denP b) := by
  unfold denP Bt
  have h4 : (b % 4).toNat = 0 ∨ (b % 4).toNat = 1 ∨ (b % 4).toNat = 2 ∨ (b % 4).toNat = 3 := by omega
  rcases h4 with e | e | e | e <;> rw [e]
  · show (0 : Int) < 1 ∧ (1 : Int).natAbs < 2 ^ 11
    decide
  · show (0 : Int) < 1 ∧ (1 : Int).natAbs < 2 ^ 11
    decide
  · show (0 : Int) < 6 ∧ (6 : Int).natAbs < 2 ^ 11
    decide
  · show 0 < 1 + b ∧ (1 + b).natAbs < 2 ^ 11
    omega
theorem pt_three {ns : List Int} (hin : In9 ns) (hl : 36 < ns.length) : ∃ a b c d e f, (List.range 3).map (ptQ ns) = [[a, b], [c, d], [e, f]] ∧ 0 < b ∧ 0 < d ∧ 0 < f ∧ ∀ r ∈ [[a, b], [c, d], [e, f]], ∀ z ∈ r, Bt 11 z := by
  have hn := fun k => hin.get k
  obtain ⟨p1, q1⟩ := den_ok (hn 31).1 (hn 31).2
  obtain ⟨p2, q2⟩ := den_ok (hn 33).1 (hn 33).2
  obtain ⟨p3, q3⟩ := den_ok (hn 35).1 (hn 35).2
  have nb : ∀ k, Bt 11 (ns.getD k 0 - 500) := fun k => by have := hn k; unfold Bt; omega
  refine ⟨_, _, _, _, _, _, rfl, p1, p2, p3, fun r hr z hz => ?_⟩
  simp only [List.mem_cons, List.not_mem_nil, or_false] at hr
  rcases hr with rfl | rfl | rfl <;> (simp only [List.mem_cons, List.not_mem_nil, or_false] at hz; rcases hz with rfl | rfl)
  · exact nb 30
  · exact q1
  · exact nb 32
  · exact q2
  · exact nb 34
  · exact q3
/-- the law's fractions are the program's -/
theorem due_fp {s a b c d e f M : Int} {rs : List (List Int)} (hs : 0 < s) (hf : form3 rs = true) (hb : 0 < b) (hd : 0 < d) (hf2 : 0 < f) (hM : 0 < M) (m1 : b ∣ M) (m2 : d ∣ M) (m3 : f ∣ M) :
    (tmL rs (wholeP M [[a, b], [c, d], [e, f]])).map (fun p => fracL p (s * M)) = fpL s rs [[a, b], [c, d], [e, f]] := by
  obtain ⟨pL, l1, l2, l3⟩ := lcmP_ok (a := a) (c := c) (e := e) hb hd hf2
  unfold fpL tmL
  generalize lcmP [[a, b], [c, d], [e, f]] = L at *
  rw [List.map_map]
  refine List.map_congr_left fun r hr => ?_
  have h3 := form_len hf r hr
  obtain ⟨r0, r1, r2, rfl⟩ := three h3
  show fracL (r0 * (a * (M / b)) + r1 * (c * (M / d)) + r2 * (e * (M / f))) (s * M) = fracL (dtL [r0, r1, r2] [a * (L / b), c * (L / d), e * (L / f)]) (s * L)
  rw [dot3]
  exact whole_frac hs hM pL hb hd hf2 m1 m2 m3 l1 l2 l3
/-- the fractions are not great -/
theorem fp_b {s : Int} {rs qs : List (List Int)} (hs : 0 < s) (h3 : ∀ r ∈ rs, r.length = 3) (hb : ∀ r ∈ rs, ∀ z ∈ r, Bt 89 z) (hs2 : Bt 89 s) (hp : ptB qs = true) (hq : ∀ r ∈ qs, ∀ z ∈ r, Bt 11 z) : ∀ r ∈ fpL s rs qs, ∀ z ∈ r, Bt 140 z := by
  intro r hr z hz
  obtain ⟨t, ht, rfl⟩ := List.mem_map.mp hr
  obtain ⟨pL, hdv⟩ := lcmP_pos hp
  have hl := (pt_len hp).2
  have bL : Bt 34 (lcmP qs) := by
    obtain ⟨a, b, c, d, e, f, rfl, _⟩ := pt_rows hp
    exact lcm2_bt (lcm2_bt (lcm2_bt (show Bt 1 1 by show (1 : Int).natAbs < 2 ^ 1; decide) (hq [a, b] (by simp) b (by simp))) (hq [c, d] (by simp) d (by simp))) (hq [e, f] (by simp) f (by simp))
  have wb : ∀ z ∈ wholeP (lcmP qs) qs, Bt 45 z := fun z hz => by
    obtain ⟨u, hu, rfl⟩ := List.mem_map.mp hz
    have := hl u hu
    exact bt_mul (hq u hu _ (getD_mem4 (by omega))) (quo_bt (hdv u hu).1 bL)
  have wl : (wholeP (lcmP qs) qs).length = 3 := by unfold wholeP; rw [List.length_map]; exact (pt_len hp).1
  obtain ⟨w0, w1, w2, ew⟩ := three wl
  rw [ew] at wb hz
  obtain ⟨t0, t1, t2, rfl⟩ := three (h3 t ht)
  have tb := hb _ ht
  have bd : Bt (89 + 45 + 2) (dtL [t0, t1, t2] [w0, w1, w2]) := by
    rw [dot3]
    exact bt_s3 (bt_mul (tb _ (by simp)) (wb _ (by simp))) (bt_mul (tb _ (by simp)) (wb _ (by simp))) (bt_mul (tb _ (by simp)) (wb _ (by simp)))
  rcases frac_bt (Int.mul_pos hs pL) bd (bt_mul hs2 bL) z hz with h | h
  · exact bt_up h (by decide)
  · exact bt_up h (by decide)
theorem shown_tis {b : Nat} {rs : List (List Int)} (hb : 7 ≤ b) (hb2 : b ≤ 400) (hn : rs.length ≤ 4) (hr : ∀ r ∈ rs, r.length ≤ 4 ∧ ∀ z ∈ r, Bt b z) : Shown (.tuple (rs.map ti)) := by
  obtain ⟨g, g2⟩ := leaves_tis (by omega) (by omega) (k := 4) hr
  refine shown_of (leaf_tup g) (fun _ e => by cases e) hb ?_
  have h1 : rs.length * (4 * (b + 1) + 1) ≤ 4 * (4 * 401 + 1) := Nat.mul_le_mul hn (by omega)
  have h2 : (b + 3) * (rs.length * (4 * (b + 1) + 1)) ≤ 403 * (4 * (4 * 401 + 1)) := Nat.mul_le_mul (by omega) h1
  omega
theorem sh_tis (rs : List (List Int)) : SeqAt.shaped (.tuple (rs.map ti)) = true := by
  obtain ⟨h1, h2⟩ := lay_tis rs
  simp only [SeqAt.shaped, PyData.canLay0, PyData.depth, h1, Bool.true_and]
  exact decide_eq_true (by omega)
theorem lay_lis : ∀ xs : List (List Int), PyData.canLayAll0 (xs.map li) = true ∧ PyData.depthAll (xs.map li) ≤ 2
  | [] => by simp [PyData.canLayAll0, PyData.depthAll]
  | x :: xs => by
    obtain ⟨h1, h2⟩ := lay_lis xs
    have h := lay_ints x
    have h3 := h.2
    simp only [List.map_cons, PyData.canLayAll0, PyData.depthAll, h1, PyData.canLay0, PyData.depth, h.1]
    exact ⟨rfl, by omega⟩
theorem sh_lis (rs : List (List Int)) : SeqAt.shaped (.list (rs.map li)) = true := by
  obtain ⟨h1, h2⟩ := lay_lis rs
  simp only [SeqAt.shaped, PyData.canLay0, PyData.depth, h1, Bool.true_and]
  exact decide_eq_true (by omega)
end TB

namespace TB
open PySem L2 PySem.Spec PyProof.Rows
section
variable {X : Cx} {F0 H0 : Hp} {Γ : List S} {e : Expr} {i : Int}
/-- an integer as a test -/
theorem jt_int (h : JE X WF F0 H0 Γ e (.v (.int i))) (he : ∀ whole, isTrue e X.env whole = (do let v ← whole; standAt e.pos; holding [v] (truthy v)) := by intro _; rfl) : JT X F0 H0 Γ e (decide (i ≠ 0)) :=
  pt_imp (pt_truth h he) fun σ H Q ⟨F, ok, q⟩ => ⟨F, ok, fun v F1 H1 z1 d1 => by
    cases d1
    refine ⟨i != 0, rfl, ?_⟩
    have : (i != 0) = decide (i ≠ 0) := by
      by_cases h : i = 0
      · subst h; rfl
      · rw [decide_eq_true h]; exact bne_iff_ne.mpr h
    rw [this]
    exact q F1 H1 z1⟩
end
/-- an integer of the module -/
theorem dp_int {K : PySem.W.Frag} (z : Int) : ∀ F, Dp K F (.int z) (.int z) := fun F => .int z
theorem dp_k5 {K : PySem.W.Frag} {a : Addr} {od : Option Addr} {x y z t v : Int} {u1 u2 u3 u4 u5 : Tok} {n : Nat} {sl : Array (Option Value)} (h : K.lookup a = some ⟨.type "tuple", od, .seq #[.int x u1, .int y u2, .int z u3, .int t u4, .int v u5] n, sl⟩) : ∀ F, Dp K F (.ref a) (ti [x, y, z, t, v]) := fun F =>
  .tup (xs := [.int x, .int y, .int z, .int t, .int v]) (.inr ⟨_, _, _, h, rfl, rfl, (by show 5 ≤ sizeLine; decide), .cons ⟨_, rfl⟩ (.cons ⟨_, rfl⟩ (.cons ⟨_, rfl⟩ (.cons ⟨_, rfl⟩ (.cons ⟨_, rfl⟩ .nil))))⟩) (da_of_ints [x, y, z, t, v])
/-! ### powers modulo an integer -/
def pmS (m : Int) (s : Int × Int × Int) : Int × Int × Int := (if s.2.2 % 2 = 0 then s.1 else s.1 * s.2.1 % m, s.2.1 * s.2.1 % m, s.2.2 / 2)
def pmK (m : Int) (s : Int × Int × Int) : Nat → Int × Int × Int
  | 0 => s
  | k + 1 => pmS m (pmK m s k)
def bitsN (n : Nat) : Nat := if n = 0 then 0 else n.log2 + 1
def powF (m b e : Int) : Int := (pmK m (1, b, e) (bitsN e.toNat)).1
theorem pm_exp (m b : Int) (n : Nat) (f : Int) : ∀ k, (pmK m (f, b, (n : Int)) k).2.2 = ((n / 2 ^ k : Nat) : Int)
  | 0 => by show (n : Int) = _; simp
  | k + 1 => by
    show (pmK m (f, b, (n : Int)) k).2.2 / 2 = _
    rw [pm_exp m b n f k, Nat.pow_succ, ← Nat.div_div_eq_div_mul]
    try rfl
theorem bits_lo {n k : Nat} (h : k < bitsN n) : n / 2 ^ k ≠ 0 := by
  unfold bitsN at h
  by_cases z : n = 0
  · rw [if_pos z] at h; omega
  · rw [if_neg z] at h
    have : 2 ^ k ≤ n := Nat.le_trans (Nat.pow_le_pow_right (by decide) (by omega : k ≤ n.log2)) (Nat.log2_self_le z)
    have := Nat.div_pos this (Nat.pow_pos (by decide))
    omega
theorem bits_hi (n : Nat) : n / 2 ^ bitsN n = 0 := by
  unfold bitsN
  by_cases z : n = 0
  · rw [if_pos z, z]
  · rw [if_neg z]
    exact Nat.div_eq_of_lt ((Nat.log2_lt z).mp (Nat.lt_succ_self _))
theorem mod_bt {m x : Int} {n : Nat} (hm : 0 < m) (hb : Bt n m) : Bt n (x % m) := by
  have h1 := Int.emod_nonneg x (by omega : m ≠ 0)
  have h2 := Int.emod_lt_of_pos x hm
  unfold Bt at *
  omega
theorem pm_bt {m b e : Int} (hm : 0 < m) (hb : Bt 64 m) (h1 : Bt 64 b) : ∀ k, Bt 64 (pmK m (1, b, e) k).1 ∧ Bt 64 (pmK m (1, b, e) k).2.1
  | 0 => ⟨by show (1 : Int).natAbs < 2 ^ 64; decide, h1⟩
  | k + 1 => by
    obtain ⟨p, q⟩ := pm_bt hm hb h1 k
    refine ⟨?_, mod_bt hm hb⟩
    show Bt 64 (if _ then _ else _)
    split
    · exact p
    · exact mod_bt hm hb
def R_powm : List D → Out → Prop := fun ds o => ∃ b e m : Int, ds = [.int b, .int e, .int m] ∧ 0 ≤ e ∧ 0 < m ∧ Bt 64 m ∧ Bt 64 b ∧ o = .v (.int (powF m b e))
/-! ### the test of primes -/
def tzF : Nat → Nat → Nat
  | 0, _ => 0
  | f + 1, n => if n % 2 = 0 then tzF f (n / 2) + 1 else 0
theorem tz_ok : ∀ f n, 0 < n → n < 2 ^ f → (∀ k, k < tzF f n → n / 2 ^ k % 2 = 0) ∧ n / 2 ^ tzF f n % 2 = 1
  | 0, n, h, h2 => by simp at h2; omega
  | f + 1, n, h, h2 => by
    unfold tzF
    by_cases e : n % 2 = 0
    · rw [if_pos e]
      obtain ⟨p, q⟩ := tz_ok f (n / 2) (by omega) (by rw [Nat.pow_succ] at h2; omega)
      refine ⟨fun k hk => ?_, ?_⟩
      · cases k with
        | zero => simpa using e
        | succ k =>
          have := p k (by omega)
          rw [Nat.div_div_eq_div_mul, Nat.mul_comm, ← Nat.pow_succ] at this
          exact this
      · rw [Nat.div_div_eq_div_mul, Nat.mul_comm, ← Nat.pow_succ] at q
        exact q
    · rw [if_neg e]
      refine ⟨fun k hk => by omega, ?_⟩
      simp
      omega
def sqK (m p : Int) : Nat → Int
  | 0 => p
  | k + 1 => sqK m p k * sqK m p k % m
def passF (v b : Int) : Bool :=
  let s := tzF 64 (v - 1).toNat
  let p := powF v b ((((v - 1).toNat / 2 ^ s : Nat)) : Int)
  decide (p = 1) || (match (List.range s).find? (fun k => decide (sqK v p k = v - 1)) with | some _ => true | none => false)
def basesL : List Int := [2, 3, 5, 7, 11]
def isPrimeF (v : Int) : Bool := if 2 ≤ v ∧ v ≤ 1000000000000 then (match (List.range 5).find? (fun k => decide (v % basesL.getD k 0 = 0)) with | some k => decide (v = basesL.getD k 0) | none => basesL.all (passF v)) else false
def R_pass : List D → Out → Prop := fun ds o => ∃ v b : Int, ds = [.int v, .int b] ∧ 2 ≤ v ∧ v ≤ 1000000000000 ∧ Bt 64 b ∧ o = .v (.bool (passF v b))
def R_isp : List D → Out → Prop := fun ds o => ∃ v : Int, ds = [.int v] ∧ o = .v (.bool (isPrimeF v))
theorem sq_bt {m p : Int} (hm : 0 < m) (hb : Bt 64 m) (hp : Bt 64 p) : ∀ k, Bt 64 (sqK m p k)
  | 0 => hp
  | k + 1 => mod_bt hm hb
theorem powF_bt {m b e : Int} (hm : 0 < m) (hb : Bt 64 m) (h1 : Bt 64 b) : Bt 64 (powF m b e) := (pm_bt hm hb h1 _).1
section
variable {X : Cx} {W : WX} {F0 H0 : Hp} {Γ : List S} {e : Expr} {pos : Pos}
/-- n op= e, ints -/
theorem js_augI {op : Operator} {g : Int → Int → Int} {C : Int → Int → Prop} (ho : OpR X (inplaceOp op) (rI C fun i j => .int (g i j))) (i : Nat) {n : Str} {pos' : Pos} {k l : Int} (hc : C k l) (gs : Γ[i]? = some (.d (.int k))) (hN : X.N.Nodup) (he : JE X W F0 H0 Γ e (.v (.int l))) (hi : X.N[i]? = some n := by rfl) (hx : Loc X.env.scope n := by first | exact Or.inl rfl | exact Or.inr rfl) (hf : X.fn n = true ∨ X.env.scope.names.lookup n = some .local := by first | exact .inl rfl | exact .inr rfl) :
    JS X W F0 H0 Γ (.AugAssign (.Name n pos') op e pos) (.nx (Γ.set i (.d (.int (g k l))))) :=
  ps_imp (ps_aug hN hi hx he ho hf) fun D' σ H ⟨F, ok, q⟩ => by
    obtain ⟨v, e1, d1⟩ := ok.at gs
    cases d1
    exact ⟨_, e1, F, ok, fun v F' H' z d => by
      cases d
      exact ⟨k, l, rfl, rfl, hc, q _ F' H' z.f ((ok.mono z).set i (.int _))⟩⟩
theorem js_augFd (i : Nat) {n : Str} {pos' : Pos} {k l : Int} (hc : CDiv k l) (gs : Γ[i]? = some (.d (.int k))) (hN : X.N.Nodup) (he : JE X W F0 H0 Γ e (.v (.int l))) (hi : X.N[i]? = some n := by rfl) (hx : Loc X.env.scope n := by first | exact Or.inl rfl | exact Or.inr rfl) (hf : X.fn n = true ∨ X.env.scope.names.lookup n = some .local := by first | exact .inl rfl | exact .inr rfl) :
    JS X W F0 H0 Γ (.AugAssign (.Name n pos') .FloorDiv e pos) (.nx (Γ.set i (.d (.int (k / l))))) := js_augI iop_fdiv i hc gs hN he hi hx hf
theorem js_augFdW (i : Nat) {n : Str} {pos' : Pos} {k l : Int} (hc : CDivW k l) (gs : Γ[i]? = some (.d (.int k))) (hN : X.N.Nodup) (he : JE X W F0 H0 Γ e (.v (.int l))) (hi : X.N[i]? = some n := by rfl) (hx : Loc X.env.scope n := by first | exact Or.inl rfl | exact Or.inr rfl) (hf : X.fn n = true ∨ X.env.scope.names.lookup n = some .local := by first | exact .inl rfl | exact .inr rfl) :
    JS X W F0 H0 Γ (.AugAssign (.Name n pos') .FloorDiv e pos) (.nx (Γ.set i (.d (.int (k / l))))) := js_augI iop_fdivW i hc gs hN he hi hx hf
theorem js_augMul (i : Nat) {n : Str} {pos' : Pos} {k l : Int} (hc : CMul k l) (gs : Γ[i]? = some (.d (.int k))) (hN : X.N.Nodup) (he : JE X W F0 H0 Γ e (.v (.int l))) (hi : X.N[i]? = some n := by rfl) (hx : Loc X.env.scope n := by first | exact Or.inl rfl | exact Or.inr rfl) (hf : X.fn n = true ∨ X.env.scope.names.lookup n = some .local := by first | exact .inl rfl | exact .inr rfl) :
    JS X W F0 H0 Γ (.AugAssign (.Name n pos') .Mult e pos) (.nx (Γ.set i (.d (.int (k * l))))) := js_augI iop_mul i hc gs hN he hi hx hf
end
theorem tz_le : ∀ f n, tzF f n ≤ f
  | 0, _ => Nat.le_refl _
  | f + 1, n => by
    unfold tzF
    split
    · have := tz_le f (n / 2); omega
    · omega
theorem base_pos {k : Nat} (h : k < basesL.length) : 0 < basesL.getD k 0 := by
  have h5 : k < 5 := h
  have : k = 0 ∨ k = 1 ∨ k = 2 ∨ k = 3 ∨ k = 4 := by omega
  rcases this with rfl | rfl | rfl | rfl | rfl <;> decide
theorem base_bt {b : Int} (h : b ∈ basesL) : Bt 64 b := by
  have : b = 2 ∨ b = 3 ∨ b = 5 ∨ b = 7 ∨ b = 11 := by simpa [basesL] using h
  rcases this with rfl | rfl | rfl | rfl | rfl <;> (unfold Bt; decide)
end TB

namespace TB
open PySem L2 PySem.Spec PyProof.Rows
/-! ### dicts of one's own: keys integers or texts, data behind them -/
def kD : Key → D
  | .inl i => .int i
  | .inr s => .str s
def dkO (kvs : List (Key × D)) : Own := .dk (kvs.map fun p => (p.1, .dat p.2))
def lookD (kvs : List (Key × D)) (k : Key) : Option D := (kvs.find? fun kv => decide (kv.1 = k)).map (·.2)
def putD (kvs : List (Key × D)) (k : Key) (d : D) : List (Key × D) := if (kvs.any fun kv => decide (kv.1 = k)) = true then kvs.map (fun kv => if kv.1 = k then (kv.1, d) else kv) else kvs ++ [(k, d)]
def KvD (K : PySem.W.Frag) (F : Hp) (acc : List (Key × V)) (kvs : List (Key × D)) : Prop := acc.map (·.1) = kvs.map (·.1) ∧ DpAll K F (acc.map (·.2)) (kvs.map (·.2))
section
variable {K : PySem.W.Frag} {F F' H : Hp}
theorem KvD.mono {acc : List (Key × V)} {kvs : List (Key × D)} (e : Ex F F') (h : KvD K F acc kvs) : KvD K F' acc kvs := ⟨h.1, da_ex e _ _ h.2⟩
theorem KvD.len {acc : List (Key × V)} {kvs : List (Key × D)} (h : KvD K F acc kvs) : acc.length = kvs.length := by
  have := congrArg List.length h.1
  simpa using this
theorem KvD.cons {a : Key × V} {b : Key × D} {acc : List (Key × V)} {kvs : List (Key × D)} (h : KvD K F (a :: acc) (b :: kvs)) : a.1 = b.1 ∧ Dp K F a.2 b.2 ∧ KvD K F acc kvs := by
  obtain ⟨h1, h2⟩ := h
  simp only [List.map_cons, List.cons.injEq] at h1
  cases h2 with
  | cons p q => exact ⟨h1.1, p, h1.2, q⟩
theorem KvD.mk {a : Key × V} {b : Key × D} {acc : List (Key × V)} {kvs : List (Key × D)} (h1 : a.1 = b.1) (h2 : Dp K F a.2 b.2) (h3 : KvD K F acc kvs) : KvD K F (a :: acc) (b :: kvs) :=
  ⟨by simp only [List.map_cons, List.cons.injEq]; exact ⟨h1, h3.1⟩, .cons h2 h3.2⟩
theorem KvD.nil : KvD K F [] [] := ⟨rfl, .nil⟩
theorem KvD.look (k : Key) : ∀ {acc : List (Key × V)} {kvs : List (Key × D)}, KvD K F acc kvs → match lookD kvs k with
    | some d => ∃ v, valV acc k = some v ∧ Dp K F v d
    | none => valV acc k = none
  | [], [], _ => rfl
  | [], b :: kvs, h => by have := h.len; simp at this
  | a :: acc, [], h => by have := h.len; simp at this
  | a :: acc, b :: kvs, h => by
    obtain ⟨h1, h2, h3⟩ := h.cons
    by_cases e : b.1 = k
    · have l : lookD (b :: kvs) k = some b.2 := by simp [lookD, List.find?_cons, e]
      rw [l]
      exact ⟨a.2, valV_pos (h1.trans e), h2⟩
    · have l : lookD (b :: kvs) k = lookD kvs k := by simp [lookD, List.find?_cons, e]
      rw [l, valV_neg (fun q => e (h1.symm.trans q))]
      exact KvD.look k h3
theorem KvD.app : ∀ {acc : List (Key × V)} {kvs : List (Key × D)} {a : Key × V} {b : Key × D}, KvD K F acc kvs → a.1 = b.1 → Dp K F a.2 b.2 → KvD K F (acc ++ [a]) (kvs ++ [b])
  | [], [], _, _, _, h1, h2 => KvD.mk h1 h2 KvD.nil
  | [], b :: kvs, _, _, h, _, _ => by have := h.len; simp at this
  | a :: acc, [], _, _, h, _, _ => by have := h.len; simp at this
  | a :: acc, b :: kvs, _, _, h, g1, g2 => by
    obtain ⟨h1, h2, h3⟩ := h.cons
    exact KvD.mk h1 h2 (KvD.app h3 g1 g2)
theorem KvD.any (k : Key) : ∀ {acc : List (Key × V)} {kvs : List (Key × D)}, KvD K F acc kvs → (acc.any fun kv => decide (kv.1 = k)) = (kvs.any fun kv => decide (kv.1 = k))
  | [], [], _ => rfl
  | [], b :: kvs, h => by have := h.len; simp at this
  | a :: acc, [], h => by have := h.len; simp at this
  | a :: acc, b :: kvs, h => by
    obtain ⟨h1, h2, h3⟩ := h.cons
    rw [List.any_cons, List.any_cons, KvD.any k h3, h1]
theorem KvD.repl (k : Key) {v : V} {d : D} (hd : Dp K F v d) : ∀ {acc : List (Key × V)} {kvs : List (Key × D)}, KvD K F acc kvs → KvD K F (acc.map fun kv => if kv.1 = k then (kv.1, v) else kv) (kvs.map fun kv => if kv.1 = k then (kv.1, d) else kv)
  | [], [], _ => KvD.nil
  | [], b :: kvs, h => by have := h.len; simp at this
  | a :: acc, [], h => by have := h.len; simp at this
  | a :: acc, b :: kvs, h => by
    obtain ⟨h1, h2, h3⟩ := h.cons
    rw [List.map_cons, List.map_cons]
    by_cases e : b.1 = k
    · rw [if_pos (h1.trans e), if_pos e]
      exact KvD.mk h1 hd (KvD.repl k hd h3)
    · rw [if_neg (fun q => e (h1.symm.trans q)), if_neg e]
      exact KvD.mk h1 h2 (KvD.repl k hd h3)
theorem KvD.put {acc : List (Key × V)} {kvs : List (Key × D)} {k : Key} {v : V} {d : D} (h : KvD K F acc kvs) (hd : Dp K F v d) : KvD K F (putK acc k v) (putD kvs k d) := by
  unfold putK putD
  rw [h.any k]
  split
  · exact KvD.repl k hd h
  · exact KvD.app h rfl hd
theorem dk_inv {kvs : List (Key × D)} {v : V} {fp : List Addr} (h : OA K F H (dkO kvs) v fp) : ∃ p acc, v = .ref p ∧ H p = some (.dK acc) ∧ KvD K F acc kvs ∧ fp = [p] := by
  unfold dkO at h
  cases h with
  | dk e hk l =>
    rw [show (kvs.map fun p => (p.1, Own.dat p.2)).map (·.2) = (kvs.map (·.2)).map .dat by rw [List.map_map, List.map_map]; rfl] at l
    obtain ⟨d, rfl⟩ := dat_ol l
    rw [show (kvs.map fun p => (p.1, Own.dat p.2)).map (·.1) = kvs.map (·.1) by rw [List.map_map]; rfl] at hk
    exact ⟨_, _, rfl, e, ⟨hk, d⟩, rfl⟩
theorem dk_oa {kvs : List (Key × D)} {p : Addr} {acc : List (Key × V)} (e : H p = some (.dK acc)) (h : KvD K F acc kvs) : OA K F H (dkO kvs) (.ref p) [p] := by
  have l : OL K F H ((kvs.map (·.2)).map .dat) (acc.map (·.2)) [] := ol_dat h.2
  have := OA.dk (os := kvs.map fun p => (p.1, Own.dat p.2)) e (by rw [h.1, List.map_map]; rfl) (by rw [List.map_map]; rw [List.map_map] at l; exact l)
  exact this
end
section
variable {K : PySem.W.Frag} {F0 H0 : Hp} {Γ : List S} {W : WX}
/-- where a dict comprehension goes -/
theorem dcA_red {α : Type} {xs : List α} {enc : α → D} {t : Tgt} {fk : α → Key} {fv : α → D} {tt : TT} (hf : ∀ a ∈ xs, t.fits (enc a)) (ht : ∀ a, a ∈ xs → ∀ σ H Q, tT K F0 H0 (t.put (enc a) (wipeG Γ t.vs)) true σ H Q → tt σ H Q) (hl : xs.length < 100000) :
    ∀ σ H Q, tE K W F0 H0 Γ (.q (dkO (xs.foldl (fun acc a => putD acc (fk a) (fv a)) []))) σ H Q → tDc (tI K F0 H0 Γ (xs.map enc)) (t.g K) tt (fun σ H Q => ∃ a, a ∈ xs ∧ tE K WF F0 H0 (t.put (enc a) (wipeG Γ t.vs)) (.v (kD (fk a))) σ H Q) (fun σ H Q => ∃ a, a ∈ xs ∧ tE K WF F0 H0 (t.put (enc a) (wipeG Γ t.vs)) (.v (fv a)) σ H Q) t.vs σ H Q := by
  rintro σ H Q ⟨F, ok, q⟩
  refine ⟨F, ok, fun J F1 H1 z1 it1 D nD => ?_⟩
  have ok1 := ok.mono z1
  have nD1 : F1 D = none := z1.s.none nD
  refine ⟨fun k m H2 => m = xs.length - k ∧ k ≤ xs.length ∧ ∃ F2 acc, Fz F1 H1 F2 H2 ∧ H2 D = some (.dK acc) ∧ F2 D = none ∧ acc.length ≤ k ∧ KvD K F2 acc ((xs.take k).foldl (fun acc a => putD acc (fk a) (fv a)) []), ⟨xs.length, by simp, Nat.zero_le _, F1, [], Fz.fresh z1.s nD, upd_same, nD1, Nat.le_refl _, KvD.nil⟩, ?_⟩
  rintro k m H2 ⟨rfl, hk, F2, acc, z2, a1, a2, al, a3⟩
  obtain ⟨go, stop⟩ := it1 F2 H2 k z2.f z2.s
  by_cases hlt : k < xs.length
  · have hd : xs[k]? = some xs[k] := List.getElem?_eq_getElem hlt
    have hmem : xs[k] ∈ xs := List.getElem_mem hlt
    have hdm : (xs.map enc)[k]? = some (enc xs[k]) := by rw [List.getElem?_map, hd]; rfl
    obtain ⟨g1, g2⟩ := go _ hdm
    refine .inr ⟨g1, fun H' => ∃ F3 acc', Fz F1 H1 F3 H' ∧ H' D = some (.dK acc') ∧ F3 D = none ∧ acc'.length ≤ k + 1 ∧ KvD K F3 acc' ((xs.take (k + 1)).foldl (fun acc a => putD acc (fk a) (fv a)) []), fun H' h' => ⟨xs.length - (k + 1), by omega, rfl, hlt, h'⟩, fun x H' y => ?_⟩
    obtain ⟨F3, z3, d3⟩ := g2 x H' y
    have a1' := z3.h D _ a1
    have a2' := z3.n D _ a2 a1
    refine tgt_run (Γ := Γ) (F0 := F0) (H0 := H0) (fun i h => h) (hf _ hmem) z3.s d3 fun σ' hw tr => ?_
    have o2 := tr _ _ (Ex.refl _) ((ok1.mono z2).mono z3)
    refine ⟨hw, ht _ hmem _ _ _ ⟨F3, o2, fun F4 H4 z4 => ?_⟩⟩
    have b1 := z4.h D _ a1'
    have b2 := z4.n D _ a2' a1'
    refine iteT ⟨xs[k], hmem, F4, o2.mono z4, fun kv F5 H5 z5 d5 => ⟨xs[k], hmem, F5, (o2.mono z4).mono z5, fun v F6 H6 z6 d6 => ⟨acc, fk xs[k], ?_, z6.h D _ (z5.h D _ b1), ?_, F6, _, ?_, upd_same, z6.n D _ (z5.n D _ b2 b1) (z5.h D _ b1), ?_, ?_⟩⟩⟩
    · cases q5 : fk xs[k] with
      | inl i => rw [q5] at d5; cases d5; rfl
      | inr s => rw [q5] at d5; cases d5; rfl
    · exact Nat.lt_of_lt_of_le (by omega : acc.length < 100000) (by decide)
    · have zz := (((z2.trans z3).trans z4).trans z5).trans z6
      have n6 := z6.n D _ (z5.n D _ b2 b1) (z5.h D _ b1)
      refine ⟨zz.f, fun c o hc => ?_, fun c o hc => ?_, zz.n⟩
      · rw [upd_ne (ne_of_none hc nD)]
        exact zz.h c o hc
      · rw [upd_ne (ne_of_none hc n6)]
        exact zz.s c o hc
    · unfold putK
      split
      · rw [List.length_map]; omega
      · rw [List.length_append]; simp; omega
    · rw [foldl_take_succ hd]
      exact (a3.mono (((z3.f.trans z4.f).trans z5.f).trans z6.f)).put d6
  · have hke : k = xs.length := by omega
    refine .inl ⟨stop (by rw [List.length_map]; exact hke), ?_⟩
    subst hke
    rw [List.take_length] at a3
    exact q (.ref D) [D] F2 H2 (z1.trans z2) (dk_oa a1 a3) (by simp) fun a ha => by
      rw [List.mem_singleton] at ha
      subst ha
      exact ⟨z1.h.none nD, a2⟩
end
section
variable {X : Cx} {W : WX} {F0 H0 : Hp} {Γ : List S} {kx vx tg it : Expr} {pos : Pos} {scope : Scope} {α : Type} {xs : List α} {enc : α → D} {fk : α → Key} {fv : α → D} {own : List (Str × Nat)}
theorem je_dc (t : Tgt) (hc : X.calm = true) (hN : X.N.Nodup) (hi : JI X F0 H0 Γ tg it (xs.map enc)) (ok : BlkOk X.N X.env.scope scope own) (hl : xs.length < 100000) (hf : ∀ a ∈ xs, t.fits (enc a))
    (hg : ∀ (s : Shared) (H : Hp) (C : Addr) (cl : List (Str × Addr)) (fp : List Addr), PG (Bk X s H scope C cl fp) tg (t.g X.K))
    (hk : ∀ a, a ∈ xs → ∀ (s : Shared) (H : Hp) (C : Addr) (cl : List (Str × Addr)) (fp : List Addr), JE (Bk X s H scope C cl fp) WF F0 H0 (t.put (enc a) (wipeG Γ t.vs)) kx (.v (kD (fk a))))
    (he : ∀ a, a ∈ xs → ∀ (s : Shared) (H : Hp) (C : Addr) (cl : List (Str × Addr)) (fp : List Addr), JE (Bk X s H scope C cl fp) WF F0 H0 (t.put (enc a) (wipeG Γ t.vs)) vx (.v (fv a)))
    (ho : own.map (·.2) = t.vs := by rfl) (hs : ∀ x, foldedSetIterable it X.env x = pure x := by intro _; rfl) :
    JE X W F0 H0 Γ (.DictComp kx vx [⟨tg, it, [], 0⟩] scope pos) (.q (dkO (xs.foldl (fun acc a => putD acc (fk a) (fv a)) []))) := by
  refine pe_imp (pe_dc (own := own) (g := t.g X.K) (tt := fun σ H Q => ∃ a, a ∈ xs ∧ tT X.K F0 H0 (t.put (enc a) (wipeG Γ t.vs)) true σ H Q) (tk := fun σ H Q => ∃ a, a ∈ xs ∧ tE X.K WF F0 H0 (t.put (enc a) (wipeG Γ t.vs)) (.v (kD (fk a))) σ H Q) (tv := fun σ H Q => ∃ a, a ∈ xs ∧ tE X.K WF F0 H0 (t.put (enc a) (wipeG Γ t.vs)) (.v (fv a)) σ H Q) hc hN hi ok hg
    (fun s H C cl fp => ⟨fun pins s' σ H' Q I ⟨a, ha, q⟩ => (jts_nil (X := Bk X s H scope C cl fp)).run pins s' σ H' Q I q⟩)
    (fun s H C cl fp => ⟨fun pins s' σ H' Q I ⟨a, ha, q⟩ => (hk a ha s H C cl fp).run pins s' σ H' Q I q⟩)
    (fun s H C cl fp => ⟨fun pins s' σ H' Q I ⟨a, ha, q⟩ => (he a ha s H C cl fp).run pins s' σ H' Q I q⟩) hs) ?_
  rw [ho]
  exact dcA_red hf (fun a ha σ H Q q => ⟨a, ha, q⟩) hl
end
section
variable {K : PySem.W.Frag} {F0 H0 F H : Hp} {σ : L2.St} {Γ : List S}
theorem kd_v {u : V} {k : Key} (h : Dp K F u (kD k)) : u = kV k := by
  cases k with
  | inl i => cases h; rfl
  | inr s => cases h; rfl
theorem Ok.dict (ok : Ok K F0 H0 F σ H Γ) {i : Nat} {kvs : List (Key × D)} (g : Γ[i]? = some (.q (dkO kvs))) : ∃ p acc, σ[i]? = some (some (.ref p)) ∧ H p = some (.dK acc) ∧ F p = none ∧ H0 p = none ∧ KvD K F acc kvs := by
  obtain ⟨v, fp, e1, e2, e3, e4⟩ := ok.tree g
  obtain ⟨p, acc, rfl, h1, h2, rfl⟩ := dk_inv e2
  exact ⟨p, acc, e1, h1, (e4 p (by simp)).1, (e4 p (by simp)).2, h2⟩
theorem Ok.dwrite (h : Ok K F0 H0 F σ H Γ) {i : Nat} {kvs kvs' : List (Key × D)} {p : Addr} {acc : List (Key × V)} (e : Γ[i]? = some (.q (dkO kvs))) (hs : σ[i]? = some (some (.ref p))) (hf : F p = none) (h0 : H0 p = none) (hd : KvD K F acc kvs') :
    Ok K F0 H0 F σ (upd H p (.dK acc)) (Γ.set i (.q (dkO kvs'))) := by
  obtain ⟨fps, hF⟩ := h
  obtain ⟨fp, ef⟩ := hF.fp e
  have q := hF.sl i _ _ e ef
  rw [hs] at q
  obtain ⟨q1, q2, q3⟩ := q
  obtain ⟨p', xs, e1, e2, e3, e6⟩ := dk_inv q1
  cases e1
  subst e6
  have hi : i < Γ.length := (List.getElem?_eq_some_iff.mp e).1
  have := Ok.rewrite (F' := F) (H' := upd H p (.dK acc)) (s' := .q (dkO kvs')) (o := some (.ref p)) (fp' := [p]) ⟨fps, hF⟩ hF e ef (Ex.refl _) (fun a u m k => by rw [upd_ne (fun z => m (List.mem_singleton.mpr z))]; exact k) (fun a u _ k _ _ => k)
    (fun a u k => by
      rw [upd_ne (ne_of_none k hf)]
      exact hF.base.s a u k) ⟨dk_oa upd_same hd, by simp, fun a ha => by
        rw [List.mem_singleton] at ha
        subst ha
        exact ⟨hf, h0⟩⟩ (fun a m => .inl m)
  have sg : σ.set i (some (.ref p)) = σ := by
    apply List.ext_getElem?
    intro k
    by_cases hk : i = k
    · subst hk
      rw [List.getElem?_set_self (by rw [hF.len]; exact hi), hs]
    · rw [List.getElem?_set_ne hk]
  rw [sg] at this
  exact this
end
section
variable {X : Cx} {W : WX} {F0 H0 : Hp} {Γ : List S} {b e : Expr} {pos : Pos} {kvs : List (Key × D)} {key : Key} {d x : D}
theorem je_dNew : JE X W F0 H0 Γ (.Dict [] [] pos) (.q (dkO [])) := pe_imp pe_dnewK fun σ H Q ⟨F, ok, q⟩ p hp =>
  q (.ref p) [p] F _ (Fz.fresh ok.fh hp) (dk_oa upd_same KvD.nil) (by simp) fun a ha => by
    rw [List.mem_singleton] at ha
    subst ha
    exact ⟨hp, ok.fh.none hp⟩
theorem je_dIx (i : Nat) {n : Str} {q2 : Pos} (hu : X.A.units + 1 < cLine) (g : Γ[i]? = some (.q (dkO kvs))) (h : lookD kvs key = some d) (hb : JE X W F0 H0 Γ b (.v (kD key))) (hs : NoSl b := by exact fun _ _ => rfl) (hN : X.N[i]? = some n := by rfl) (hv : Vis X.env.scope n := by first | exact Or.inl rfl | exact Or.inr (Or.inl rfl) | exact Or.inr (Or.inr rfl)) (hd : (n == ("__debug__" : Str)) = false := by decide) (hcd : (n == ("__classdict__" : Str)) = false := by decide) :
    JE X W F0 H0 Γ (.Subscript (.Name n q2) b pos) (.v d) :=
  pe_imp (pe_dget hu (pe_var hN hv hd hcd) hb hs) fun σ H Q ⟨F, ok, q⟩ => by
    obtain ⟨p, acc, e1, e2, e3, e4, e5⟩ := ok.dict g
    refine ⟨_, e1, F, ok, fun u F2 H2 z2 d2 => ?_⟩
    have l := (e5.mono z2.f).look key
    rw [h] at l
    obtain ⟨v, hv, dv⟩ := l
    have eu := kd_v d2
    subst eu
    refine ⟨p, v, rfl, ?_, q v F2 H2 z2 dv⟩
    rw [← hv]
    exact DGet.k (z2.h _ _ e2)
theorem jt_dIn (i : Nat) {n : Str} {q2 : Pos} (hu : X.A.units + 1 < cLine) (g : Γ[i]? = some (.q (dkO kvs))) (hb : JE X WF F0 H0 Γ b (.v (kD key))) (hN : X.N[i]? = some n := by rfl) (hv : Vis X.env.scope n := by first | exact Or.inl rfl | exact Or.inr (Or.inl rfl) | exact Or.inr (Or.inr rfl)) (hd : (n == ("__debug__" : Str)) = false := by decide) (hcd : (n == ("__classdict__" : Str)) = false := by decide) (hm : behindInMarks .In (.Name n q2) = false := by first | exact nobehind _ (by decide) (by decide) | rfl) :
    JT X F0 H0 Γ (.Compare b [.In] [.Name n q2] pos) (lookD kvs key).isSome :=
  pt_imp (pt_cmp (pc_din hu hb (pe_var hN hv hd hcd)) hm) fun σ H Q ⟨F, ok, q⟩ => ⟨F, ok, fun u F2 H2 z2 d2 => by
    obtain ⟨p, acc, e1, e2, e3, e4, e5⟩ := (ok.mono z2).dict g
    have eu := kd_v d2
    subst eu
    have l := e5.look key
    refine ⟨_, e1, p, valV acc key, rfl, DGet.k e2, _, rfl, ?_⟩
    have : (valV acc key).isSome = (lookD kvs key).isSome := by
      cases h : lookD kvs key with
      | none => rw [h] at l; rw [l]; rfl
      | some d => rw [h] at l; obtain ⟨v, hv, _⟩ := l; rw [hv]; rfl
    rw [this]
    exact q F2 H2 z2⟩
theorem jt_dNotIn (i : Nat) {n : Str} {q2 : Pos} (hu : X.A.units + 1 < cLine) (g : Γ[i]? = some (.q (dkO kvs))) (hb : JE X WF F0 H0 Γ b (.v (kD key))) (hN : X.N[i]? = some n := by rfl) (hv : Vis X.env.scope n := by first | exact Or.inl rfl | exact Or.inr (Or.inl rfl) | exact Or.inr (Or.inr rfl)) (hd : (n == ("__debug__" : Str)) = false := by decide) (hcd : (n == ("__classdict__" : Str)) = false := by decide) (hm : behindInMarks .NotIn (.Name n q2) = false := by first | exact nobehind _ (by decide) (by decide) | rfl) :
    JT X F0 H0 Γ (.Compare b [.NotIn] [.Name n q2] pos) (!(lookD kvs key).isSome) :=
  pt_imp (pt_cmp (pc_dnotin hu hb (pe_var hN hv hd hcd)) hm) fun σ H Q ⟨F, ok, q⟩ => ⟨F, ok, fun u F2 H2 z2 d2 => by
    obtain ⟨p, acc, e1, e2, e3, e4, e5⟩ := (ok.mono z2).dict g
    have eu := kd_v d2
    subst eu
    have l := e5.look key
    refine ⟨_, e1, p, valV acc key, rfl, DGet.k e2, _, rfl, ?_⟩
    have : (valV acc key).isSome = (lookD kvs key).isSome := by
      cases h : lookD kvs key with
      | none => rw [h] at l; rw [l]; rfl
      | some d => rw [h] at l; obtain ⟨v, hv, _⟩ := l; rw [hv]; rfl
    rw [this]
    exact q F2 H2 z2⟩
/-- d.get(k) -/
theorem je_dGet1 (i : Nat) {n : Str} {np apos : Pos} (hu : X.A.units + 1 < cLine) (g : Γ[i]? = some (.q (dkO kvs))) (hb : JE X W F0 H0 Γ b (.v (kD key))) (m : M1 X (.Name n np) "get" apos b pos := by exact ⟨rfl, rfl, rfl, rfl⟩) (hN : X.N[i]? = some n := by rfl) (hv : Vis X.env.scope n := by first | exact Or.inl rfl | exact Or.inr (Or.inl rfl) | exact Or.inr (Or.inr rfl)) (hd : (n == ("__debug__" : Str)) = false := by decide) (hcd : (n == ("__classdict__" : Str)) = false := by decide) :
    JE X W F0 H0 Γ (.Call (.Attribute (.Name n np) "get" apos) [b] [] pos) (.v ((lookD kvs key).getD .none)) :=
  pe_imp (pe_dget1 hu (pe_var hN hv hd hcd) hb m) fun σ H Q ⟨F, ok, q⟩ => by
    obtain ⟨p, acc, e1, e2, e3, e4, e5⟩ := ok.dict g
    refine ⟨_, e1, p, rfl, .inl ⟨acc, .inl e2⟩, F, ok, fun u F2 H2 z2 d2 => ?_⟩
    have eu := kd_v d2
    subst eu
    refine ⟨valV acc key, DGet.k (z2.h _ _ e2), ?_⟩
    have l := (e5.mono z2.f).look key
    cases h : lookD kvs key with
    | none =>
      rw [h] at l q
      rw [l]
      exact q .non F2 H2 z2 .non
    | some d =>
      rw [h] at l q
      obtain ⟨v, hv, dv⟩ := l
      rw [hv]
      exact q v F2 H2 z2 dv
/-- d[k] = e -/
theorem js_dSet (i : Nat) {n : Str} {np sp : Pos} (hu : X.A.units + 1 < cLine) (g : Γ[i]? = some (.q (dkO kvs))) (hl : kvs.length < 100000) (he : JE X W F0 H0 Γ e (.v x)) (hb : JE X W F0 H0 Γ b (.v (kD key))) (hN : X.N[i]? = some n := by rfl) (hv : Vis X.env.scope n := by first | exact Or.inl rfl | exact Or.inr (Or.inl rfl) | exact Or.inr (Or.inr rfl)) (hd : (n == ("__debug__" : Str)) = false := by decide) (hcd : (n == ("__classdict__" : Str)) = false := by decide)
    (hs : swapsWith e (some (.Subscript (.Name n np) b sp)) pos.line X.env = pure false := by rfl) :
    JS X W F0 H0 Γ (.Assign [.Subscript (.Name n np) b sp] e pos) (.nx (Γ.set i (.q (dkO (putD kvs key x))))) :=
  ps_imp (ps_dput hu (pe_var hN hv hd hcd) hb he hs) fun D' σ H ⟨F, ok, q⟩ => ⟨F, ok, fun v F1 H1 z1 d1 => by
    obtain ⟨p, acc, e1, e2, e3, e4, e5⟩ := (ok.mono z1).dict g
    refine ⟨_, e1, F1, ok.mono z1, fun u F2 H2 z2 d2 => ?_⟩
    have eu := kd_v d2
    subst eu
    refine ⟨p, _, rfl, DPut.k (z2.h _ _ e2) (by rw [e5.len]; exact Nat.lt_of_lt_of_le hl (by decide)), ?_⟩
    exact q σ F2 _ (z1.f.trans z2.f) (((ok.mono z1).mono z2).dwrite g e1 (z2.n _ _ e3 e2) e4 ((e5.mono z2.f).put (dp_ex z2.f _ _ d1)))⟩
end
end TB

namespace TB
open PySem L2 PySem.Spec PyProof.Rows
/-! ### dicts from integers to integers -/
def dkI (kvs : List (Int × Int)) : List (Key × D) := kvs.map fun p => (.inl p.1, .int p.2)
def lookI (kvs : List (Int × Int)) (k : Int) : Option Int := (kvs.find? fun kv => decide (kv.1 = k)).map (·.2)
def putI (kvs : List (Int × Int)) (k v : Int) : List (Int × Int) := if (kvs.any fun kv => decide (kv.1 = k)) = true then kvs.map (fun kv => if kv.1 = k then (kv.1, v) else kv) else kvs ++ [(k, v)]
theorem look_dkI (k : Int) : ∀ kvs : List (Int × Int), lookD (dkI kvs) (.inl k) = (lookI kvs k).map .int
  | [] => rfl
  | p :: kvs => by
    have h := look_dkI k kvs
    unfold lookD lookI dkI at *
    rw [List.map_cons, List.find?_cons, List.find?_cons]
    by_cases e : p.1 = k
    · simp [e]
    · simp only [Sum.inl.injEq, e, decide_false]
      exact h
theorem any_dkI (k : Int) : ∀ kvs : List (Int × Int), ((dkI kvs).any fun kv => decide (kv.1 = .inl k)) = (kvs.any fun kv => decide (kv.1 = k))
  | [] => rfl
  | p :: kvs => by
    have h := any_dkI k kvs
    unfold dkI at *
    rw [List.map_cons, List.any_cons, List.any_cons, h]
    simp
theorem put_dkI (kvs : List (Int × Int)) (k v : Int) : putD (dkI kvs) (.inl k) (.int v) = dkI (putI kvs k v) := by
  unfold putD putI
  rw [any_dkI]
  split
  · unfold dkI
    rw [List.map_map, List.map_map]
    refine List.map_congr_left fun p _ => ?_
    show (if (Sum.inl p.1 : Key) = Sum.inl k then ((Sum.inl p.1 : Key), PyData.int v) else (Sum.inl p.1, PyData.int p.2)) = (fun q : Int × Int => ((Sum.inl q.1 : Key), PyData.int q.2)) (if p.1 = k then (p.1, v) else p)
    by_cases e : p.1 = k
    · rw [if_pos (congrArg _ e), if_pos e]
    · rw [if_neg (fun h => e (Sum.inl.inj h)), if_neg e]
  · unfold dkI
    rw [List.map_append]
    rfl
theorem fold_dkI {α : Type} (fk fv : α → Int) : ∀ (xs : List α) (kvs : List (Int × Int)), xs.foldl (fun acc a => putD acc (.inl (fk a)) (.int (fv a))) (dkI kvs) = dkI (xs.foldl (fun acc a => putI acc (fk a) (fv a)) kvs)
  | [], _ => rfl
  | a :: xs, kvs => by
    rw [List.foldl_cons, List.foldl_cons, put_dkI]
    exact fold_dkI fk fv xs _
/-! ### roots modulo a prime -/
def oddP (v most : Int) : Bool := !(decide (v % 2 = 0) || decide (most < v) || !isPrimeF v)
def R_codd (q : Addr) : List D → Out → Prop := fun ds o => ∃ v m : Int, ds = [.int v, .int m] ∧ o = if oddP v m = true then .v .none else .x q
def rootsI (p : Int) : List (Int × Int) := (List.range (p / 2 + 1).toNat).foldl (fun (acc : List (Int × Int)) (r : Nat) => putI acc ((0 + (r : Int)) * (0 + (r : Int)) % p) (0 + (r : Int))) []
def needF (p one : Int) : Int := (-1 - one * one) % p
def R_need : List D → Out → Prop := fun ds o => ∃ p one : Int, ds = [.int p, .int one] ∧ 0 < p ∧ Bt 100 one ∧ o = .v (.int (needF p one))
def R_lroots (q : Addr) : List D → Out → Prop := fun ds o => ∃ p : Int, ds = [.int p] ∧ o = if oddP p 10000 = true then .q (dkO (dkI (rootsI p))) else .x q
/-- a prime whose first pair is x, y -/
structure RootP (p x y : Int) : Prop where
  m : ∃ n : Nat, x = (n : Int) ∧ ∀ k : Nat, k < n → lookI (rootsI p) (needF p (k : Int)) = none
  l : lookI (rootsI p) (needF p x) = some y
  b : x < 10000
def R_rpair (q : Addr) : List D → Out → Prop := fun ds o => ∃ p : Int, ds = [.int p] ∧ ((oddP p 10000 = false ∧ o = .x q) ∨ ∃ x y, oddP p 10000 = true ∧ RootP p x y ∧ o = .v (ti [x, y]))
def rpAt (p : Int) (one : Nat) : List (List Int) := match lookI (rootsI p) (needF p (0 + (one : Int))) with
  | some r => if 0 < r then [[0 + (one : Int), r], [0 + (one : Int), p - r]] else [[0 + (one : Int), r]]
  | none => []
def pairsF (p : Int) : List (List Int) := (List.range p.toNat).flatMap (rpAt p)
def R_rpairs (q : Addr) : List D → Out → Prop := fun ds o => ∃ p : Int, ds = [.int p] ∧ o = if oddP p 10000 = true then .o ((pairsF p).map ti) else .x q
def lpAt (p : Int) (x : Nat) : List (List Int) := ((List.range p.toNat).filter fun y : Nat => decide (((0 + (x : Int)) * (0 + (x : Int)) + (0 + (y : Int)) * (0 + (y : Int)) + 1) % p = 0)).map fun y : Nat => [0 + (x : Int), 0 + (y : Int)]
def lawPairs (p : Int) : List (List Int) := (List.range p.toNat).flatMap (lpAt p)
def R_law_pairs : List D → Out → Prop := fun ds o => ∃ p : Int, ds = [.int p] ∧ 0 < p ∧ p ≤ 300 ∧ o = .o ((lawPairs p).map ti)
def R_law_pick : List D → Out → Prop := fun ds o => ∃ (ns : List Int) (i : Nat) (z m : Int), ds = [li ns, .int z, .int m] ∧ z = (i : Int) ∧ i < ns.length ∧ 0 < m ∧ o = .v (.int (ns.getD i 0 % m))
theorem flat_succ {β : Type} (f : Nat → List β) (k : Nat) : (List.range (k + 1)).flatMap f = (List.range k).flatMap f ++ f k := by
  rw [List.range_succ, List.flatMap_append]
  simp
theorem lp_len (p : Int) (x : Nat) : (lpAt p x).length ≤ p.toNat := by
  unfold lpAt
  rw [List.length_map]
  have := List.length_filter_le (fun y : Nat => decide (((0 + (x : Int)) * (0 + (x : Int)) + (0 + (y : Int)) * (0 + (y : Int)) + 1) % p = 0)) (List.range p.toNat)
  rw [List.length_range] at this
  exact this
theorem flatM_len {β : Type} {f : Nat → List β} {m : Nat} (h : ∀ k, (f k).length ≤ m) : ∀ k, ((List.range k).flatMap f).length ≤ k * m
  | 0 => by simp
  | k + 1 => by
    rw [flat_succ, List.length_append, Nat.succ_mul]
    have := flatM_len h k
    have := h k
    omega
theorem odd_bt {p : Int} (h : oddP p 10000 = true) : 2 ≤ p ∧ p ≤ 10000 ∧ p % 2 = 1 := by
  unfold oddP at h
  simp only [Bool.not_eq_true', Bool.or_eq_false_iff, decide_eq_false_iff_not] at h
  obtain ⟨⟨h1, h2⟩, h3⟩ := h
  have h4 : isPrimeF p = true := by simpa using h3
  unfold isPrimeF at h4
  by_cases hv : 2 ≤ p ∧ p ≤ 1000000000000
  · exact ⟨hv.1, by omega, by omega⟩
  · rw [if_neg hv] at h4
    cases h4
theorem rp_len (p : Int) (x : Nat) : (rpAt p x).length ≤ 2 := by
  unfold rpAt
  split
  · split
    · exact Nat.le_refl _
    · show 1 ≤ 2; decide
  · exact Nat.zero_le _
def smallP : List Int := [3, 5, 7, 11, 13, 17, 19, 23, 29, 31, 37, 41, 43]
def rpN (p : Int) : Nat := ((List.range 100).find? fun k : Nat => (lookI (rootsI p) (needF p (k : Int))).isSome).getD 0
def rpV (p : Int) : Int := (lookI (rootsI p) (needF p (rpN p : Int))).getD 0
def rpOk (p : Int) : Bool := oddP p 10000 && (List.range (rpN p)).all (fun k : Nat => !(lookI (rootsI p) (needF p (k : Int))).isSome) && (lookI (rootsI p) (needF p (rpN p : Int))).isSome && decide ((rpN p : Int) < 10000)
theorem small_ok : smallP.all rpOk = true := by decide +kernel
theorem small_root {p : Int} (h : p ∈ smallP) : oddP p 10000 = true ∧ RootP p (rpN p : Int) (rpV p) := by
  have := List.all_eq_true.mp small_ok p h
  unfold rpOk at this
  simp only [Bool.and_eq_true] at this
  obtain ⟨⟨⟨h1, h2⟩, h3⟩, h4⟩ := this
  refine ⟨h1, ⟨rpN p, rfl, fun k hk => ?_⟩, ?_, of_decide_eq_true h4⟩
  · have := List.all_eq_true.mp h2 k (List.mem_range.mpr hk)
    cases q : lookI (rootsI p) (needF p (k : Int)) with
    | none => rfl
    | some r => rw [q] at this; cases this
  · unfold rpV
    cases q : lookI (rootsI p) (needF p (rpN p : Int)) with
    | none => rw [q] at h3; cases h3
    | some r => rfl
def beqLL (a b : List (List Int)) : Bool := decide (a = b)
theorem k78_all : smallP.all (fun p => beqLL (pairsF p) (lawPairs p) && beqLL [[(rpN p : Int), rpV p]] ((lawPairs p).take 1) && decide (((pairsF p).length : Int) = p + p % 4 - 2)) = true := by decide +kernel
theorem u1 {n m : Nat} (h : n + 64 < m) : n + 1 < m := by omega
theorem getD_memI {xs : List Int} {k : Nat} (h : k < xs.length) : xs.getD k 0 ∈ xs := by
  rw [List.getD_eq_getElem?_getD, List.getElem?_eq_getElem h]
  exact List.getElem_mem h
theorem small_b {p : Int} (h : p ∈ smallP) : 3 ≤ p ∧ p ≤ 43 := by
  have : smallP.all (fun p => decide (3 ≤ p) && decide (p ≤ 43)) = true := by decide
  have := List.all_eq_true.mp this p h
  rw [Bool.and_eq_true] at this
  exact ⟨of_decide_eq_true this.1, of_decide_eq_true this.2⟩
theorem k78_at {p : Int} (h : p ∈ smallP) : pairsF p = lawPairs p ∧ (∃ rest, lawPairs p = [(rpN p : Int), rpV p] :: rest) ∧ ((pairsF p).length : Int) = p + p % 4 - 2 := by
  have := List.all_eq_true.mp k78_all p h
  simp only [Bool.and_eq_true, beqLL] at this
  obtain ⟨⟨h1, h2⟩, h3⟩ := this
  refine ⟨of_decide_eq_true h1, ?_, of_decide_eq_true h3⟩
  have h4 := of_decide_eq_true h2
  cases q : lawPairs p with
  | nil => rw [q] at h4; cases h4
  | cons a t =>
    rw [q] at h4
    simp only [List.take_succ_cons, List.take_zero, List.cons.injEq, and_true] at h4
    exact ⟨t, by rw [h4]⟩
end TB

namespace TB
open PySem L2 PySem.Spec PyProof.Rows
/-! ### tables modulo a prime -/
def tabR (x y : Int) : List Int → List (List Int)
  | [a, b, c, d] => [[a + b * x + d * y, b * y - c - d * x], [b * y + c - d * x, a - b * x - d * y]]
  | _ => []
def tabF (p x y : Int) (n : List Int) : List (List Int) := (tabR x y n).map fun r => r.map fun z => z * ((p + 1) / 2) % p
def tabD (t : List (List Int)) : D := .tuple (t.map ti)
def tmulF (p : Int) : List (List Int) → List (List Int) → List (List Int)
  | [[a, b], [c, d]], [[e, f], [g, h]] => [[(a * e + b * g) % p, (a * f + b * h) % p], [(c * e + d * g) % p, (c * f + d * h) % p]]
  | _, _ => []
def tdetF (p : Int) : List (List Int) → Int
  | [[a, b], [c, d]] => (a * d - b * c) % p
  | _ => 0
/-- whatever is found in the roots is a root -/
theorem put_mem {kvs : List (Int × Int)} {k v : Int} {P : Int × Int → Prop} (h : ∀ q ∈ kvs, P q) (hp : P (k, v)) : ∀ q ∈ putI kvs k v, P q := by
  intro q hq
  unfold putI at hq
  split at hq
  · obtain ⟨r, hr, rfl⟩ := List.mem_map.mp hq
    split
    · rename_i e
      rw [e]
      exact hp
    · exact h r hr
  · rcases List.mem_append.mp hq with hq | hq
    · exact h q hq
    · rw [List.mem_singleton] at hq
      rw [hq]
      exact hp
theorem roots_mem {p : Int} {xs : List Nat} : ∀ {kvs : List (Int × Int)}, (∀ q ∈ kvs, q.1 = q.2 * q.2 % p ∧ 0 ≤ q.2 ∧ ∃ n : Nat, n ∈ xs ∧ q.2 = 0 + (n : Int)) → ∀ (ys : List Nat), (∀ n ∈ ys, n ∈ xs) → ∀ q ∈ ys.foldl (fun (acc : List (Int × Int)) (r : Nat) => putI acc ((0 + (r : Int)) * (0 + (r : Int)) % p) (0 + (r : Int))) kvs, q.1 = q.2 * q.2 % p ∧ 0 ≤ q.2 ∧ ∃ n : Nat, n ∈ xs ∧ q.2 = 0 + (n : Int)
  | kvs, h, [], _ => h
  | kvs, h, r :: ys, hy => by
    rw [List.foldl_cons]
    exact roots_mem (put_mem h ⟨rfl, by omega, r, hy r List.mem_cons_self, rfl⟩) ys fun n hn => hy n (List.mem_cons_of_mem _ hn)
theorem look_mem {kvs : List (Int × Int)} {k v : Int} (h : lookI kvs k = some v) : (k, v) ∈ kvs := by
  unfold lookI at h
  cases q : kvs.find? (fun kv => decide (kv.1 = k)) with
  | none => rw [q] at h; cases h
  | some r =>
    rw [q] at h
    have h1 := List.mem_of_find?_eq_some q
    have h2 := of_decide_eq_true (List.find?_some (p := fun kv : Int × Int => decide (kv.1 = k)) q)
    cases h
    rw [← h2]
    exact h1
theorem root_of {p k v : Int} (h : lookI (rootsI p) k = some v) : k = v * v % p ∧ 0 ≤ v ∧ v ≤ p / 2 := by
  have := roots_mem (p := p) (xs := List.range (p / 2 + 1).toNat) (kvs := []) (fun q hq => by cases hq) (List.range (p / 2 + 1).toNat) (fun n h => h) _ (look_mem h)
  obtain ⟨h1, h2, n, h3, h4⟩ := this
  have := List.mem_range.mp h3
  exact ⟨h1, h2, by omega⟩
/-- the pair of a prime: its squares and 1 -/
theorem pair_dvd {p x y : Int} (h0 : 0 < p) (h : RootP p x y) : ∃ k, x * x + y * y + 1 = p * k := by
  obtain ⟨e, _, _⟩ := root_of h.l
  unfold needF at e
  have : (y * y - (-1 - x * x)) % p = 0 := by
    rw [Int.sub_emod, ← e, Int.sub_self]
    rfl
  obtain ⟨k, hk⟩ := Int.dvd_of_emod_eq_zero this
  exact ⟨k, by omega⟩
theorem pair_b {p x y : Int} (h : oddP p 10000 = true) (r : RootP p x y) : 0 ≤ x ∧ x < 10000 ∧ 0 ≤ y ∧ y ≤ 5000 := by
  obtain ⟨_, h2, h3⟩ := root_of r.l
  obtain ⟨n, e, _⟩ := r.m
  have := odd_bt h
  have := r.b
  exact ⟨by omega, by omega, h2, by omega⟩
/-- congruent integers leave the same -/
theorem mod_eq {p a b k : Int} (h : a = b + p * k) : a % p = b % p := by
  rw [h, Int.add_mul_emod_self_left]
theorem half_two {p : Int} (h : p % 2 = 1) : 2 * ((p + 1) / 2) = p + 1 := by omega
/-- products of what is left -/
theorem mod_dot {p u v s t : Int} : ((u % p) * (s % p) + (v % p) * (t % p)) % p = (u * s + v * t) % p := by
  rw [Int.add_emod, ← Int.mul_emod, ← Int.mul_emod, ← Int.add_emod]
theorem mod_crs {p u v s t : Int} : ((u % p) * (s % p) - (v % p) * (t % p)) % p = (u * s - v * t) % p := by
  rw [Int.sub_emod, ← Int.mul_emod, ← Int.mul_emod, ← Int.sub_emod]
theorem half_step {p h K A R E q : Int} (hh : 2 * h = p + 1) (hA : A = 2 * R + K * E) (hE : E = p * q) : h * h * A = R * h + p * (R * h + h * h * K * q) := by
  have : h * h * (2 * R) = (p + 1) * (R * h) := by rw [← hh]; grind
  rw [hA, hE]
  grind
theorem tab_mul {p x y : Int} (hp : 0 < p) (h2 : p % 2 = 1) (r : RootP p x y) {m n : List Int} (hm : isNum m = true) (hn : isNum n = true) : tmulF p (tabF p x y m) (tabF p x y n) = tabF p x y (mulL m n) := by
  obtain ⟨q, hq⟩ := pair_dvd hp r
  obtain ⟨a, b, c, d, rfl⟩ := four (num_len hm)
  obtain ⟨e, f, g, h, rfl⟩ := four (num_len hn)
  obtain ⟨p1, p2, p3, p4, pr, _, em⟩ := mul_pr ((isNum4 _ _ _ _).mp hm) ((isNum4 _ _ _ _).mp hn)
  rw [em]
  obtain ⟨e1, e2, e3, e4⟩ := pr
  have hh := half_two h2
  simp only [tabF, tabR, List.map_cons, List.map_nil, tmulF, mod_dot, List.cons.injEq, and_true]
  generalize (p + 1) / 2 = hf at hh
  have key : ∀ {u v s t A R K : Int}, u * s + v * t = A → A = 2 * R + K * (x * x + y * y + 1) → (u * hf * (s * hf) + v * hf * (t * hf)) % p = R * hf % p := fun {u v s t A R K} h1 h3 => by
    have : u * hf * (s * hf) + v * hf * (t * hf) = hf * hf * A := by rw [← h1]; grind
    rw [this]
    exact mod_eq (half_step hh h3 hq)
  refine ⟨⟨key rfl (K := b * f + d * h) ?_, key rfl (K := d * f - b * h) ?_⟩, key rfl (K := b * h - d * f) ?_, key rfl (K := b * f + d * h) ?_⟩
  all_goals grind
theorem tab_det {p x y : Int} (hp : 0 < p) (h2 : p % 2 = 1) (r : RootP p x y) {m : List Int} (hm : isNum m = true) : tdetF p (tabF p x y m) = normL m % p := by
  obtain ⟨q, hq⟩ := pair_dvd hp r
  obtain ⟨a, b, c, d, rfl⟩ := four (num_len hm)
  have en := norm_pr ((isNum4 _ _ _ _).mp hm)
  have hh := half_two h2
  simp only [tabF, tabR, List.map_cons, List.map_nil, tdetF, mod_crs]
  generalize (p + 1) / 2 = hf at hh
  generalize normL [a, b, c, d] = N at en
  refine mod_eq (k := N * (p + 2) - hf * hf * (b * b + d * d) * q) ?_
  have e1 : (a + b * x + d * y) * hf * ((a - b * x - d * y) * hf) - (b * y - c - d * x) * hf * ((b * y + c - d * x) * hf) = hf * hf * (4 * N - (b * b + d * d) * (x * x + y * y + 1)) := by rw [en]; grind
  rw [e1, hq]
  have e2 : hf * hf * (4 * N) = (p + 1) * (p + 1) * N := by rw [← hh]; grind
  grind
theorem tab_conj {p x y : Int} {m : List Int} (hm : m.length = 4) : ∃ a b c d, tabF p x y m = [[a, b], [c, d]] ∧ tabF p x y (conjL m) = [[d, (0 - b) % p], [(0 - c) % p, a]] := by
  obtain ⟨a, b, c, d, rfl⟩ := four hm
  refine ⟨_, _, _, _, rfl, ?_⟩
  simp only [tabF, tabR, conjL, List.map_cons, List.map_nil, List.cons.injEq, and_true]
  have neg : ∀ z : Int, (0 - z % p) % p = (0 - z) % p := fun z => by rw [Int.sub_emod, Int.emod_emod, ← Int.sub_emod]
  refine ⟨⟨congrArg (· % p) (by grind), ?_⟩, ?_, congrArg (· % p) (by grind)⟩
  · rw [neg]; exact congrArg (· % p) (by grind)
  · rw [neg]; exact congrArg (· % p) (by grind)
end TB

namespace TB
open PySem L2 PySem.Spec PyProof.Rows
section
variable {X : Cx} {W : WX} {F0 H0 : Hp} {Γ : List S} {a b c : Expr} {pos : Pos} {i j k : Int}
/-- a <= b < c, integers -/
theorem jt_leLt (ha : JE X WF F0 H0 Γ a (.v (.int i))) (hb : JE X WF F0 H0 Γ b (.v (.int j))) (hc : JE X WF F0 H0 Γ c (.v (.int k))) (hm : lastMarks [.LtE, .Lt] [b, c] = false := by with_unfolding_all rfl) : JT X F0 H0 Γ (.Compare a [.LtE, .Lt] [b, c] pos) (decide (i ≤ j) && decide (j < k)) :=
  pt_imp (pt_chain op_le op_lt ha hb hc hm) fun σ H Q ⟨F, ok, q⟩ => ⟨F, ok, fun v F1 H1 z1 d1 => ⟨F1, ok.mono z1, fun u F2 H2 z2 d2 => by
    cases d1
    cases d2
    refine ⟨i, j, rfl, rfl, decide (i ≤ j), rfl, ?_⟩
    by_cases h : i ≤ j
    · rw [decide_eq_true h] at q ⊢
      rw [if_pos rfl]
      refine ⟨F2, (ok.mono z1).mono z2, fun w F3 H3 z3 d3 => ?_⟩
      cases d3
      exact ⟨j, k, rfl, rfl, _, rfl, q F3 H3 ((z1.trans z2).trans z3)⟩
    · rw [decide_eq_false h] at q ⊢
      rw [if_neg Bool.false_ne_true]
      exact ⟨_, rfl, q F2 H2 (z1.trans z2)⟩⟩⟩
theorem je_leLt (ha : JE X W F0 H0 Γ a (.v (.int i))) (hb : JE X W F0 H0 Γ b (.v (.int j))) (hc : JE X W F0 H0 Γ c (.v (.int k))) (hm : lastMarks [.LtE, .Lt] [b, c] = false := by with_unfolding_all rfl) : JE X W F0 H0 Γ (.Compare a [.LtE, .Lt] [b, c] pos) (.v (.bool (decide (i ≤ j) && decide (j < k)))) :=
  pe_imp (pe_chain op_le op_lt ha hb hc hm) fun σ H Q ⟨F, ok, q⟩ => ⟨F, ok, fun v F1 H1 z1 d1 => ⟨F1, ok.mono z1, fun u F2 H2 z2 d2 => by
    cases d1
    cases d2
    refine ⟨i, j, rfl, rfl, decide (i ≤ j), rfl, ?_⟩
    by_cases h : i ≤ j
    · rw [decide_eq_true h] at q ⊢
      rw [if_pos rfl]
      refine ⟨F2, (ok.mono z1).mono z2, fun w F3 H3 z3 d3 => ?_⟩
      cases d3
      exact ⟨j, k, rfl, rfl, q _ F3 H3 ((z1.trans z2).trans z3) (.bl _)⟩
    · rw [decide_eq_false h] at q ⊢
      rw [if_neg Bool.false_ne_true]
      exact q _ F2 H2 (z1.trans z2) (.bl _)⟩⟩
end
/-! ### promises about tables -/
def tabOk (p : Int) (rs : List (List Int)) : Bool := decide (rs.length = 2) && rs.all (fun r => decide (r.length = 2)) && rs.all fun r => r.all fun z => decide (0 ≤ z) && decide (z < p)
def R_modulo : List D → Out → Prop := fun ds o => ∃ (rs : List (List Int)) (p : Int), ds = [.tuple (rs.map ti), .int p] ∧ rs.length ≤ 10 ∧ (∀ r ∈ rs, r.length ≤ 10) ∧ 0 < p ∧ o = .v (.tuple ((rs.map fun r => r.map fun z => z % p).map ti))
def R_ctab (q : Addr) : List D → Out → Prop := fun ds o => ∃ (d : D) (es : List D) (rs : List (List Int)) (p : Int), ds = [d, .int p] ∧ SqD d es ∧ SeqAll es rs ∧ rs.length ≤ 10 ∧ (∀ r ∈ rs, r.length ≤ 10) ∧ o = if (oddP p 10000 && tabOk p rs) = true then .v .none else .x q
def R_table (c q : Addr) : List D → Out → Prop := fun ds o => ∃ (d : D) (n : List Int) (p : Int), ds = [d, .int p] ∧ Seq d n ∧ n.length < 1000 ∧ Sm 1000 n ∧ ((isNum n = false ∧ o = .x c) ∨ (isNum n = true ∧ oddP p 10000 = false ∧ o = .x q) ∨ ∃ x y, isNum n = true ∧ oddP p 10000 = true ∧ RootP p x y ∧ o = .v (tabD (tabF p x y n)))
def R_tprod (q : Addr) : List D → Out → Prop := fun ds o => ∃ (d e : D) (ds' es' : List D) (rs qs : List (List Int)) (p : Int), ds = [d, e, .int p] ∧ SqD d ds' ∧ SeqAll ds' rs ∧ SqD e es' ∧ SeqAll es' qs ∧ rs.length ≤ 10 ∧ (∀ r ∈ rs, r.length ≤ 10) ∧ qs.length ≤ 10 ∧ (∀ r ∈ qs, r.length ≤ 10) ∧ o = if (oddP p 10000 && tabOk p rs && tabOk p qs) = true then .v (tabD (tmulF p rs qs)) else .x q
def R_tdet (q : Addr) : List D → Out → Prop := fun ds o => ∃ (d : D) (es : List D) (rs : List (List Int)) (p : Int), ds = [d, .int p] ∧ SqD d es ∧ SeqAll es rs ∧ rs.length ≤ 10 ∧ (∀ r ∈ rs, r.length ≤ 10) ∧ o = if (oddP p 10000 && tabOk p rs) = true then .v (.int (tdetF p rs)) else .x q
def ntabF (p x y : Int) : List (List Int) → List Int
  | [[e, f], [g, h]] =>
    let hf := (p + 1) / 2
    let one := hf * (e - h)
    let other := hf * (f + g)
    [2 * ((hf * (e + h)) % p), 2 * ((-one * x - other * y) % p), 2 * ((hf * (g - f)) % p), 2 * ((other * x - one * y) % p)]
  | _ => []
def R_ntab (q : Addr) : List D → Out → Prop := fun ds o => ∃ (d : D) (es : List D) (rs : List (List Int)) (p : Int), ds = [d, .int p] ∧ SqD d es ∧ SeqAll es rs ∧ rs.length ≤ 10 ∧ (∀ r ∈ rs, r.length ≤ 10) ∧ (((oddP p 10000 && tabOk p rs) = false ∧ o = .x q) ∨ ∃ x y, (oddP p 10000 && tabOk p rs) = true ∧ RootP p x y ∧ o = .v (ti (ntabF p x y rs)))
def R_law_table : List D → Out → Prop := fun ds o => ∃ n x y p, ds = [ti n, .int p, ti [x, y]] ∧ n.length = 4 ∧ Sm 1000 n ∧ 0 < p ∧ Bt 64 p ∧ Bt 64 x ∧ Bt 64 y ∧ o = .v (tabD (tabF p x y n))
def R_law_ttimes : List D → Out → Prop := fun ds o => ∃ a b c d e f g h p, ds = [tabD [[a, b], [c, d]], tabD [[e, f], [g, h]], .int p] ∧ 0 < p ∧ (∀ z ∈ [a, b, c, d, e, f, g, h], Bt 1000 z) ∧ o = .v (tabD (tmulF p [[a, b], [c, d]] [[e, f], [g, h]]))
def oddsP : List Int := [3, 5, 7, 11, 13, 17, 3, 5, 7, 19]
def R_law_odd : List D → Out → Prop := fun ds o => ∃ (ns : List Int) (i : Nat) (z : Int), ds = [li ns, .int z] ∧ z = (i : Int) ∧ i < ns.length ∧ o = .v (.int (oddsP.getD (ns.getD i 0 % 10).toNat 0))
def numS (ns : List Int) (p : Nat) (m : Int) : List Int := (List.range 4).map fun k => if ns.getD p 0 % 2 = 0 then 2 * (ns.getD (p + 1 + k) 0 % (2 * m + 1) - m) else 2 * (ns.getD (p + 1 + k) 0 % (2 * m + 1) - m) + 1
def R_law_numS : List D → Out → Prop := fun ds o => ∃ (ns : List Int) (p : Nat) (z m : Int), ds = [li ns, .int z, .int m] ∧ z = (p : Int) ∧ In9 ns ∧ p + 5 ≤ ns.length ∧ 1 ≤ m ∧ Bt 100 m ∧ o = .v (ti (numS ns p m))
theorem tabF_ok {p x y : Int} (hp : 0 < p) {n : List Int} (h : n.length = 4) : tabOk p (tabF p x y n) = true := by
  obtain ⟨a, b, c, d, rfl⟩ := four h
  have k : ∀ z : Int, (decide (0 ≤ z % p) && decide (z % p < p)) = true := fun z => by
    rw [Bool.and_eq_true]
    exact ⟨decide_eq_true (Int.emod_nonneg z (by omega)), decide_eq_true (Int.emod_lt_of_pos z hp)⟩
  simp only [tabOk, tabF, tabR, List.map_cons, List.map_nil, List.length_cons, List.length_nil, List.all_cons, List.all_nil, k]
  rfl
theorem tabOk_rows {p : Int} {rs : List (List Int)} (h : tabOk p rs = true) : ∃ e f g h, rs = [[e, f], [g, h]] ∧ ∀ z ∈ [e, f, g, h], 0 ≤ z ∧ z < p := by
  unfold tabOk at h
  simp only [Bool.and_eq_true] at h
  obtain ⟨⟨h1, h2⟩, h3⟩ := h
  have l := of_decide_eq_true h1
  match rs, l with
  | [r, s], _ =>
    have hr := of_decide_eq_true (List.all_eq_true.mp h2 r (by simp))
    have hs := of_decide_eq_true (List.all_eq_true.mp h2 s (by simp))
    obtain ⟨e, f, rfl⟩ := two_of hr
    obtain ⟨g, h, rfl⟩ := two_of hs
    have b : ∀ r ∈ [[e, f], [g, h]], ∀ z ∈ r, 0 ≤ z ∧ z < p := fun r hr z hz => by
      have := List.all_eq_true.mp (List.all_eq_true.mp h3 r hr) z hz
      rw [Bool.and_eq_true] at this
      exact ⟨of_decide_eq_true this.1, of_decide_eq_true this.2⟩
    refine ⟨e, f, g, h, rfl, fun z hz => ?_⟩
    simp only [List.mem_cons, List.not_mem_nil, or_false] at hz
    rcases hz with rfl | rfl | rfl | rfl
    · exact b [z, f] (by simp) z (by simp)
    · exact b [e, z] (by simp) z (by simp)
    · exact b [z, h] (by simp) z (by simp)
    · exact b [g, z] (by simp) z (by simp)
theorem mod_same {p a b : Int} (h : ∃ k, a = b + p * k) (h0 : 0 ≤ b) (h1 : b < p) : a % p = b := by
  obtain ⟨k, e⟩ := h
  rw [mod_eq e]
  exact Int.emod_eq_of_lt h0 h1
theorem two_mod {p a b c hf : Int} (hh : 2 * hf = p + 1) : ∃ k, 2 * (a % p) * hf = a + p * k := by
  refine ⟨a % p - a / p, ?_⟩
  have := Int.emod_add_mul_ediv a p
  have e : 2 * (a % p) * hf = a % p * (p + 1) := by rw [← hh]; grind
  rw [e]
  grind
/-- the number of a table has this table -/
theorem ntab_tab {p x y : Int} (hp : 0 < p) (h2 : p % 2 = 1) (r : RootP p x y) {t : List (List Int)} (ht : tabOk p t = true) : tabF p x y (ntabF p x y t) = t ∧ isNum (ntabF p x y t) = true ∧ (ntabF p x y t).length = 4 ∧ ∀ z ∈ ntabF p x y t, 0 ≤ z ∧ z < 2 * p ∧ z % 2 = 0 := by
  obtain ⟨q, hq⟩ := pair_dvd hp r
  obtain ⟨e, f, g, h, rfl, hb⟩ := tabOk_rows ht
  have hh := half_two h2
  have b0 : ∀ z : Int, 0 ≤ z % p ∧ z % p < p := fun z => ⟨Int.emod_nonneg z (by omega), Int.emod_lt_of_pos z hp⟩
  refine ⟨?_, ?_, rfl, ?_⟩
  · simp only [ntabF, tabF, tabR, List.map_cons, List.map_nil]
    generalize (p + 1) / 2 = hf at hh
    generalize e0 : hf * (e + h) = q0
    generalize e1 : -(hf * (e - h)) * x - hf * (f + g) * y = q1
    generalize e2 : hf * (g - f) = q2
    generalize e3 : hf * (f + g) * x - hf * (e - h) * y = q3
    obtain ⟨k0, m0⟩ := two_mod (a := q0) (b := 0) (c := 0) hh
    obtain ⟨k1, m1⟩ := two_mod (a := q1) (b := 0) (c := 0) hh
    obtain ⟨k2, m2⟩ := two_mod (a := q2) (b := 0) (c := 0) hh
    obtain ⟨k3, m3⟩ := two_mod (a := q3) (b := 0) (c := 0) hh
    have he := hb e (by simp)
    have hf' := hb f (by simp)
    have hg := hb g (by simp)
    have hh' := hb h (by simp)
    have x1 : q1 * x + q3 * y = hf * (e - h) - p * (hf * (e - h) * q) := by
      have : q1 * x + q3 * y = -(hf * (e - h)) * (x * x + y * y + 1) + hf * (e - h) := by rw [← e1, ← e3]; grind
      rw [this, hq]; grind
    have x3 : q1 * y - q3 * x = hf * (f + g) - p * (hf * (f + g) * q) := by
      have : q1 * y - q3 * x = -(hf * (f + g)) * (x * x + y * y + 1) + hf * (f + g) := by rw [← e1, ← e3]; grind
      rw [this, hq]; grind
    generalize 2 * (q0 % p) = n0 at *
    generalize 2 * (q1 % p) = n1 at *
    generalize 2 * (q2 % p) = n2 at *
    generalize 2 * (q3 % p) = n3 at *
    have s1 : hf * (e + h) + hf * (e - h) = e + p * e := by have : hf * (e + h) + hf * (e - h) = 2 * hf * e := by grind
                                                            rw [this, hh]; grind
    have s2 : hf * (f + g) - hf * (g - f) = f + p * f := by have : hf * (f + g) - hf * (g - f) = 2 * hf * f := by grind
                                                            rw [this, hh]; grind
    have s3 : hf * (f + g) + hf * (g - f) = g + p * g := by have : hf * (f + g) + hf * (g - f) = 2 * hf * g := by grind
                                                            rw [this, hh]; grind
    have s4 : hf * (e + h) - hf * (e - h) = h + p * h := by have : hf * (e + h) - hf * (e - h) = 2 * hf * h := by grind
                                                            rw [this, hh]; grind
    have t1 : (n0 + n1 * x + n3 * y) * hf = e + p * (e + k0 + k1 * x + k3 * y - hf * (e - h) * q) := by
      have : (n0 + n1 * x + n3 * y) * hf = n0 * hf + n1 * hf * x + n3 * hf * y := by grind
      rw [this, m0, m1, m3]
      grind
    have t2 : (n1 * y - n2 - n3 * x) * hf = f + p * (f + k1 * y - k2 - k3 * x - hf * (f + g) * q) := by
      have : (n1 * y - n2 - n3 * x) * hf = n1 * hf * y - n2 * hf - n3 * hf * x := by grind
      rw [this, m1, m2, m3]
      grind
    have t3 : (n1 * y + n2 - n3 * x) * hf = g + p * (g + k1 * y + k2 - k3 * x - hf * (f + g) * q) := by
      have : (n1 * y + n2 - n3 * x) * hf = n1 * hf * y + n2 * hf - n3 * hf * x := by grind
      rw [this, m1, m2, m3]
      grind
    have t4 : (n0 - n1 * x - n3 * y) * hf = h + p * (h + k0 - k1 * x - k3 * y + hf * (e - h) * q) := by
      have : (n0 - n1 * x - n3 * y) * hf = n0 * hf - n1 * hf * x - n3 * hf * y := by grind
      rw [this, m0, m1, m3]
      grind
    rw [mod_same ⟨_, t1⟩ he.1 he.2, mod_same ⟨_, t2⟩ hf'.1 hf'.2, mod_same ⟨_, t3⟩ hg.1 hg.2, mod_same ⟨_, t4⟩ hh'.1 hh'.2]
  · refine (isNum4 _ _ _ _).mpr ⟨?_, ?_, ?_⟩ <;> (try dsimp only) <;> omega
  · intro z hz
    simp only [ntabF, List.mem_cons, List.not_mem_nil, or_false] at hz
    rcases hz with rfl | rfl | rfl | rfl
    · have := b0 ((p + 1) / 2 * (e + h)); omega
    · have := b0 (-((p + 1) / 2 * (e - h)) * x - (p + 1) / 2 * (f + g) * y); omega
    · have := b0 ((p + 1) / 2 * (g - f)); omega
    · have := b0 ((p + 1) / 2 * (f + g) * x - (p + 1) / 2 * (e - h) * y); omega
theorem near_one {p hf n S Z j : Int} (hh : 2 * hf = p + 1) (hZ : Z = hf * S) (hS : S = n + p * j) : (n - 2 * (Z % p)) % p = 0 := by
  have h := Int.emod_add_mul_ediv Z p
  have e : 2 * Z = S + p * S := by rw [hZ, ← Int.mul_assoc, hh]; grind
  have : n - 2 * (Z % p) = p * (2 * (Z / p) - S - j) := by grind
  rw [this, Int.mul_emod_right]
theorem mod_form (z p : Int) : ∃ k, z % p = z + p * k := ⟨-(z / p), by have := Int.emod_add_mul_ediv z p; grind⟩
/-- the number of the table of a number is the number, but for multiples of the prime -/
theorem ntab_near {p x y : Int} (hp : 0 < p) (h2 : p % 2 = 1) (r : RootP p x y) {n : List Int} (hn : n.length = 4) : ∃ a b c d a' b' c' d', n = [a, b, c, d] ∧ ntabF p x y (tabF p x y n) = [a', b', c', d'] ∧ (a - a') % p = 0 ∧ (b - b') % p = 0 ∧ (c - c') % p = 0 ∧ (d - d') % p = 0 := by
  obtain ⟨q, hq⟩ := pair_dvd hp r
  obtain ⟨a, b, c, d, rfl⟩ := four hn
  have hh := half_two h2
  refine ⟨_, _, _, _, _, _, _, _, rfl, rfl, ?_⟩
  show (a - 2 * (((p + 1) / 2 * (((a + b * x + d * y) * ((p + 1) / 2)) % p + ((a - b * x - d * y) * ((p + 1) / 2)) % p)) % p)) % p = 0 ∧ (b - 2 * ((-((p + 1) / 2 * (((a + b * x + d * y) * ((p + 1) / 2)) % p - ((a - b * x - d * y) * ((p + 1) / 2)) % p)) * x - (p + 1) / 2 * (((b * y - c - d * x) * ((p + 1) / 2)) % p + ((b * y + c - d * x) * ((p + 1) / 2)) % p) * y) % p)) % p = 0 ∧ (c - 2 * (((p + 1) / 2 * (((b * y + c - d * x) * ((p + 1) / 2)) % p - ((b * y - c - d * x) * ((p + 1) / 2)) % p)) % p)) % p = 0 ∧ (d - 2 * (((p + 1) / 2 * (((b * y - c - d * x) * ((p + 1) / 2)) % p + ((b * y + c - d * x) * ((p + 1) / 2)) % p) * x - (p + 1) / 2 * (((a + b * x + d * y) * ((p + 1) / 2)) % p - ((a - b * x - d * y) * ((p + 1) / 2)) % p) * y) % p)) % p = 0
  generalize (p + 1) / 2 = hf at hh
  obtain ⟨k0, m0⟩ := mod_form ((a + b * x + d * y) * hf) p
  obtain ⟨k1, m1⟩ := mod_form ((b * y - c - d * x) * hf) p
  obtain ⟨k2, m2⟩ := mod_form ((b * y + c - d * x) * hf) p
  obtain ⟨k3, m3⟩ := mod_form ((a - b * x - d * y) * hf) p
  generalize ((a + b * x + d * y) * hf) % p = e at *
  generalize ((b * y - c - d * x) * hf) % p = f at *
  generalize ((b * y + c - d * x) * hf) % p = g at *
  generalize ((a - b * x - d * y) * hf) % p = h at *
  have dbl : ∀ z : Int, 2 * z * hf = z + p * z := fun z => by
    have : 2 * z * hf = z * (2 * hf) := by grind
    rw [this, hh]; grind
  have s1 : e + h = a + p * (a + k0 + k3) := by
    have : e + h = 2 * a * hf + p * (k0 + k3) := by rw [m0, m3]; grind
    rw [this, dbl]; grind
  have s2 : e - h = (b * x + d * y) + p * (b * x + d * y + k0 - k3) := by
    have : e - h = 2 * (b * x + d * y) * hf + p * (k0 - k3) := by rw [m0, m3]; grind
    rw [this, dbl]; grind
  have s3 : f + g = (b * y - d * x) + p * (b * y - d * x + k1 + k2) := by
    have : f + g = 2 * (b * y - d * x) * hf + p * (k1 + k2) := by rw [m1, m2]; grind
    rw [this, dbl]; grind
  have s4 : g - f = c + p * (c + k2 - k1) := by
    have : g - f = 2 * c * hf + p * (k2 - k1) := by rw [m1, m2]; grind
    rw [this, dbl]; grind
  generalize a + k0 + k3 = j1 at s1
  generalize b * x + d * y + k0 - k3 = j2 at s2
  generalize b * y - d * x + k1 + k2 = j3 at s3
  generalize c + k2 - k1 = j4 at s4
  refine ⟨near_one hh rfl s1, near_one hh (S := -((e - h) * x + (f + g) * y)) (j := -(b * q + j2 * x + j3 * y)) (by grind) ?_, near_one hh rfl s4, near_one hh (S := (f + g) * x - (e - h) * y) (j := -(d * q) + j3 * x - j2 * y) (by grind) ?_⟩
  · rw [s2, s3]
    have : -((b * x + d * y + p * j2) * x + (b * y - d * x + p * j3) * y) = b - b * (x * x + y * y + 1) - p * (j2 * x + j3 * y) := by grind
    rw [this, hq]; grind
  · rw [s2, s3]
    have : (b * y - d * x + p * j3) * x - (b * x + d * y + p * j2) * y = d - d * (x * x + y * y + 1) + p * (j3 * x - j2 * y) := by grind
    rw [this, hq]; grind
/-- the law's numbers -/
theorem numS_ok {ns : List Int} {p : Nat} {m : Int} (hin : In9 ns) (hm : 1 ≤ m) {k : Nat} (hb : m.natAbs < 2 ^ k) : G (k + 2) (numS ns p m) := by
  have h : ∀ j, -m ≤ ns.getD j 0 % (2 * m + 1) - m ∧ ns.getD j 0 % (2 * m + 1) - m ≤ m := fun j => by
    have h1 := Int.emod_nonneg (ns.getD j 0) (show 2 * m + 1 ≠ 0 by omega)
    have h2 := Int.emod_lt_of_pos (ns.getD j 0) (show 0 < 2 * m + 1 by omega)
    omega
  have e : (2 : Nat) ^ (k + 2) = 4 * 2 ^ k := by rw [Nat.pow_add, Nat.mul_comm]
  constructor
  · unfold numS
    by_cases h2 : ns.getD p 0 % 2 = 0
    · simp only [if_pos h2]
      refine (isNum4 _ _ _ _).mpr ⟨?_, ?_, ?_⟩ <;> (try dsimp only) <;> omega
    · simp only [if_neg h2]
      refine (isNum4 _ _ _ _).mpr ⟨?_, ?_, ?_⟩ <;> (try dsimp only) <;> omega
  · intro z hz
    unfold numS at hz
    obtain ⟨j, _, rfl⟩ := List.mem_map.mp hz
    have := h (p + 1 + j)
    unfold Bt
    rw [e]
    split <;> omega
theorem bt_mul' {m n : Nat} {x y : Int} (h : Bt m x) (g : Bt n y) : Bt (n + m) (x * y) := by rw [Nat.add_comm]; exact bt_mul h g
theorem tab4 {a b c d a' b' c' d' : Int} (h1 : a = a') (h2 : b = b') (h3 : c = c') (h4 : d = d') : Out.v (.tuple [.tuple [.int a, .int b], .tuple [.int c, .int d]]) = Out.v (.tuple ([[a', b'], [c', d']].map ti)) := by rw [h1, h2, h3, h4]; rfl
theorem all_zip2 {es : List D} {rs : List (List Int)} (h : SeqAll es rs) : (((es.zip rs).map fun pr => decide ((pr.2.length : Int) = 2)).all id) = rs.all fun r => decide (r.length = 2) := by
  conv => rhs; rw [← h.fst.2]
  rw [List.all_map, List.all_map]
  congr 1
  funext pr
  show decide ((pr.2.length : Int) = 2) = decide (pr.2.length = 2)
  exact decide_eq_decide.mpr ⟨fun h => by omega, fun h => by omega⟩
theorem zip_bools {es : List D} {rs : List (List Int)} {p : Int} (h : SeqAll es rs) : Out.v (.list (((es.zip rs).filter fun _ => true).flatMap fun pr => (pr.2.filter fun _ => true).map fun z => PyData.bool (decide (0 ≤ z) && decide (z < p)))) = Out.v (.list ((rs.flatMap fun r => r.map fun z => decide (0 ≤ z) && decide (z < p)).map .bool)) := by
  congr 2
  have e1 : ∀ {α : Type} (l : List α), (l.filter fun _ => true) = l := fun l => List.filter_eq_self.mpr fun _ _ => rfl
  rw [e1]
  conv => rhs; rw [← h.fst.2]
  rw [List.map_flatMap, List.flatMap_map]
  congr 1
  funext pr
  rw [e1, List.map_map]
  rfl
theorem flat_all {rs : List (List Int)} {f : Int → Bool} : ((rs.flatMap fun r => r.map f).all id) = rs.all fun r => r.all f := by
  rw [List.all_flatMap]
  congr 1
  funext r
  rw [List.all_map]
  rfl
theorem zip_flat {es : List D} {rs : List (List Int)} (h : SeqAll es rs) (hn : rs.length ≤ 10) (hl : ∀ r ∈ rs, r.length ≤ 10) : (((es.zip rs).filter fun _ => true).flatMap fun pr => (pr.2.filter fun _ => true)).length ≤ 100 := by
  have e1 : ∀ {α : Type} (l : List α), (l.filter fun _ => true) = l := fun l => List.filter_eq_self.mpr fun _ _ => rfl
  simp only [e1]
  have : ((es.zip rs).flatMap fun pr => pr.2) = rs.flatMap id := by
    conv => rhs; rw [← h.fst.2]
    rw [List.flatMap_map]
    rfl
  rw [this]
  have key : ∀ {qs : List (List Int)}, (∀ r ∈ qs, r.length ≤ 10) → (qs.flatMap id).length ≤ 10 * qs.length := fun {qs} hq => by
    induction qs with
    | nil => simp
    | cons r qs ih =>
      rw [List.flatMap_cons, List.length_append, List.length_cons]
      have h1 := hq r List.mem_cons_self
      have h2 := ih fun r hr => hq r (List.mem_cons_of_mem _ hr)
      show r.length + _ ≤ _
      omega
  have := key hl
  omega
theorem SeqAll.two {es : List D} {p q : List Int} (h : SeqAll es [p, q]) : ∃ d1 d2, es = [d1, d2] ∧ Seq d1 p ∧ Seq d2 q := by
  cases h with
  | cons h1 h =>
    cases h with
    | cons h2 h =>
      cases h
      exact ⟨_, _, rfl, h1, h2⟩
theorem tb_bt {p z : Int} (hp : p ≤ 10000) (h : 0 ≤ z ∧ z < p) : Bt 64 z := by unfold Bt; omega
end TB

namespace KK
open PySem L2 TB
def topS (i : Nat) : Stmt := PySem.Challenge.pw_turnprimes_k78_root_pairs.main.body.getD i (.Pass ⟨0, 0, 0, 0⟩)
abbrev s_is_prime : Stmt := topS 6
abbrev N_is_prime : List Str := ["value", "base"]
theorem sc_is_prime : FnScope N_is_prime ["value"] (defScope s_is_prime) := ⟨rfl, rfl, rfl, by decide +kernel, rfl, by decide +kernel, by decide +kernel⟩
abbrev s_check_odd_prime : Stmt := topS 7
abbrev N_check_odd_prime : List Str := ["value", "most"]
theorem sc_check_odd_prime : FnScope N_check_odd_prime ["value", "most"] (defScope s_check_odd_prime) := ⟨rfl, rfl, rfl, by decide +kernel, rfl, by decide +kernel, by decide +kernel⟩
abbrev s_power_modulo : Stmt := topS 8
abbrev N_power_modulo : List Str := ["base", "exponent", "modulus", "found"]
theorem sc_power_modulo : FnScope N_power_modulo ["base", "exponent", "modulus"] (defScope s_power_modulo) := ⟨rfl, rfl, rfl, by decide +kernel, rfl, by decide +kernel, by decide +kernel⟩
abbrev s_p_passes : Stmt := topS 9
abbrev N_p_passes : List Str := ["value", "base", "exponent", "many", "power", "_"]
theorem sc_p_passes : FnScope N_p_passes ["value", "base"] (defScope s_p_passes) := ⟨rfl, rfl, rfl, by decide +kernel, rfl, by decide +kernel, by decide +kernel⟩
abbrev s_root_pair : Stmt := topS 12
abbrev N_root_pair : List Str := ["prime", "roots", "one"]
theorem sc_root_pair : FnScope N_root_pair ["prime"] (defScope s_root_pair) := ⟨rfl, rfl, rfl, by decide +kernel, rfl, by decide +kernel, by decide +kernel⟩
abbrev s_root_pairs : Stmt := topS 13
abbrev N_root_pairs : List Str := ["prime", "roots", "found", "one", "other"]
theorem sc_root_pairs : FnScope N_root_pairs ["prime"] (defScope s_root_pairs) := ⟨rfl, rfl, rfl, by decide +kernel, rfl, by decide +kernel, by decide +kernel⟩
abbrev s_p_least_roots : Stmt := topS 14
abbrev N_p_least_roots : List Str := ["prime", "root"]
theorem sc_p_least_roots : FnScope N_p_least_roots ["prime"] (defScope s_p_least_roots) := ⟨rfl, rfl, rfl, by decide +kernel, rfl, by decide +kernel, by decide +kernel⟩
abbrev s_p_needed : Stmt := topS 15
abbrev N_p_needed : List Str := ["prime", "one"]
theorem sc_p_needed : FnScope N_p_needed ["prime", "one"] (defScope s_p_needed) := ⟨rfl, rfl, rfl, by decide +kernel, rfl, by decide +kernel, by decide +kernel⟩
abbrev s_law_row : Stmt := topS 17
abbrev N_law_row : List Str := ["cell", "many", "row", "rest", "mixed", "k"]
theorem sc_law_row : FnScope N_law_row ["cell", "many"] (defScope s_law_row) := ⟨rfl, rfl, rfl, by decide +kernel, rfl, by decide +kernel, by decide +kernel⟩
abbrev s_law_numbers : Stmt := topS 18
abbrev N_law_numbers : List Str := ["script", "many", "cells", "each", "numbers", "cell", "number"]
theorem sc_law_numbers : FnScope N_law_numbers ["script", "many"] (defScope s_law_numbers) := ⟨rfl, rfl, rfl, by decide +kernel, rfl, by decide +kernel, by decide +kernel⟩
abbrev s_law_pick : Stmt := topS 19
abbrev N_law_pick : List Str := ["numbers", "at", "most"]
theorem sc_law_pick : FnScope N_law_pick ["numbers", "at", "most"] (defScope s_law_pick) := ⟨rfl, rfl, rfl, by decide +kernel, rfl, by decide +kernel, by decide +kernel⟩
abbrev s_law_pairs : Stmt := topS 20
abbrev N_law_pairs : List Str := ["prime", "found", "x", "y"]
theorem sc_law_pairs : FnScope N_law_pairs ["prime"] (defScope s_law_pairs) := ⟨rfl, rfl, rfl, by decide +kernel, rfl, by decide +kernel, by decide +kernel⟩
abbrev s_law : Stmt := topS 21
abbrev N_law : List Str := ["script", "numbers", "prime", "due", "found"]
theorem sc_law : FnScope N_law ["script"] (defScope s_law) := ⟨rfl, rfl, rfl, by decide +kernel, rfl, by decide +kernel, by decide +kernel⟩
/-- what the top has left -/
structure TT (K : PySem.W.Frag) (mg : Str → Option Value) (c_TurnprimesError : Addr) (c_InvalidQuestion : Addr) : Prop where
  z_abs : mg "abs" = none
  z_all : mg "all" = none
  z_int : mg "int" = none
  z_isinstance : mg "isinstance" = none
  z_len : mg "len" = none
  z_list : mg "list" = none
  z_max : mg "max" = none
  z_range : mg "range" = none
  e_TurnprimesError : ExF K mg "TurnprimesError" c_TurnprimesError
  e_InvalidQuestion : ExF K mg "InvalidQuestion" c_InvalidQuestion
  g_BASES : ∃ a, mg "_BASES" = some (.ref a) ∧ ∀ F, Dp K F (.ref a) (ti [2, 3, 5, 7, 11])
  gi_MOST : ∃ t, mg "MOST" = some (.int 1000000000000 t)
  gi__MOST_PRIME : ∃ t, mg "_MOST_PRIME" = some (.int 10000 t)
  fn_is_prime : FnAt K mg "is_prime" s_is_prime ["value"]
  fn_check_odd_prime : FnAt K mg "check_odd_prime" s_check_odd_prime ["value", "most"]
  fn_power_modulo : FnAt K mg "power_modulo" s_power_modulo ["base", "exponent", "modulus"]
  fn_p_passes : FnAt K mg "_passes" s_p_passes ["value", "base"]
  fn_root_pair : FnAt K mg "root_pair" s_root_pair ["prime"]
  fn_root_pairs : FnAt K mg "root_pairs" s_root_pairs ["prime"]
  fn_p_least_roots : FnAt K mg "_least_roots" s_p_least_roots ["prime"]
  fn_p_needed : FnAt K mg "_needed" s_p_needed ["prime", "one"]
  fn_law_row : FnAt K mg "_law_row" s_law_row ["cell", "many"]
  fn_law_numbers : FnAt K mg "_law_numbers" s_law_numbers ["script", "many"]
  fn_law_pick : FnAt K mg "_law_pick" s_law_pick ["numbers", "at", "most"]
  fn_law_pairs : FnAt K mg "_law_pairs" s_law_pairs ["prime"]
section
variable {P : Program} {w : World} {K : PySem.W.Frag} {mg : Str → Option Value} {base : Heap} {c_TurnprimesError c_InvalidQuestion : Addr} (T : TT K mg c_TurnprimesError c_InvalidQuestion)
include T

def R_law_row : List D → Out → Prop := fun ds o => ∃ (c : Int) (m : Nat), ds = [.int c, .int m] ∧ m < 1000 ∧ o = .o ((lawRow c m).map .int)
theorem c_law_row : Cal P w K mg base 1 "_law_row" ["cell", "many"] R_law_row := by
  refine cal_mk T.fn_law_row sc_law_row (fun ds o ⟨c, m, h, _⟩ => by subst h; rfl) fun f cdv A outer s H E F ds o hr tk pn ⟨c, m, hd, hm, ho⟩ => ?_
  subst hd ho
  refine ⟨.rto ((lawRow c m).map .int), ?_, rfl⟩
  refine jss_cons (js_setO 2 sc_law_row.nd (je_lst ja_nil)) ?_
  refine jss_cons (js_set 3 sc_law_row.nd (je_abs T.z_abs (je_var 0 rfl))) ?_
  refine jss_cons (js_set 4 sc_law_row.nd (je_mod (by decide) (je_intI T.z_int (je_add (je_mul (.inr ⟨by decide, by decide⟩) (je_var 3 rfl) je_int) je_int)) je_int)) ?_
  have em : ((m : Int)).toNat = m := Int.toNat_natCast m
  refine jss_cons (js_is (js_forAll (fun k => [.d (.int c), .d (.int m), .own (((List.range k).map (rowV c)).map .int), .d (.int (restS c k)), .d (.int (mixS c k)), .u])
    (fun k => [.d (.int c), .d (.int m), .own (((List.range k).map (rowV c)).map .int), .d (.int (restS c k)), .d (.int (mixS c k)), .d (.int (0 + (k : Nat)))])
    pn rfl (ji_range1 T.z_range (by omega) (by omega) (je_var 1 rfl)) (jg_name 5 sc_law_row.nd) (.keep (.keep (.keep (.keep (.keep (.drop .nil)))))) (fun k d e => by
      obtain ⟨_, rfl⟩ := rngD_get e
      rfl) fun k d e => ?_) rfl) ?_
  · obtain ⟨hk, _⟩ := rngD_get e
    rw [em] at hk
    refine jss_cons (js_set 4 sc_law_row.nd (je_mod (by decide) (je_intI T.z_int (je_add (je_mul (.inr ⟨by decide, by decide⟩) (je_var 4 rfl) je_int) (je_mul (.inl ⟨by decide, by decide⟩) je_int (je_add (je_var 5 rfl) je_int)))) je_int)) ?_
    refine jss_one (js_if (jt_ge (je_abs T.z_abs (je_var 0 rfl)) (je_pow ⟨by decide, by decide, by decide⟩ je_int je_int)) (fun hb => ?_) fun hb => ?_)
    · have hb' : bigC c = true := hb
      have e1 : rowV c k = restS c k % 1009 := by unfold rowV; rw [if_pos hb']
      have e2 : restS c (k + 1) = restS c k / 1009 := by show (if bigC c = true then _ else _) = _; rw [if_pos hb']
      refine jss_cons (js_append 2 rfl (by simp; omega) (je_mod (by decide) (je_intI T.z_int (je_var 3 rfl)) je_int)) ?_
      refine jss_nx (jss_one (js_set 3 sc_law_row.nd (je_fdiv ⟨by decide, by decide⟩ (je_var 3 rfl) je_int))) ?_
      rw [List.range_succ, List.map_append, List.map_append, ← e1, ← e2]
      exact .keep (.keep (.keep (.keep (.keep (.drop .nil)))))
    · have hb' : ¬ bigC c = true := by have h2 : bigC c = false := hb; rw [h2]; exact Bool.false_ne_true
      have e1 : rowV c k = mixS c (k + 1) / 7 % 1009 := by unfold rowV; rw [if_neg hb']
      have e2 : restS c (k + 1) = restS c k := by show (if bigC c = true then _ else _) = _; rw [if_neg hb']
      refine jss_nx (jss_one (js_append 2 rfl (by simp; omega) (je_mod (by decide) (je_intI T.z_int (je_fdiv ⟨by decide, by decide⟩ (je_var 4 rfl) je_int)) je_int))) ?_
      rw [List.range_succ, List.map_append, List.map_append, e2]
      have e3 : rowV c k = (mixS c k * 16807 + 271 * (0 + (k : Nat) + 3)) % 2147483629 / 7 % 1009 := e1
      show Le [_, _, S.own (_ ++ [PyData.int ((mixS c k * 16807 + 271 * (0 + (k : Nat) + 3)) % 2147483629 / 7 % 1009)]), _, _, _] _
      rw [← e3]
      exact .keep (.keep (.keep (.keep (.keep (.drop .nil)))))
  · rw [rngD_len, em]
    exact jss_one (js_retOwn 2 rfl)

def R_law_numbers : List D → Out → Prop := fun ds o => ∃ (cs : List Int) (m : Nat), ds = [li cs, .int m] ∧ cs.length ≤ 63 ∧ m ≤ 800 ∧ o = .v (li (lawNums cs m))
theorem c_law_numbers : Cal P w K mg base 2 "_law_numbers" ["script", "many"] R_law_numbers := by
  have CR : Cal P w K mg base 1 "_law_row" ["cell", "many"] R_law_row := c_law_row T
  refine cal_mk T.fn_law_numbers sc_law_numbers (fun ds o ⟨c, m, h, _⟩ => by subst h; rfl) fun f cdv A outer s H E F ds o hr tk pn ⟨cs, m, hd, hcs, hm, ho⟩ => ?_
  subst hd ho
  let ech : Nat := 1 + m / (max 1 cs.length)
  have hech : ech ≤ 801 := by
    have := Nat.div_le_self m (max 1 cs.length)
    show 1 + _ ≤ _
    omega
  let row : Int → List Int := fun c => lawRow c ech
  have hrow : ∀ c, (row c).length = ech := fun c => by show (lawRow c ech).length = ech; unfold lawRow; simp
  let flat : Nat → List Int := fun k => (cs.take k).flatMap row
  have hflat : ∀ k, (flat k).length ≤ k * ech := fun k => by
    show ((cs.take k).flatMap row).length ≤ _
    rw [List.length_flatMap]
    have : ∀ l : List Int, (l.map fun c => (row c).length).sum = l.length * ech := fun l => by
      induction l with
      | nil => simp
      | cons x l ih => rw [List.map_cons, List.sum_cons, ih, hrow, List.length_cons, Nat.succ_mul]; omega
    rw [this, List.length_take]
    exact Nat.mul_le_mul_right _ (Nat.min_le_left _ _)
  refine ⟨.rto ((lawNums cs m).map .int), ?_, rfl⟩
  -- cells = script[:63]
  have e0 : cutD (cs.map PyData.int) none (some 63) = cs.map .int := by
    unfold cutD
    have h1 : HT.sIx (cs.map PyData.int).length 0 none = 0 := rfl
    rw [h1, List.drop_zero, Nat.sub_zero]
    refine List.take_of_length_le ?_
    rw [List.length_map]
    show cs.length ≤ HT.sIx cs.length cs.length (some 63)
    unfold HT.sIx
    simp
    omega
  refine jss_cons (js_setO 2 sc_law_numbers.nd (je_slL (je_var 0 rfl) jo_none (jo_some je_int))) ?_
  refine jss_frz 2 rfl ?_
  -- each = 1 + many // max(1, len(cells))
  have e1 : (1 : Int) + (m : Int) / (if ((cs.map PyData.int).length : Int) > 1 then ((cs.map PyData.int).length : Int) else 1) = (ech : Int) := by
    rw [List.length_map]
    show _ = (((1 + m / (max 1 cs.length) : Nat)) : Int)
    have e2 : (if (cs.length : Int) > 1 then (cs.length : Int) else 1) = ((max 1 cs.length : Nat) : Int) := by split <;> omega
    rw [e2]
    omega
  refine jss_cons (js_set 3 sc_law_numbers.nd (je_is (je_add je_int (je_fdiv (j := (if ((cs.map PyData.int).length : Int) > 1 then ((cs.map PyData.int).length : Int) else 1)) (by rw [List.length_map]; constructor <;> (split <;> omega)) (je_var 1 rfl) (je_max2 rfl T.z_max je_int (je_lenL T.z_len (je_is (je_var 2 rfl) (by rw [e0])))))) (by rw [e1]))) ?_
  refine jss_cons (js_setO 4 sc_law_numbers.nd (je_lst ja_nil)) ?_
  -- for cell in cells: for number in _law_row(cell, each): numbers.append(number)
  refine jss_cons (js_is (js_forAll (fun k => [.d (li cs), .d (.int m), .d (li cs), .d (.int ech), .own ((flat k).map .int), .u, .u])
    (fun k => [.d (li cs), .d (.int m), .d (li cs), .d (.int ech), .own ((flat k).map .int), .d (((cs.map PyData.int)[k]?).getD .none), .u])
    pn rfl (ji_list (je_is (je_var 2 rfl) (by rw [e0]))) (jg_name 5 sc_law_numbers.nd) ?_ (fun k d e => by rw [e]; rfl) fun k d e => ?_) rfl) ?_
  · show Le ([.d (li cs), .d (.int m), .d (.list (cutD (cs.map PyData.int) none (some 63))), .d (.int ech), .own [], .u, .u]) _
    rw [e0]
    exact .keep (.keep (.keep (.keep (.keep (.keep (.keep .nil))))))
  · rw [e]
    have hk := (List.getElem?_eq_some_iff.mp e).1
    rw [List.length_map] at hk
    obtain ⟨c, hc, hdc⟩ : ∃ c, cs[k]? = some c ∧ PyData.int c = d := by
      rw [List.getElem?_map, List.getElem?_eq_getElem hk] at e
      exact ⟨cs[k], List.getElem?_eq_getElem hk, Option.some.inj e⟩
    subst hdc
    have hfk := hflat k
    have hbnd : k * ech ≤ 62 * 801 := Nat.mul_le_mul (by omega) hech
    refine jss_nx (jss_one (js_forAll (fun j => [.d (li cs), .d (.int m), .d (li cs), .d (.int ech), .own ((flat k ++ (row c).take j).map .int), .d (.int c), .u])
      (fun j => [.d (li cs), .d (.int m), .d (li cs), .d (.int ech), .own ((flat k ++ (row c).take j).map .int), .d (.int c), .d ((((row c).map PyData.int)[j]?).getD .none)])
      pn rfl (ji_list (je_o2v (je_callC CR ⟨c, ech, rfl, by omega, rfl⟩ (hr.mono (by decide)) takes0 (ja_cons (je_var 5 rfl) (ja_cons (je_var 3 rfl) ja_nil))))) (jg_name 6 sc_law_numbers.nd) ?_ (fun j d e => by rw [e]; rfl) fun j d e => ?_)) ?_
    · show Le ([_, _, _, _, .own ((flat k).map .int), _, _]) ([_, _, _, _, .own ((flat k ++ (row c).take 0).map .int), _, _])
      rw [List.take_zero, List.append_nil]
      exact .keep (.keep (.keep (.keep (.keep (.keep (.keep .nil))))))
    · have e' : ((row c).map PyData.int)[j]? = some d := e
      rw [e']
      have hj := (List.getElem?_eq_some_iff.mp e').1
      rw [List.length_map, hrow] at hj
      have ht : (row c).take (j + 1) = (row c).take j ++ [(row c)[j]'(by rw [hrow]; exact hj)] := by rw [List.take_succ, List.getElem?_eq_getElem (by rw [hrow]; exact hj)]; rfl
      have hd : d = .int ((row c)[j]'(by rw [hrow]; exact hj)) := by
        rw [List.getElem?_map, List.getElem?_eq_getElem (by rw [hrow]; exact hj)] at e'
        exact (Option.some.inj e').symm
      subst hd
      refine jss_nx (jss_one (js_append 4 rfl ?_ (je_var 6 rfl))) ?_
      · rw [List.length_map, List.length_append, List.length_take, hrow]
        omega
      · show Le [_, _, _, _, .own ((flat k ++ (row c).take j).map .int ++ [PyData.int _]), _, _] [_, _, _, _, .own ((flat k ++ (row c).take (j + 1)).map .int), _, _]
        rw [ht, ← List.append_assoc, List.map_append (l₂ := [_])]
        exact .keep (.keep (.keep (.keep (.keep (.keep (.drop .nil))))))
    · have hl : ((lawRow c ech).map PyData.int).length = (row c).length := by rw [List.length_map]
      show Le [_, _, _, _, .own ((flat k ++ (row c).take ((lawRow c ech).map PyData.int).length).map .int), _, _] [_, _, _, _, .own ((flat (k + 1)).map .int), _, _]
      have hf : flat (k + 1) = flat k ++ row c := by
        show (cs.take (k + 1)).flatMap row = (cs.take k).flatMap row ++ row c
        rw [List.take_succ, hc, List.flatMap_append]
        simp
      rw [hl, List.take_length, hf]
      exact .keep (.keep (.keep (.keep (.keep (.drop (.keep .nil))))))
  -- while len(numbers) < many: numbers.append(0)
  have hlen : (cs.map PyData.int).length = cs.length := List.length_map ..
  rw [hlen]
  have hfl := hflat cs.length
  have hb2 : cs.length * ech ≤ 63 * 801 := Nat.mul_le_mul hcs hech
  refine jss_cons (js_while (fun k => [.d (li cs), .d (.int m), .d (li cs), .d (.int ech), .own ((flat cs.length ++ List.replicate k 0).map .int), .u, .u]) (m - (flat cs.length).length) pn ?_ (fun k hk => ?_) (fun k hk => ?_) ?_) ?_
  · show Le _ [_, _, _, _, .own ((flat cs.length ++ List.replicate 0 0).map .int), _, _]
    rw [List.replicate_zero, List.append_nil]
    exact Le.refl _
  · refine jt_is (jt_lt (je_own_len 4 rfl T.z_len) (je_var 1 rfl)) (decide_eq_true ?_)
    simp
    omega
  · refine jss_nx (jss_one (js_append 4 rfl ?_ je_int)) ?_
    · simp
      omega
    · show Le [_, _, _, _, .own ((flat cs.length ++ List.replicate k 0).map .int ++ [PyData.int 0]), _, _] [_, _, _, _, .own ((flat cs.length ++ List.replicate (k + 1) 0).map .int), _, _]
      rw [List.replicate_succ', ← List.append_assoc, List.map_append (l₂ := [_])]
      exact Le.refl _
  · refine jt_is (jt_lt (je_own_len 4 rfl T.z_len) (je_var 1 rfl)) (decide_eq_false ?_)
    simp
    omega
  refine jss_is (jss_one (js_retO (je_own_sl 4 rfl jo_none (jo_some (je_var 1 rfl))))) ?_
  have hcut : ∀ l : List Int, m ≤ l.length → cutD (l.map PyData.int) none (some (m : Int)) = (l.take m).map .int := fun l hl => by
    unfold cutD
    have h1 : HT.sIx (l.map PyData.int).length 0 none = 0 := rfl
    rw [h1, List.drop_zero, Nat.sub_zero, ← List.map_take]
    congr 1
    congr 1
    rw [List.length_map]
    unfold HT.sIx
    simp
    split <;> omega
  rw [hcut _ (by simp; omega)]
  have hfin : (flat cs.length ++ List.replicate (m - (flat cs.length).length) 0).take m = lawNums cs m := by
    show _ = ((cs.flatMap row) ++ List.replicate m 0).take m
    have hf : flat cs.length = cs.flatMap row := by show (cs.take cs.length).flatMap row = _; rw [List.take_length]
    rw [hf, List.take_append, List.take_append, List.take_replicate, List.take_replicate]
    congr 2
    omega
  rw [hfin]
theorem c_power_modulo : Cal P w K mg base 1 "power_modulo" ["base", "exponent", "modulus"] R_powm := by
  refine cal_mk T.fn_power_modulo sc_power_modulo (fun ds o ⟨b, e, m, h, _⟩ => by subst h; rfl) fun f cdv A outer s H E F ds o hr tk pn ⟨b, e, m, hd, h0, hm, hbm, hbb, ho⟩ => ?_
  subst hd ho
  refine ⟨.rt (.int (powF m b e)), ?_, rfl⟩
  obtain ⟨n, rfl⟩ : ∃ n : Nat, e = (n : Int) := ⟨e.toNat, by omega⟩
  have pe := pm_exp m b n 1
  have pb := pm_bt (e := (n : Int)) hm hbm hbb
  refine jss_norm (Γ2 := [.d (.int b), .d (.int (n : Nat)), .d (.int m), .u]) rfl ?_
  refine jss_consN (js_set 3 sc_power_modulo.nd je_int) (by dsimp only [List.set_cons_zero, List.set_cons_succ]) ?_
  refine jss_cons (js_while (fun k => [.d (.int (pmK m (1, b, (n : Int)) k).2.1), .d (.int (pmK m (1, b, (n : Int)) k).2.2), .d (.int m), .d (.int (pmK m (1, b, (n : Int)) k).1)]) (bitsN n) pn (Le.refl _) (fun k hk => ?_) (fun k hk => ?_) ?_) ?_
  · have h := bits_lo hk
    exact jt_is (jt_int (je_var 1 rfl)) (by rw [pe k]; exact decide_eq_true (by omega))
  · obtain ⟨q1, q2⟩ := pb k
    show JSs _ _ _ _ _ _ (.nx [.d (.int (pmK m (1, b, (n : Int)) (k + 1)).2.1), .d (.int (pmK m (1, b, (n : Int)) (k + 1)).2.2), .d (.int m), .d (.int (pmK m (1, b, (n : Int)) (k + 1)).1)])
    rw [show pmK m (1, b, (n : Int)) (k + 1) = pmS m (pmK m (1, b, (n : Int)) k) from rfl]
    generalize pmK m (1, b, (n : Int)) k = s at q1 q2 ⊢
    obtain ⟨f, b', e⟩ := s
    unfold pmS
    by_cases h2 : e % 2 = 0
    · rw [if_pos h2]
      refine jss_cons (js_ifF (jt_is (jt_int (je_mod (by decide) (je_var 1 rfl) je_int)) (decide_eq_false (fun h => h h2))) jss_nil) ?_
      exact jss_cons (js_set 0 sc_power_modulo.nd (je_mod hm (je_mulW (cm q2 q2) (je_var 0 rfl) (je_var 0 rfl)) (je_var 2 rfl))) (jss_one (js_augFd 1 ⟨by decide, by decide⟩ rfl sc_power_modulo.nd je_int))
    · rw [if_neg h2]
      refine jss_cons (js_ifT (jt_is (jt_int (je_mod (by decide) (je_var 1 rfl) je_int)) (decide_eq_true h2)) (jss_one (js_set 3 sc_power_modulo.nd (je_mod hm (je_mulW (cm q1 q2) (je_var 3 rfl) (je_var 0 rfl)) (je_var 2 rfl))))) ?_
      exact jss_cons (js_set 0 sc_power_modulo.nd (je_mod hm (je_mulW (cm q2 q2) (je_var 0 rfl) (je_var 0 rfl)) (je_var 2 rfl))) (jss_one (js_augFd 1 ⟨by decide, by decide⟩ rfl sc_power_modulo.nd je_int))
  · exact jt_is (jt_int (je_var 1 rfl)) (by rw [pe, bits_hi]; rfl)
  · exact jss_one (js_ret (je_var 3 rfl))
theorem cp_passes : Cal P w K mg base 2 "_passes" ["value", "base"] R_pass := by
  have C_power_modulo : Cal P w K mg base 1 "power_modulo" ["base", "exponent", "modulus"] R_powm := c_power_modulo T
  refine cal_mk T.fn_p_passes sc_p_passes (fun ds o ⟨v, b, h, _⟩ => by subst h; rfl) fun f cdv A outer s H E F ds o hr tk pn ⟨v, b, hd, h2, hm, hb, ho⟩ => ?_
  subst hd ho
  refine ⟨.rt (.bool (passF v b)), ?_, rfl⟩
  obtain ⟨n, hn⟩ : ∃ n : Nat, v - 1 = (n : Int) := ⟨(v - 1).toNat, by omega⟩
  have bv : Bt 64 v := by unfold Bt; omega
  have hv0 : 0 < v := by omega
  obtain ⟨tz1, tz2⟩ := tz_ok 64 n (by omega) (by omega)
  have unf : passF v b = (decide (powF v b ((n / 2 ^ tzF 64 n : Nat) : Int) = 1) || (match (List.range (tzF 64 n)).find? (fun k => decide (sqK v (powF v b ((n / 2 ^ tzF 64 n : Nat) : Int)) k = v - 1)) with | some _ => true | none => false)) := by
    unfold passF
    rw [hn, Int.toNat_natCast]
    try rfl
  rw [unf]
  have ts : tzF 64 n ≤ 64 := tz_le 64 n
  generalize tzF 64 n = s at tz1 tz2 ts ⊢
  refine jss_norm (Γ2 := [.d (.int v), .d (.int b), .u, .u, .u, .u]) rfl ?_
  refine jss_consN (js_par 2 3 rfl sc_p_passes.nd (je_is (je_sub (je_var 0 rfl) je_int) (by rw [hn])) je_int) (by dsimp only [List.set_cons_zero, List.set_cons_succ]) ?_
  refine jss_cons (js_while (fun k => [.d (.int v), .d (.int b), .d (.int ((n / 2 ^ (k) : Nat) : Int)), .d (.int ((k : Nat) : Int)), .u, .u]) s pn ?_ (fun k hk => ?_) (fun k hk => ?_) ?_) ?_
  · exact .keep (.keep (by rw [show n / 2 ^ 0 = n by simp]; exact Le.refl _))
  · have h := tz1 k hk
    exact jt_is (jt_eqI (je_mod (by decide) (je_var 2 rfl) je_int) je_int) (decide_eq_true (by omega))
  · refine jss_cons (js_augFd 2 ⟨by decide, by decide⟩ rfl sc_p_passes.nd je_int) (jss_one (js_is (js_augAdd 3 rfl sc_p_passes.nd je_int) ?_))
    show SO.nx [.d (.int v), .d (.int b), .d (.int (((n / 2 ^ k : Nat) : Int) / 2)), .d (.int (((k : Nat) : Int) + 1)), .u, .u] = SO.nx [.d (.int v), .d (.int b), .d (.int ((n / 2 ^ (k + 1) : Nat) : Int)), .d (.int ((k + 1 : Nat) : Int)), .u, .u]
    rw [Nat.pow_succ, ← Nat.div_div_eq_div_mul]
    rfl
  · exact jt_is (jt_eqI (je_mod (by decide) (je_var 2 rfl) je_int) je_int) (decide_eq_false (by generalize n / 2 ^ s = q at tz2 ⊢; omega))
  refine jss_consN (js_set 4 sc_p_passes.nd (je_callC C_power_modulo ⟨_, _, _, rfl, Int.natCast_nonneg _, hv0, bv, hb, rfl⟩ (hr.mono (by decide)) (by first | exact takes0 | exact tk) (ja_cons (je_var 1 rfl) (ja_cons (je_var 2 rfl) (ja_cons (je_var 0 rfl) ja_nil))))) (by dsimp only [List.set_cons_zero, List.set_cons_succ]) ?_
  have pb := powF_bt (e := ((n / 2 ^ s : Nat) : Int)) hv0 bv hb
  generalize powF v b ((n / 2 ^ s : Nat) : Int) = p at pb ⊢
  by_cases h1 : p = 1
  · rw [decide_eq_true h1, Bool.true_or]
    exact jss_stop (js_ifT (jt_is (jt_eqI (je_var 4 rfl) je_int) (decide_eq_true h1)) (jss_one (js_ret je_bl))) trivial
  rw [decide_eq_false h1, Bool.false_or]
  refine jss_cons (js_ifF (jt_is (jt_eqI (je_var 4 rfl) je_int) (decide_eq_false h1)) jss_nil) ?_
  have sb := sq_bt hv0 bv pb
  refine jss_is (jss_find (js_forFind (ds := rngD 0 s) (fun k => decide (sqK v p k = v - 1)) (fun _ => .rt (.bool true)) (fun k => [.d (.int v), .d (.int b), .d (.int ((n / 2 ^ s : Nat) : Int)), .d (.int ((s : Nat) : Int)), .d (.int (sqK v p k)), .u]) (fun k => [.d (.int v), .d (.int b), .d (.int ((n / 2 ^ s : Nat) : Int)), .d (.int ((s : Nat) : Int)), .d (.int (sqK v p k)), .d (.int (0 + (k : Nat)))]) pn rfl (ji_is (ji_range1 T.z_range (by omega) (by omega) (je_var 3 rfl)) (by rw [Int.toNat_natCast])) (jg_name 5 sc_p_passes.nd) (Le.refl _) (fun k d e => ?_) (fun k d e h => ?_) (fun k d e h => ?_)) (fun k => trivial) (fun _ => jss_one (js_ret je_bl))) ?_
  · obtain ⟨_, rfl⟩ := rngD_get e
    rfl
  · refine jss_nx (jss_cons (js_ifF (jt_is (jt_eqI (je_var 4 rfl) (je_sub (je_var 0 rfl) je_int)) h) jss_nil) (jss_one (js_set 4 sc_p_passes.nd (je_mod hv0 (je_mulW (cm (sb k) (sb k)) (je_var 4 rfl) (je_var 4 rfl)) (je_var 0 rfl))))) (.keep (.keep (.keep (.keep (.keep (.drop .nil))))))
  · exact ⟨jss_stop (js_ifT (jt_is (jt_eqI (je_var 4 rfl) (je_sub (je_var 0 rfl) je_int)) h) (jss_one (js_ret je_bl))) trivial, trivial⟩
  · rw [rngD_len]
    cases (List.range s).find? fun k => decide (sqK v p k = v - 1) <;> rfl
theorem c_is_prime : Cal P w K mg base 3 "is_prime" ["value"] R_isp := by
  have C__passes : Cal P w K mg base 2 "_passes" ["value", "base"] R_pass := cp_passes T
  refine cal_mk T.fn_is_prime sc_is_prime (fun ds o ⟨v, h, _⟩ => by subst h; rfl) fun f cdv A outer s H E F ds o hr tk pn ⟨v, hd, ho⟩ => ?_
  subst hd ho
  refine ⟨.rt (.bool (isPrimeF v)), ?_, rfl⟩
  obtain ⟨tM, gM⟩ := T.gi_MOST
  obtain ⟨aB, gB, dB⟩ := T.g_BASES
  unfold isPrimeF
  by_cases hv : 2 ≤ v ∧ v ≤ 1000000000000
  · rw [if_pos hv]
    refine jss_cons (js_ifF (jt_is (jt_not (jt_leLe je_int (je_var 0 rfl) (je_glob (dp_int _) gM ⟨_, rfl⟩))) (by rw [decide_eq_true hv.1, decide_eq_true hv.2]; rfl)) jss_nil) ?_
    refine jss_is (jss_find (js_forFind (ds := basesL.map .int) (fun k => decide (v % basesL.getD k 0 = 0)) (fun k => .rt (.bool (decide (v = basesL.getD k 0)))) (fun k => [.d (.int v), .u]) (fun k => [.d (.int v), .d (.int (basesL.getD k 0))]) pn rfl (ji_tup (je_glob dB gB rfl)) (jg_name 1 sc_is_prime.nd) (Le.refl _) (fun k d e => ?_) (fun k d e h => ?_) (fun k d e h => ?_)) (fun k => trivial) (fun hn => jss_one (js_ret (je_is (je_allB rfl T.z_all (je_o2v (je_lcE0 PyData.bool (xs := basesL) (enc := PyData.int) (g := fun b => passF v b) (own := [("base", 1)]) (.one 1) rfl sc_is_prime.nd (ji_tup (je_glob dB gB rfl)) (blkOk_by (N := N_is_prime) (sc := defScope s_is_prime) (by decide +kernel)) (by show 5 < 100000; decide) (fun _ _ => trivial) (fun _ _ _ _ _ => pg_name (i := 1) sc_is_prime.nd rfl (Or.inl rfl)) (fun b hb2 s H C cl fp => je_callC C__passes ⟨_, _, rfl, hv.1, hv.2, base_bt hb2, rfl⟩ (hr.mono (by decide)) takes0 (ja_cons (je_var 0 rfl) (ja_cons (je_var 1 rfl) ja_nil)))))) rfl)))) ?_
    · have hk := (List.getElem?_eq_some_iff.mp e).1
      rw [List.length_map] at hk
      have e2 : (basesL.map PyData.int)[k]? = some (.int (basesL.getD k 0)) := by rw [List.getElem?_map, List.getD_eq_getElem?_getD, List.getElem?_eq_getElem hk]; rfl
      rw [e2] at e
      cases e
      rfl
    · have hb0 := base_pos (k := k) (by have hk := (List.getElem?_eq_some_iff.mp e).1; rw [List.length_map] at hk; exact hk)
      exact jss_nx (jss_one (js_ifF (jt_is (jt_eqI (je_mod hb0 (je_var 0 rfl) (je_var 1 rfl)) je_int) h) jss_nil)) (.keep (.drop .nil))
    · have hb0 := base_pos (k := k) (by have hk := (List.getElem?_eq_some_iff.mp e).1; rw [List.length_map] at hk; exact hk)
      exact ⟨jss_stop (js_ifT (jt_is (jt_eqI (je_mod hb0 (je_var 0 rfl) (je_var 1 rfl)) je_int) h) (jss_one (js_ret (je_eqI (je_var 0 rfl) (je_var 1 rfl))))) trivial, trivial⟩
    · rw [List.length_map]
      show outOf _ _ ((List.range 5).find? _) = _
      cases (List.range 5).find? fun k => decide (v % basesL.getD k 0 = 0) with
      | none =>
        show SO.rt (.bool ((basesL.map fun b => passF v b).all id)) = SO.rt (.bool (basesL.all (passF v)))
        rw [List.all_map]
        rfl
      | some k => rfl
  · rw [if_neg hv]
    exact jss_stop (js_ifT (jt_is (jt_not (jt_leLe je_int (je_var 0 rfl) (je_glob (dp_int _) gM ⟨_, rfl⟩))) (by
      by_cases h1 : 2 ≤ v
      · rw [decide_eq_true h1, decide_eq_false (fun h => hv ⟨h1, h⟩)]; rfl
      · rw [decide_eq_false h1]; rfl)) (jss_one (js_ret je_bl))) trivial
theorem c_check_odd_prime : Cal P w K mg base 4 "check_odd_prime" ["value", "most"] (R_codd c_InvalidQuestion) := by
  have C_is_prime : Cal P w K mg base 3 "is_prime" ["value"] R_isp := c_is_prime T
  refine cal_mk T.fn_check_odd_prime sc_check_odd_prime (fun ds o ⟨v, m, h, _⟩ => by subst h; rfl) fun f cdv A outer s H E F ds o hr tk pn ⟨v, m, hd, ho⟩ => ?_
  subst hd ho
  have e : (decide (v % 2 = 0) || (decide (m < v) || !isPrimeF v)) = !oddP v m := by unfold oddP; rw [Bool.not_not, Bool.or_assoc]
  by_cases h : oddP v m = true
  · rw [if_pos h]
    exact ⟨_, jss_one (js_ifF (jt_is (jt_w (jw_or (jt_eqI (je_mod (by decide) (je_var 0 rfl) je_int) je_int) (fun _ => (jw_or (jt_gt (je_var 0 rfl) (je_var 1 rfl)) (fun _ => (jw_or1 (jt_not (jt_val (je_callC C_is_prime ⟨_, rfl, rfl⟩ (hr.mono (by decide)) (by first | exact takes0 | exact tk) (ja_cons (je_var 0 rfl) ja_nil)))))))))) (e.trans (by rw [h]; rfl))) jss_nil), rfl⟩
  · rw [if_neg h]
    exact ⟨_, jss_one (js_ifT (jt_is (jt_w (jw_or (jt_eqI (je_mod (by decide) (je_var 0 rfl) je_int) je_int) (fun _ => (jw_or (jt_gt (je_var 0 rfl) (je_var 1 rfl)) (fun _ => (jw_or1 (jt_not (jt_val (je_callC C_is_prime ⟨_, rfl, rfl⟩ (hr.mono (by decide)) (by first | exact takes0 | exact tk) (ja_cons (je_var 0 rfl) ja_nil)))))))))) (e.trans (by rw [(Bool.not_eq_true _).mp h]; rfl))) (jss_one (js_raise T.e_InvalidQuestion rfl tk))), rfl⟩
theorem cp_needed : Cal P w K mg base 1 "_needed" ["prime", "one"] R_need := by
  refine cal_mk T.fn_p_needed sc_p_needed (fun ds o ⟨p, one, h, _⟩ => by subst h; rfl) fun f cdv A outer s H E F ds o hr tk pn ⟨p, one, hd, hp, hb, ho⟩ => ?_
  subst hd ho
  refine ⟨.rt (.int (needF p one)), ?_, rfl⟩
  exact (jss_one (js_ret (je_mod hp (je_sub (je_neg je_int) (je_mulW (cm hb hb) (je_var 1 rfl) (je_var 1 rfl))) (je_var 0 rfl))))
theorem cp_least_roots : Cal P w K mg base 5 "_least_roots" ["prime"] (R_lroots c_InvalidQuestion) := by
  have C_check_odd_prime : Cal P w K mg base 4 "check_odd_prime" ["value", "most"] (R_codd c_InvalidQuestion) := c_check_odd_prime T
  refine cal_mk T.fn_p_least_roots sc_p_least_roots (fun ds o ⟨p, h, _⟩ => by subst h; rfl) fun f cdv A outer s H E F ds o hr tk pn ⟨p, hd, ho⟩ => ?_
  subst hd ho
  obtain ⟨tM, gM⟩ := T.gi__MOST_PRIME
  by_cases h : oddP p 10000 = true
  · rw [if_pos h]
    obtain ⟨h1, h2, h3⟩ := odd_bt h
    have rb : ∀ r ∈ List.range (p / 2 + 1).toNat, Bt 64 (0 + (r : Int)) := fun r hr => by
      have := List.mem_range.mp hr
      unfold Bt
      omega
    refine ⟨.rtq (dkO (dkI (rootsI p))), ?_, rfl⟩
    refine jss_cons (js_expr (je_callC C_check_odd_prime ⟨p, 10000, rfl, by rw [if_pos h]⟩ (hr.mono (by decide)) tk (ja_cons (je_var 0 rfl) (ja_cons (je_glob (dp_int _) gM ⟨_, rfl⟩) ja_nil)))) ?_
    refine jss_one (js_is (js_retQ (je_dc (xs := List.range (p / 2 + 1).toNat) (enc := fun r : Nat => PyData.int (0 + (r : Int))) (fk := fun r : Nat => .inl ((0 + (r : Int)) * (0 + (r : Int)) % p)) (fv := fun r : Nat => PyData.int (0 + (r : Int))) (own := [("root", 1)]) (.one 1) rfl sc_p_least_roots.nd (ji_range1 T.z_range (by omega) (by omega) (je_add (je_fdiv ⟨by decide, by decide⟩ (je_var 0 rfl) je_int) je_int)) (blkOk_by (N := N_p_least_roots) (sc := defScope s_p_least_roots) (by decide +kernel)) (by rw [List.length_range]; omega) (fun _ _ => trivial) (fun _ _ _ _ _ => pg_name (i := 1) sc_p_least_roots.nd rfl (Or.inl rfl)) (fun r hr2 s H C cl fp => je_mod (by omega) (je_mulW (cm (rb r hr2) (rb r hr2)) (je_var 1 rfl) (je_var 1 rfl)) (je_var 0 rfl)) (fun r hr2 s H C cl fp => je_var 1 rfl))) ?_)
    rw [show rootsI p = (List.range (p / 2 + 1).toNat).foldl (fun (acc : List (Int × Int)) (r : Nat) => putI acc ((0 + (r : Int)) * (0 + (r : Int)) % p) (0 + (r : Int))) [] from rfl, ← fold_dkI]
    rfl
  · rw [if_neg h]
    exact ⟨_, jss_stop (js_exprX (je_callC C_check_odd_prime ⟨p, 10000, rfl, by rw [if_neg h]⟩ (hr.mono (by decide)) tk (ja_cons (je_var 0 rfl) (ja_cons (je_glob (dp_int _) gM ⟨_, rfl⟩) ja_nil)))) trivial, rfl⟩
theorem c_root_pair : Cal P w K mg base 6 "root_pair" ["prime"] (R_rpair c_InvalidQuestion) := by
  have C__least_roots : Cal P w K mg base 5 "_least_roots" ["prime"] (R_lroots c_InvalidQuestion) := cp_least_roots T
  have C__needed : Cal P w K mg base 1 "_needed" ["prime", "one"] R_need := cp_needed T
  refine cal_mk T.fn_root_pair sc_root_pair (fun ds o ⟨p, h, _⟩ => by subst h; rfl) fun f cdv A outer s H E F ds o hr tk pn ⟨p, hd, h⟩ => ?_
  subst hd
  rcases h with ⟨h, ho⟩ | ⟨x, y, h, rp, ho⟩
  · subst ho
    exact ⟨_, jss_stop (js_setX 1 sc_root_pair.nd (je_callC C__least_roots ⟨p, rfl, by rw [h]; rfl⟩ (hr.mono (by decide)) tk (ja_cons (je_var 0 rfl) ja_nil))) trivial, rfl⟩
  subst ho
  obtain ⟨h1, h2, h3⟩ := odd_bt h
  have hp : 0 < p := by omega
  obtain ⟨⟨n, rfl, hn⟩, hl, hb⟩ := rp
  have ob : ∀ k : Nat, k ≤ n → Bt 100 (k : Int) := fun k hk => by unfold Bt; omega
  refine ⟨.rt (ti [(n : Int), y]), ?_, rfl⟩
  refine jss_cons (js_setQ 1 sc_root_pair.nd (je_callC C__least_roots ⟨p, rfl, by rw [if_pos h]⟩ (hr.mono (by decide)) tk (ja_cons (je_var 0 rfl) ja_nil))) ?_
  refine jss_cons (js_set 2 sc_root_pair.nd je_int) ?_
  refine jss_cons (js_while (fun k => [.d (.int p), .q (dkO (dkI (rootsI p))), .d (.int (k : Nat))]) n pn (Le.refl _) (fun k hk => ?_) (fun k hk => ?_) ?_) ?_
  · exact jt_is (jt_dNotIn 1 (u1 hr.units) rfl (key := .inl (needF p (k : Int))) (je_callC C__needed ⟨_, _, rfl, hp, ob k (by omega), rfl⟩ (hr.mono (by decide)) (by first | exact takes0 | exact tk) (ja_cons (je_var 0 rfl) (ja_cons (je_var 2 rfl) ja_nil)))) (by rw [look_dkI, hn k hk]; rfl)
  · exact jss_one (js_is (js_augAdd 2 rfl sc_root_pair.nd je_int) (by rfl))
  · exact jt_is (jt_dNotIn 1 (u1 hr.units) rfl (key := .inl (needF p (n : Int))) (je_callC C__needed ⟨_, _, rfl, hp, ob n (Nat.le_refl _), rfl⟩ (hr.mono (by decide)) (by first | exact takes0 | exact tk) (ja_cons (je_var 0 rfl) (ja_cons (je_var 2 rfl) ja_nil)))) (by rw [look_dkI, hl]; rfl)
  · exact jss_one (js_ret (je_is (je_tup (ja_cons (je_var 2 rfl) (ja_cons (je_dIx 1 (u1 hr.units) rfl (key := .inl (needF p (n : Int))) (d := .int y) (by rw [look_dkI, hl]; rfl) (je_callC C__needed ⟨_, _, rfl, hp, ob n (Nat.le_refl _), rfl⟩ (hr.mono (by decide)) (by first | exact takes0 | exact tk) (ja_cons (je_var 0 rfl) (ja_cons (je_var 2 rfl) ja_nil)))) ja_nil))) rfl))
theorem c_root_pairs : Cal P w K mg base 6 "root_pairs" ["prime"] (R_rpairs c_InvalidQuestion) := by
  have C__least_roots : Cal P w K mg base 5 "_least_roots" ["prime"] (R_lroots c_InvalidQuestion) := cp_least_roots T
  have C__needed : Cal P w K mg base 1 "_needed" ["prime", "one"] R_need := cp_needed T
  refine cal_mk T.fn_root_pairs sc_root_pairs (fun ds o ⟨p, h, _⟩ => by subst h; rfl) fun f cdv A outer s H E F ds o hr tk pn ⟨p, hd, ho⟩ => ?_
  subst hd ho
  by_cases h : oddP p 10000 = true
  · rw [if_pos h]
    obtain ⟨h1, h2, h3⟩ := odd_bt h
    have hp : 0 < p := by omega
    have ob : ∀ k : Nat, k < p.toNat → Bt 100 (0 + (k : Int)) := fun k hk => by unfold Bt; omega
    refine ⟨.rto ((pairsF p).map ti), ?_, rfl⟩
    refine jss_cons (js_setQ 1 sc_root_pairs.nd (je_callC C__least_roots ⟨p, rfl, by rw [if_pos h]⟩ (hr.mono (by decide)) tk (ja_cons (je_var 0 rfl) ja_nil))) ?_
    refine jss_cons (js_is (js_setO 2 sc_root_pairs.nd (je_lst ja_nil)) (show _ = SO.nx [.d (.int p), .q (dkO (dkI (rootsI p))), .own (((List.range 0).flatMap (rpAt p)).map ti), .u, .u] from rfl)) ?_
    refine jss_cons (js_is (js_forAll (fun k => [.d (.int p), .q (dkO (dkI (rootsI p))), .own (((List.range k).flatMap (rpAt p)).map ti), .u, .u]) (fun k => [.d (.int p), .q (dkO (dkI (rootsI p))), .own (((List.range k).flatMap (rpAt p)).map ti), .d (.int (0 + (k : Nat))), .u]) pn rfl (ji_range1 T.z_range (by omega) (by omega) (je_var 0 rfl)) (jg_name 3 sc_root_pairs.nd) (Le.refl _) (fun k d e => by
      obtain ⟨_, rfl⟩ := rngD_get e
      rfl) fun k d e => ?_) rfl) ?_
    · obtain ⟨hk0, _⟩ := rngD_get e
      have hk2 : k < p.toNat := hk0
      have ll := flatM_len (rp_len p) k
      rw [flat_succ, List.map_append]
      refine jss_cons (js_set 4 sc_root_pairs.nd (je_dGet1 1 (u1 hr.units) rfl (key := .inl (needF p (0 + (k : Int)))) (je_callC C__needed ⟨_, _, rfl, hp, ob k hk2, rfl⟩ (hr.mono (by decide)) (by first | exact takes0 | exact tk) (ja_cons (je_var 0 rfl) (ja_cons (je_var 3 rfl) ja_nil))))) ?_
      generalize (List.range k).flatMap (rpAt p) = pre at ll ⊢
      unfold rpAt
      rw [look_dkI]
      cases q : lookI (rootsI p) (needF p (0 + (k : Int))) with
      | none =>
        exact jss_nx (jss_one (js_ifF (jt_is (jt_notN (je_var 4 rfl) je_non) rfl) jss_nil)) (by rw [List.map_nil, List.append_nil]; exact .keep (.keep (.keep (.drop (.drop .nil)))))
      | some r =>
        refine jss_nx (Γ1 := [.d (.int p), .q (dkO (dkI (rootsI p))), .own (pre.map ti ++ (if 0 < r then [[0 + (k : Int), r], [0 + (k : Int), p - r]] else [[0 + (k : Int), r]]).map ti), .d (.int (0 + (k : Nat))), .d (.int r)]) (jss_one (js_ifT (jt_is (jt_notN (je_var 4 rfl) je_non) rfl) (jss_cons (js_append 2 rfl (by rw [List.length_map]; omega) (je_is (je_tup (ja_cons (je_var 3 rfl) (ja_cons (je_var 4 rfl) ja_nil))) rfl)) ?_))) ?_
        · by_cases hr0 : 0 < r
          · refine jss_is (jss_one (js_ifT (jt_is (jt_gt (je_var 4 rfl) je_int) (decide_eq_true hr0)) (jss_one (js_append 2 rfl (by rw [List.length_append, List.length_map]; simp; omega) (je_is (je_tup (ja_cons (je_var 3 rfl) (ja_cons (je_sub (je_var 0 rfl) (je_var 4 rfl)) ja_nil))) rfl))))) ?_
            show SO.nx [.d (.int p), .q (dkO (dkI (rootsI p))), .own (pre.map ti ++ [ti [0 + (k : Int), r]] ++ [ti [0 + (k : Int), p - r]]), .d (.int (0 + (k : Nat))), .d (.int r)] = SO.nx [.d (.int p), .q (dkO (dkI (rootsI p))), .own (pre.map ti ++ (if 0 < r then [[0 + (k : Int), r], [0 + (k : Int), p - r]] else [[0 + (k : Int), r]]).map ti), .d (.int (0 + (k : Nat))), .d (.int r)]
            rw [if_pos hr0, List.append_assoc]
            rfl
          · refine jss_is (jss_one (js_ifF (jt_is (jt_gt (je_var 4 rfl) je_int) (decide_eq_false hr0)) jss_nil)) ?_
            show SO.nx [.d (.int p), .q (dkO (dkI (rootsI p))), .own (pre.map ti ++ [ti [0 + (k : Int), r]]), .d (.int (0 + (k : Nat))), .d (.int r)] = SO.nx [.d (.int p), .q (dkO (dkI (rootsI p))), .own (pre.map ti ++ (if 0 < r then [[0 + (k : Int), r], [0 + (k : Int), p - r]] else [[0 + (k : Int), r]]).map ti), .d (.int (0 + (k : Nat))), .d (.int r)]
            rw [if_neg hr0]
            rfl
        · exact .keep (.keep (.keep (.drop (.drop .nil))))
    · rw [rngD_len]
      refine jss_one (js_retOwn 2 rfl)
  · rw [if_neg h]
    exact ⟨_, jss_stop (js_setX 1 sc_root_pairs.nd (je_callC C__least_roots ⟨p, rfl, by rw [if_neg h]⟩ (hr.mono (by decide)) tk (ja_cons (je_var 0 rfl) ja_nil))) trivial, rfl⟩
theorem c_law_pick : Cal P w K mg base 1 "_law_pick" ["numbers", "at", "most"] R_law_pick := by
  refine cal_mk T.fn_law_pick sc_law_pick (fun ds o ⟨ns, i, z, m, h, _⟩ => by subst h; rfl) fun f cdv A outer s H E F ds o hr tk pn ⟨ns, i, z, m, hd, hz, hi, hm, ho⟩ => ?_
  subst hd hz ho
  refine ⟨.rt (.int (ns.getD i 0 % m)), ?_, rfl⟩
  exact jss_one (js_ret (je_mod hm (je_intI T.z_int (je_ixL (ds := ns.map .int) (at_ints (i := i) rfl hi) (je_var 0 rfl) (je_var 1 rfl))) (je_var 2 rfl)))
theorem c_law_pairs : Cal P w K mg base 1 "_law_pairs" ["prime"] R_law_pairs := by
  refine cal_mk T.fn_law_pairs sc_law_pairs (fun ds o ⟨p, h, _⟩ => by subst h; rfl) fun f cdv A outer s H E F ds o hr tk pn ⟨p, hd, hp, h3, ho⟩ => ?_
  subst hd ho
  have ob : ∀ k : Nat, k < p.toNat → Bt 100 (0 + (k : Int)) := fun k hk => by unfold Bt; omega
  refine ⟨.rto ((lawPairs p).map ti), ?_, rfl⟩
  refine jss_cons (js_is (js_setO 1 sc_law_pairs.nd (je_lst ja_nil)) (show _ = SO.nx [.d (.int p), .own (((List.range 0).flatMap (lpAt p)).map ti), .u, .u] from rfl)) ?_
  refine jss_cons (js_is (js_forAll (fun k => [.d (.int p), .own (((List.range k).flatMap (lpAt p)).map ti), .u, .u]) (fun k => [.d (.int p), .own (((List.range k).flatMap (lpAt p)).map ti), .d (.int (0 + (k : Nat))), .u]) pn rfl (ji_range1 T.z_range (by omega) (by omega) (je_var 0 rfl)) (jg_name 2 sc_law_pairs.nd) (Le.refl _) (fun k d e => by
    obtain ⟨_, rfl⟩ := rngD_get e
    rfl) fun k d e => ?_) rfl) ?_
  · obtain ⟨hk0, _⟩ := rngD_get e
    have hk2 : k < p.toNat := hk0
    have ll := flatM_len (lp_len p) k
    have l2 := lp_len p k
    have l3 : k * p.toNat ≤ 300 * 300 := Nat.mul_le_mul (by omega) (by omega)
    refine jss_nx (jss_one (js_is (js_setO 1 sc_law_pairs.nd (je_own_cat (es := (lpAt p k).map ti) 1 rfl (by rw [List.length_map, List.length_map]; omega) (je_lcE ti (xs := List.range p.toNat) (enc := fun y : Nat => PyData.int (0 + (y : Int))) (p := fun y : Nat => decide (((0 + (k : Int)) * (0 + (k : Int)) + (0 + (y : Int)) * (0 + (y : Int)) + 1) % p = 0)) (g := fun y : Nat => [0 + (k : Int), 0 + (y : Int)]) (own := [("y", 3)]) (.one 3) rfl sc_law_pairs.nd (ji_range1 T.z_range (by omega) (by omega) (je_var 0 rfl)) (blkOk_by (N := N_law_pairs) (sc := defScope s_law_pairs) (by decide +kernel)) (by rw [List.length_range]; omega) (fun _ _ => trivial) (fun _ _ _ _ _ => pg_name (i := 3) sc_law_pairs.nd rfl (Or.inl rfl)) (fun y hy s H C cl fp => jts_one (jt_eqI (je_mod hp (je_intI T.z_int (je_add (je_add (je_mulW (cm (ob k hk2) (ob k hk2)) (je_var 2 rfl) (je_var 2 rfl)) (je_mulW (cm (ob y (List.mem_range.mp hy)) (ob y (List.mem_range.mp hy))) (je_var 3 rfl) (je_var 3 rfl))) je_int)) (je_var 0 rfl)) je_int)) (fun y hy _ s H C cl fp => je_is (je_tup (ja_cons (je_var 2 rfl) (ja_cons (je_var 3 rfl) ja_nil))) rfl)))) (show _ = SO.nx [.d (.int p), .own (((List.range (k + 1)).flatMap (lpAt p)).map ti), .d (.int (0 + (k : Nat))), .u] by rw [flat_succ, List.map_append]; rfl))) ?_
    exact .keep (.keep (.drop (.keep .nil)))
  · rw [rngD_len]
    exact jss_one (js_retOwn 1 rfl)

/-! the law: LEVEL 8 -/
theorem ok_law {f : Addr} {fd : FuncData} (Fn : Fun K "law" "law" s_law f fd) : FnOk P w K mg base (L2.CX P w) 8 f fd ["script"] (spD K R_law) := by
  have C__law_numbers : Cal P w K mg base 2 "_law_numbers" ["script", "many"] R_law_numbers := c_law_numbers T
  have C__law_pick : Cal P w K mg base 1 "_law_pick" ["numbers", "at", "most"] R_law_pick := c_law_pick T
  have C__law_pairs : Cal P w K mg base 1 "_law_pairs" ["prime"] R_law_pairs := c_law_pairs T
  have C_root_pair : Cal P w K mg base 6 "root_pair" ["prime"] (R_rpair c_InvalidQuestion) := c_root_pair T
  have C_root_pairs : Cal P w K mg base 6 "root_pairs" ["prime"] (R_rpairs c_InvalidQuestion) := c_root_pairs T
  refine fn_ok Fn sc_law (fun ds o ⟨ns, h, _⟩ => by subst h; rfl) fun cdv A outer s H E F ds o hr tk pn ⟨ns, hd, hl, ho⟩ => ?_
  subst hd ho
  refine ⟨.rt (.bool true), ?_, rfl⟩
  refine jss_norm (Γ2 := [.d (li ns), .u, .u, .u, .u]) rfl ?_
  refine jss_consN (js_set 1 sc_law.nd (je_callC C__law_numbers ⟨ns, 4, rfl, hl, by decide, rfl⟩ (hr.mono (by decide)) (by first | exact takes0 | exact tk) (ja_cons (je_var 0 rfl) (ja_cons je_int ja_nil)))) (by dsimp only [List.set_cons_zero, List.set_cons_succ]) ?_
  have dr := lawNums_ok ns 4
  generalize lawNums ns 4 = nums at dr ⊢
  have hin : In9 nums := dr.2
  have hlen := dr.1
  refine jss_cons (js_set 2 sc_law.nd (je_ixL (ds := smallP.map .int) (at_ints (i := (nums.getD 0 0 % 13).toNat) (by omega) (by show _ < 13; omega)) (je_is (je_o2v (je_lst (ja_cons je_int (ja_cons je_int (ja_cons je_int (ja_cons je_int (ja_cons je_int (ja_cons je_int (ja_cons je_int (ja_cons je_int (ja_cons je_int (ja_cons je_int (ja_cons je_int (ja_cons je_int (ja_cons je_int ja_nil))))))))))))))) rfl) (je_callC C__law_pick ⟨_, 0, _, _, rfl, rfl, by omega, by decide, rfl⟩ (hr.mono (by decide)) (by first | exact takes0 | exact tk) (ja_cons (je_var 1 rfl) (ja_cons je_int (ja_cons je_int ja_nil)))))) ?_
  have hp : smallP.getD (nums.getD 0 0 % 13).toNat 0 ∈ smallP := getD_memI (by show _ < 13; omega)
  generalize smallP.getD (nums.getD 0 0 % 13).toNat 0 = p at hp ⊢
  obtain ⟨hodd, hroot⟩ := small_root hp
  obtain ⟨e1, e2, e3⟩ := k78_at hp
  obtain ⟨b1, b2⟩ := small_b hp
  refine jss_consN (js_setO 3 sc_law.nd (je_callC C__law_pairs ⟨p, rfl, by omega, by omega, rfl⟩ (hr.mono (by decide)) (by first | exact takes0 | exact tk) (ja_cons (je_var 2 rfl) ja_nil))) (by dsimp only [List.set_cons_zero, List.set_cons_succ]) ?_
  refine jss_frzN 3 rfl (by dsimp only [List.set_cons_zero, List.set_cons_succ]) ?_
  refine jss_consN (js_setO 4 sc_law.nd (je_callC C_root_pairs ⟨p, rfl, by rw [if_pos hodd]⟩ (hr.mono (by decide)) (by first | exact takes0 | exact tk) (ja_cons (je_var 2 rfl) ja_nil))) (by dsimp only [List.set_cons_zero, List.set_cons_succ]) ?_
  refine jss_frzN 4 rfl (by dsimp only [List.set_cons_zero, List.set_cons_succ]) ?_
  rw [e1]
  obtain ⟨rest, e4⟩ := e2
  refine jss_cons (js_ifF (jt_is (jt_w (jw_or (jt_not (jt_val (je_isD (T := "list") (r := true) (by show kitB "list" "list" = some true; decide +kernel) T.z_isinstance T.z_list (by decide +kernel) (je_var 4 rfl)))) (fun _ => (jw_or (jt_neD hr.units (sh_lti _) (sh_lti _) (je_var 4 rfl) (je_var 3 rfl)) (fun _ => (jw_or1 (jt_neD hr.units (sh_ti _) (sh_ti [(rpN p : Int), rpV p]) (je_callC C_root_pair ⟨p, rfl, .inr ⟨_, _, hodd, hroot, rfl⟩⟩ (hr.mono (by decide)) (by first | exact takes0 | exact tk) (ja_cons (je_var 2 rfl) ja_nil)) (je_ixL (by rw [e4]; exact atI_nat (j := 0) rfl) (je_var 3 rfl) je_int)))))))) (by rw [eqv_refl _ (sh_lti _), eqv_ti, decide_eq_true rfl]; rfl)) jss_nil) ?_
  exact jss_one (js_ret (je_is (je_eqI (je_lenL T.z_len (je_var 4 rfl)) (je_sub (je_add (je_var 2 rfl) (je_mod (by decide) (je_intI T.z_int (je_var 2 rfl)) je_int)) je_int)) (by rw [List.length_map, ← e1, e3, decide_eq_true rfl])))

end
theorem all_mk {l : PySem.W.OpenLaw} {w : World} {K : PySem.W.Frag} {h : Heap} {mg : Str → Option Value} {fa : Addr} {f1 f2 f3 f4 f5 f6 f7 f8 f9 f10 f11 f12 f13 C1 C2 : Addr} (X : K.In h) (G : h.Ns mainGlobals mg) (hfa : mg "law" = some (.ref fa))
    {od1 an1 od2 an2 od3 an3 od4 an4 od5 an5 od6 an6 od7 an7 od8 an8 od9 an9 od10 an10 od11 an11 od12 an12 od13 an13 : Option Addr} {sl1 sl2 sl3 sl4 sl5 sl6 sl7 sl8 sl9 sl10 sl11 sl12 sl13 : Array (Option Value)} {oc1 kV1 dc1 pm1 cd1 ct1 oc2 kV2 dc2 pm2 cd2 ct2 oc3 kV3 dc3 pm3 cd3 ct3 oc4 kV4 dc4 pm4 cd4 ct4 oc5 kV5 dc5 pm5 cd5 ct5 oc6 kV6 dc6 pm6 cd6 ct6 oc7 kV7 dc7 pm7 cd7 ct7 oc8 kV8 dc8 pm8 cd8 ct8 oc9 kV9 dc9 pm9 cd9 ct9 oc10 kV10 dc10 pm10 cd10 ct10 oc11 kV11 dc11 pm11 cd11 ct11 oc12 kV12 dc12 pm12 cd12 ct12 oc13 kV13 dc13 pm13 cd13 ct13 : Value}
    {kk1 : Addr} {odK1 : Option Addr} {uK1_0 uK1_1 uK1_2 uK1_3 uK1_4 : Tok} {nK1 : Nat} {slK1 : Array (Option Value)} {uN1 : Tok} {uN2 : Tok}
    (a1 : PySem.W.nsIn K mainGlobals "is_prime" = some (some (.ref f1))) (l1 : K.lookup f1 = some ⟨oc1, od1, .func (PySem.W.fnOf "is_prime" "is_prime" (defArgs s_is_prime) (defBody s_is_prime) (defScope s_is_prime) .none kV1 dc1 pm1 an1 cd1 ct1), sl1⟩) (c1 : PySem.W.codeIn K cd1 "is_prime" = true) (k1 : PySem.W.keepIn K (.ref f1) = true)
    (a2 : PySem.W.nsIn K mainGlobals "check_odd_prime" = some (some (.ref f2))) (l2 : K.lookup f2 = some ⟨oc2, od2, .func (PySem.W.fnOf "check_odd_prime" "check_odd_prime" (defArgs s_check_odd_prime) (defBody s_check_odd_prime) (defScope s_check_odd_prime) .none kV2 dc2 pm2 an2 cd2 ct2), sl2⟩) (c2 : PySem.W.codeIn K cd2 "check_odd_prime" = true) (k2 : PySem.W.keepIn K (.ref f2) = true)
    (a3 : PySem.W.nsIn K mainGlobals "power_modulo" = some (some (.ref f3))) (l3 : K.lookup f3 = some ⟨oc3, od3, .func (PySem.W.fnOf "power_modulo" "power_modulo" (defArgs s_power_modulo) (defBody s_power_modulo) (defScope s_power_modulo) .none kV3 dc3 pm3 an3 cd3 ct3), sl3⟩) (c3 : PySem.W.codeIn K cd3 "power_modulo" = true) (k3 : PySem.W.keepIn K (.ref f3) = true)
    (a4 : PySem.W.nsIn K mainGlobals "_passes" = some (some (.ref f4))) (l4 : K.lookup f4 = some ⟨oc4, od4, .func (PySem.W.fnOf "_passes" "_passes" (defArgs s_p_passes) (defBody s_p_passes) (defScope s_p_passes) .none kV4 dc4 pm4 an4 cd4 ct4), sl4⟩) (c4 : PySem.W.codeIn K cd4 "_passes" = true) (k4 : PySem.W.keepIn K (.ref f4) = true)
    (a5 : PySem.W.nsIn K mainGlobals "root_pair" = some (some (.ref f5))) (l5 : K.lookup f5 = some ⟨oc5, od5, .func (PySem.W.fnOf "root_pair" "root_pair" (defArgs s_root_pair) (defBody s_root_pair) (defScope s_root_pair) .none kV5 dc5 pm5 an5 cd5 ct5), sl5⟩) (c5 : PySem.W.codeIn K cd5 "root_pair" = true) (k5 : PySem.W.keepIn K (.ref f5) = true)
    (a6 : PySem.W.nsIn K mainGlobals "root_pairs" = some (some (.ref f6))) (l6 : K.lookup f6 = some ⟨oc6, od6, .func (PySem.W.fnOf "root_pairs" "root_pairs" (defArgs s_root_pairs) (defBody s_root_pairs) (defScope s_root_pairs) .none kV6 dc6 pm6 an6 cd6 ct6), sl6⟩) (c6 : PySem.W.codeIn K cd6 "root_pairs" = true) (k6 : PySem.W.keepIn K (.ref f6) = true)
    (a7 : PySem.W.nsIn K mainGlobals "_least_roots" = some (some (.ref f7))) (l7 : K.lookup f7 = some ⟨oc7, od7, .func (PySem.W.fnOf "_least_roots" "_least_roots" (defArgs s_p_least_roots) (defBody s_p_least_roots) (defScope s_p_least_roots) .none kV7 dc7 pm7 an7 cd7 ct7), sl7⟩) (c7 : PySem.W.codeIn K cd7 "_least_roots" = true) (k7 : PySem.W.keepIn K (.ref f7) = true)
    (a8 : PySem.W.nsIn K mainGlobals "_needed" = some (some (.ref f8))) (l8 : K.lookup f8 = some ⟨oc8, od8, .func (PySem.W.fnOf "_needed" "_needed" (defArgs s_p_needed) (defBody s_p_needed) (defScope s_p_needed) .none kV8 dc8 pm8 an8 cd8 ct8), sl8⟩) (c8 : PySem.W.codeIn K cd8 "_needed" = true) (k8 : PySem.W.keepIn K (.ref f8) = true)
    (a9 : PySem.W.nsIn K mainGlobals "_law_row" = some (some (.ref f9))) (l9 : K.lookup f9 = some ⟨oc9, od9, .func (PySem.W.fnOf "_law_row" "_law_row" (defArgs s_law_row) (defBody s_law_row) (defScope s_law_row) .none kV9 dc9 pm9 an9 cd9 ct9), sl9⟩) (c9 : PySem.W.codeIn K cd9 "_law_row" = true) (k9 : PySem.W.keepIn K (.ref f9) = true)
    (a10 : PySem.W.nsIn K mainGlobals "_law_numbers" = some (some (.ref f10))) (l10 : K.lookup f10 = some ⟨oc10, od10, .func (PySem.W.fnOf "_law_numbers" "_law_numbers" (defArgs s_law_numbers) (defBody s_law_numbers) (defScope s_law_numbers) .none kV10 dc10 pm10 an10 cd10 ct10), sl10⟩) (c10 : PySem.W.codeIn K cd10 "_law_numbers" = true) (k10 : PySem.W.keepIn K (.ref f10) = true)
    (a11 : PySem.W.nsIn K mainGlobals "_law_pick" = some (some (.ref f11))) (l11 : K.lookup f11 = some ⟨oc11, od11, .func (PySem.W.fnOf "_law_pick" "_law_pick" (defArgs s_law_pick) (defBody s_law_pick) (defScope s_law_pick) .none kV11 dc11 pm11 an11 cd11 ct11), sl11⟩) (c11 : PySem.W.codeIn K cd11 "_law_pick" = true) (k11 : PySem.W.keepIn K (.ref f11) = true)
    (a12 : PySem.W.nsIn K mainGlobals "_law_pairs" = some (some (.ref f12))) (l12 : K.lookup f12 = some ⟨oc12, od12, .func (PySem.W.fnOf "_law_pairs" "_law_pairs" (defArgs s_law_pairs) (defBody s_law_pairs) (defScope s_law_pairs) .none kV12 dc12 pm12 an12 cd12 ct12), sl12⟩) (c12 : PySem.W.codeIn K cd12 "_law_pairs" = true) (k12 : PySem.W.keepIn K (.ref f12) = true)
    (a13 : PySem.W.nsIn K mainGlobals "law" = some (some (.ref f13))) (l13 : K.lookup f13 = some ⟨oc13, od13, .func (PySem.W.fnOf "law" "law" (defArgs s_law) (defBody s_law) (defScope s_law) .none kV13 dc13 pm13 an13 cd13 ct13), sl13⟩) (c13 : PySem.W.codeIn K cd13 "law" = true) (k13 : PySem.W.keepIn K (.ref f13) = true)
    (gC1 : PySem.W.nsIn K mainGlobals "TurnprimesError" = some (some (.ref C1))) (xC1 : PySem.W.excIn K C1 [.type "ValueError", .type "Exception", .type "BaseException", .type "object"] "ValueError.__new__" = true) (kC1 : PySem.W.keepIn K (.ref C1) = true) (bC1 : PySem.W.subIn K (.ref C1) (.type "BaseException") = some true) (tC1 : PySem.W.typeIn K (.ref C1) = some (.type "type"))
    (gC2 : PySem.W.nsIn K mainGlobals "InvalidQuestion" = some (some (.ref C2))) (xC2 : PySem.W.excIn K C2 [.type "ValueError", .type "Exception", .type "BaseException", .type "object"] "ValueError.__new__" = true) (kC2 : PySem.W.keepIn K (.ref C2) = true) (bC2 : PySem.W.subIn K (.ref C2) (.type "BaseException") = some true) (tC2 : PySem.W.typeIn K (.ref C2) = some (.type "type"))
    (aK1 : PySem.W.nsIn K mainGlobals "_BASES" = some (some (.ref kk1))) (lK1 : K.lookup kk1 = some ⟨.type "tuple", odK1, .seq #[.int 2 uK1_0, .int 3 uK1_1, .int 5 uK1_2, .int 7 uK1_3, .int 11 uK1_4] nK1, slK1⟩)
    (aN1 : PySem.W.nsIn K mainGlobals "MOST" = some (some (.int 1000000000000 uN1)))
    (aN2 : PySem.W.nsIn K mainGlobals "_MOST_PRIME" = some (some (.int 10000 uN2)))
    (z0 : PySem.W.nsIn K mainGlobals "abs" = some none) (z1 : PySem.W.nsIn K mainGlobals "all" = some none) (z2 : PySem.W.nsIn K mainGlobals "int" = some none) (z3 : PySem.W.nsIn K mainGlobals "isinstance" = some none) (z4 : PySem.W.nsIn K mainGlobals "len" = some none) (z5 : PySem.W.nsIn K mainGlobals "list" = some none) (z6 : PySem.W.nsIn K mainGlobals "max" = some none) (z7 : PySem.W.nsIn K mainGlobals "range" = some none) :
    ∃ fd : FuncData, (∀ (s : Shared) (v : Value), BindsTo s fd ⟨[v], []⟩ [("script", v)]) ∧ ∀ base : Heap, K.In base → base.Ns mainGlobals mg → FnOk l.prog w K mg base (L2.CX l.prog w) 8 fa fd ["script"] (spD K R_law) := by
  have ee := hfa.symm.trans (PySem.W.mg_of X G a13)
  cases ee
  have F1 := fun_mk (st := s_is_prime) l1 c1 k1
  have A1 : FnAt K mg "is_prime" s_is_prime ["value"] := ⟨f1, _, F1, PySem.W.mg_of X G a1, F1.binds (ps := ["value"]) fun _ _ _ _ _ _ us hl => match us, hl with | [_], _ => rfl⟩
  have F2 := fun_mk (st := s_check_odd_prime) l2 c2 k2
  have A2 : FnAt K mg "check_odd_prime" s_check_odd_prime ["value", "most"] := ⟨f2, _, F2, PySem.W.mg_of X G a2, F2.binds (ps := ["value", "most"]) fun _ _ _ _ _ _ us hl => match us, hl with | [_, _], _ => rfl⟩
  have F3 := fun_mk (st := s_power_modulo) l3 c3 k3
  have A3 : FnAt K mg "power_modulo" s_power_modulo ["base", "exponent", "modulus"] := ⟨f3, _, F3, PySem.W.mg_of X G a3, F3.binds (ps := ["base", "exponent", "modulus"]) fun _ _ _ _ _ _ us hl => match us, hl with | [_, _, _], _ => rfl⟩
  have F4 := fun_mk (st := s_p_passes) l4 c4 k4
  have A4 : FnAt K mg "_passes" s_p_passes ["value", "base"] := ⟨f4, _, F4, PySem.W.mg_of X G a4, F4.binds (ps := ["value", "base"]) fun _ _ _ _ _ _ us hl => match us, hl with | [_, _], _ => rfl⟩
  have F5 := fun_mk (st := s_root_pair) l5 c5 k5
  have A5 : FnAt K mg "root_pair" s_root_pair ["prime"] := ⟨f5, _, F5, PySem.W.mg_of X G a5, F5.binds (ps := ["prime"]) fun _ _ _ _ _ _ us hl => match us, hl with | [_], _ => rfl⟩
  have F6 := fun_mk (st := s_root_pairs) l6 c6 k6
  have A6 : FnAt K mg "root_pairs" s_root_pairs ["prime"] := ⟨f6, _, F6, PySem.W.mg_of X G a6, F6.binds (ps := ["prime"]) fun _ _ _ _ _ _ us hl => match us, hl with | [_], _ => rfl⟩
  have F7 := fun_mk (st := s_p_least_roots) l7 c7 k7
  have A7 : FnAt K mg "_least_roots" s_p_least_roots ["prime"] := ⟨f7, _, F7, PySem.W.mg_of X G a7, F7.binds (ps := ["prime"]) fun _ _ _ _ _ _ us hl => match us, hl with | [_], _ => rfl⟩
  have F8 := fun_mk (st := s_p_needed) l8 c8 k8
  have A8 : FnAt K mg "_needed" s_p_needed ["prime", "one"] := ⟨f8, _, F8, PySem.W.mg_of X G a8, F8.binds (ps := ["prime", "one"]) fun _ _ _ _ _ _ us hl => match us, hl with | [_, _], _ => rfl⟩
  have F9 := fun_mk (st := s_law_row) l9 c9 k9
  have A9 : FnAt K mg "_law_row" s_law_row ["cell", "many"] := ⟨f9, _, F9, PySem.W.mg_of X G a9, F9.binds (ps := ["cell", "many"]) fun _ _ _ _ _ _ us hl => match us, hl with | [_, _], _ => rfl⟩
  have F10 := fun_mk (st := s_law_numbers) l10 c10 k10
  have A10 : FnAt K mg "_law_numbers" s_law_numbers ["script", "many"] := ⟨f10, _, F10, PySem.W.mg_of X G a10, F10.binds (ps := ["script", "many"]) fun _ _ _ _ _ _ us hl => match us, hl with | [_, _], _ => rfl⟩
  have F11 := fun_mk (st := s_law_pick) l11 c11 k11
  have A11 : FnAt K mg "_law_pick" s_law_pick ["numbers", "at", "most"] := ⟨f11, _, F11, PySem.W.mg_of X G a11, F11.binds (ps := ["numbers", "at", "most"]) fun _ _ _ _ _ _ us hl => match us, hl with | [_, _, _], _ => rfl⟩
  have F12 := fun_mk (st := s_law_pairs) l12 c12 k12
  have A12 : FnAt K mg "_law_pairs" s_law_pairs ["prime"] := ⟨f12, _, F12, PySem.W.mg_of X G a12, F12.binds (ps := ["prime"]) fun _ _ _ _ _ _ us hl => match us, hl with | [_], _ => rfl⟩
  have F13 := fun_mk (st := s_law) l13 c13 k13
  have T : TT K mg C1 C2 := ⟨PySem.W.mg_none_of X G z0, PySem.W.mg_none_of X G z1, PySem.W.mg_none_of X G z2, PySem.W.mg_none_of X G z3, PySem.W.mg_none_of X G z4, PySem.W.mg_none_of X G z5, PySem.W.mg_none_of X G z6, PySem.W.mg_none_of X G z7, ⟨PySem.W.mg_of X G gC1, xC1, kC1, bC1, tC1⟩, ⟨PySem.W.mg_of X G gC2, xC2, kC2, bC2, tC2⟩, ⟨_, PySem.W.mg_of X G aK1, dp_k5 lK1⟩, ⟨_, PySem.W.mg_of X G aN1⟩, ⟨_, PySem.W.mg_of X G aN2⟩, A1, A2, A3, A4, A5, A6, A7, A8, A9, A10, A11, A12⟩
  exact ⟨PySem.W.fnOf "law" "law" (defArgs s_law) (defBody s_law) (defScope s_law) .none kV13 dc13 pm13 an13 cd13 ct13, fun s v => .of_eq rfl, fun base _ _ => ok_law T F13⟩
end KK
open PySem PySem.W PyProof.Rows
set_option maxRecDepth 100000 in
set_option maxHeartbeats 0 in
theorem PySem.Challenge.cw_turnprimes_k78_root_pairs_holds : PySem.Challenge.rw_turnprimes_k78_root_pairs.Holds := by
  w_on; o_law; k_head; (case hw => w_witness2)
  k_fill
  refine TB.law_walk (k := 8) (l := PySem.Challenge.rw_turnprimes_k78_root_pairs) rfl rfl ⟨rfl, by decide, by decide⟩ (fun w h Y => PySem.W.kIn_of Y) ?F
  case F =>
    intro w mg fa h KX G hmg
    refine' KK.all_mk KX G hmg ?a1 ?l1 ?c1 ?k1 ?a2 ?l2 ?c2 ?k2 ?a3 ?l3 ?c3 ?k3 ?a4 ?l4 ?c4 ?k4 ?a5 ?l5 ?c5 ?k5 ?a6 ?l6 ?c6 ?k6 ?a7 ?l7 ?c7 ?k7 ?a8 ?l8 ?c8 ?k8 ?a9 ?l9 ?c9 ?k9 ?a10 ?l10 ?c10 ?k10 ?a11 ?l11 ?c11 ?k11 ?a12 ?l12 ?c12 ?k12 ?a13 ?l13 ?c13 ?k13 ?gC1 ?xC1 ?kC1 ?bC1 ?tC1 ?gC2 ?xC2 ?kC2 ?bC2 ?tC2 ?aK1 ?lK1 ?aN1 ?aN2 ?z0 ?z1 ?z2 ?z3 ?z4 ?z5 ?z6 ?z7
    (case a1 => first | k_is | k_exc | rfl)
    (case l1 => first | k_is | k_exc | rfl)
    (case c1 => first | k_is | k_exc | rfl)
    (case k1 => first | k_is | k_exc | rfl)
    (case a2 => first | k_is | k_exc | rfl)
    (case l2 => first | k_is | k_exc | rfl)
    (case c2 => first | k_is | k_exc | rfl)
    (case k2 => first | k_is | k_exc | rfl)
    (case a3 => first | k_is | k_exc | rfl)
    (case l3 => first | k_is | k_exc | rfl)
    (case c3 => first | k_is | k_exc | rfl)
    (case k3 => first | k_is | k_exc | rfl)
    (case a4 => first | k_is | k_exc | rfl)
    (case l4 => first | k_is | k_exc | rfl)
    (case c4 => first | k_is | k_exc | rfl)
    (case k4 => first | k_is | k_exc | rfl)
    (case a5 => first | k_is | k_exc | rfl)
    (case l5 => first | k_is | k_exc | rfl)
    (case c5 => first | k_is | k_exc | rfl)
    (case k5 => first | k_is | k_exc | rfl)
    (case a6 => first | k_is | k_exc | rfl)
    (case l6 => first | k_is | k_exc | rfl)
    (case c6 => first | k_is | k_exc | rfl)
    (case k6 => first | k_is | k_exc | rfl)
    (case a7 => first | k_is | k_exc | rfl)
    (case l7 => first | k_is | k_exc | rfl)
    (case c7 => first | k_is | k_exc | rfl)
    (case k7 => first | k_is | k_exc | rfl)
    (case a8 => first | k_is | k_exc | rfl)
    (case l8 => first | k_is | k_exc | rfl)
    (case c8 => first | k_is | k_exc | rfl)
    (case k8 => first | k_is | k_exc | rfl)
    (case a9 => first | k_is | k_exc | rfl)
    (case l9 => first | k_is | k_exc | rfl)
    (case c9 => first | k_is | k_exc | rfl)
    (case k9 => first | k_is | k_exc | rfl)
    (case a10 => first | k_is | k_exc | rfl)
    (case l10 => first | k_is | k_exc | rfl)
    (case c10 => first | k_is | k_exc | rfl)
    (case k10 => first | k_is | k_exc | rfl)
    (case a11 => first | k_is | k_exc | rfl)
    (case l11 => first | k_is | k_exc | rfl)
    (case c11 => first | k_is | k_exc | rfl)
    (case k11 => first | k_is | k_exc | rfl)
    (case a12 => first | k_is | k_exc | rfl)
    (case l12 => first | k_is | k_exc | rfl)
    (case c12 => first | k_is | k_exc | rfl)
    (case k12 => first | k_is | k_exc | rfl)
    (case a13 => first | k_is | k_exc | rfl)
    (case l13 => first | k_is | k_exc | rfl)
    (case c13 => first | k_is | k_exc | rfl)
    (case k13 => first | k_is | k_exc | rfl)
    (case gC1 => first | k_is | k_exc | rfl)
    (case xC1 => first | k_is | k_exc | rfl)
    (case kC1 => first | k_is | k_exc | rfl)
    (case bC1 => first | k_is | k_exc | rfl)
    (case tC1 => first | k_is | k_exc | rfl)
    (case gC2 => first | k_is | k_exc | rfl)
    (case xC2 => first | k_is | k_exc | rfl)
    (case kC2 => first | k_is | k_exc | rfl)
    (case bC2 => first | k_is | k_exc | rfl)
    (case tC2 => first | k_is | k_exc | rfl)
    (case aK1 => first | k_is | k_exc | rfl)
    (case lK1 => first | k_is | k_exc | rfl)
    (case aN1 => first | k_is | k_exc | rfl)
    (case aN2 => first | k_is | k_exc | rfl)
    (case z0 => first | k_is | k_exc | rfl)
    (case z1 => first | k_is | k_exc | rfl)
    (case z2 => first | k_is | k_exc | rfl)
    (case z3 => first | k_is | k_exc | rfl)
    (case z4 => first | k_is | k_exc | rfl)
    (case z5 => first | k_is | k_exc | rfl)
    (case z6 => first | k_is | k_exc | rfl)
    (case z7 => first | k_is | k_exc | rfl)

