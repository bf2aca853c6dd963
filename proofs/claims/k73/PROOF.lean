import PyProof.Rows.All
import Wide.All
import OpenK.AllK
import Wide.FinOn
import HandS.ForMost
import HandS.ForExc
import HandS.Deep
import HandS.Wide
import HandS.TryMany
import HandS.ExcIs
import HandS.Style
import HandS.Flow
import HandS.Strs
import HandS.SetBool
import HandS.IsInst
import HandS.Zip
import HandS.TupSets
import KE.SortData
import KE.DataMinMax
import PyProof.Rows.RowBridgeK
import HandS.TupAny
import HandS.Gcd
import KE.GoesZip
import KE.GoesMore
import HandS.Iter
import HandS.SortKw
import KE.KMathG
import HandS.Star
import HandS.Conv
import KE.GoesEnum
import KE.KDictZip
import KE.KItemsList
import KE.KStar
import HandS.WideMore
import HandS.DictComp
import HandS.Dict
import HandS.More
import HandS.SetFor
import KE.KMinBuiltin
import PySem.Challenge.RW_turnprimes_k73_numbers_of_words
set_option Elab.async false
set_option linter.all false
set_option maxRecDepth 100000
set_option maxHeartbeats 4000000
namespace TB
open PySem L2

abbrev D := PyData
/-- a tree of one's own: data, lists, dicts whose keys are ints and texts, dicts whose keys are tuples of them, what is frozen -/
inductive Own where
  | dat (d : D)
  | lst (os : List Own)
  | dk (kvs : List (Key × Own))
  | dt (kvs : List (List Key × Own))
  | fz (o : Own)
  | tk (φ : Addr → List (Addr × List Int) → Heap → Prop) (ks : List (List Int))
/-- what is known of a slot: nothing; data; a list of this def's own; just this value; a tree of this def's own -/
inductive S where
  | u
  | d (x : D)
  | own (ds : List D)
  | r (v : V)
  | q (o : Own)
/-- what comes of an expression: data; a new list that nobody else holds; an error of the class at c; a new tree; an error of the class at c with the field f -/
inductive Out where
  | v (x : D)
  | o (ds : List D)
  | x (c : Addr)
  | q (o : Own)
  | xf (c : Addr) (f : Str) (x : D)

def Ex (F H : Hp) : Prop := ∀ a o, F a = some o → H a = some o
theorem Ex.refl (H : Hp) : Ex H H := fun _ _ h => h
theorem Ex.trans {A B C : Hp} (a : Ex A B) (b : Ex B C) : Ex A C := fun p o h => b p o (a p o h)
theorem Ex.new {H : Hp} {p : Addr} {o : HO} (h : H p = none) : Ex H (upd H p o) := fun a u e => by
  rw [upd_ne (ne_of_none e h)]
  exact e
theorem Ex.none {F H : Hp} (e : Ex F H) {p : Addr} (h : H p = Option.none) : F p = Option.none := by
  cases q : F p with
  | none => rfl
  | some o =>
    rw [e p o q] at h
    cases h
/-- F: what is frozen, H: all that is tracked -/
structure Fz (F H F' H' : Hp) : Prop where
  f : Ex F F'
  h : Ex H H'
  s : Ex F' H'
  n : ∀ p o, F p = none → H p = some o → F' p = none
theorem Fz.refl {F H : Hp} (s : Ex F H) : Fz F H F H := ⟨Ex.refl _, Ex.refl _, s, fun _ _ h _ => h⟩
theorem Fz.trans {F H F1 H1 F2 H2 : Hp} (a : Fz F H F1 H1) (b : Fz F1 H1 F2 H2) : Fz F H F2 H2 :=
  ⟨a.f.trans b.f, a.h.trans b.h, b.s, fun p o h1 h2 => b.n p o (a.n p o h1 h2) (a.h p o h2)⟩
/-- a new frozen object -/
theorem Fz.new {F H : Hp} {p : Addr} {o : HO} (s : Ex F H) (hp : H p = none) : Fz F H (upd F p o) (upd H p o) := by
  refine ⟨Ex.new (s.none hp), Ex.new hp, fun a u e => ?_, fun q u h1 h2 => ?_⟩
  · by_cases h : a = p
    · subst h
      rw [upd_same] at e ⊢
      exact e
    · rw [upd_ne h] at e ⊢
      exact s a u e
  · have h : q ≠ p := ne_of_none h2 hp
    rw [upd_ne h]
    exact h1
/-- a new object of one's own -/
theorem Fz.fresh {F H : Hp} {p : Addr} {o : HO} (s : Ex F H) (hp : H p = none) : Fz F H F (upd H p o) :=
  ⟨Ex.refl _, Ex.new hp, s.trans (Ex.new hp), fun _ _ h _ => h⟩
/-- an object of one's own is frozen -/
theorem Fz.freeze {F H : Hp} {p : Addr} {o : HO} (s : Ex F H) (hp : H p = some o) (hf : F p = none) : Ex F (upd F p o) ∧ Ex (upd F p o) H := by
  refine ⟨Ex.new hf, fun a u e => ?_⟩
  by_cases h : a = p
  · subst h
    rw [upd_same] at e
    cases e
    exact hp
  · rw [upd_ne h] at e
    exact s a u e

theorem rd_ex {F H : Hp} {a : Addr} {u : HO} (e : Ex F H) (h : Rd F a u) : Rd H a u := by
  rcases h with h | ⟨o, h⟩
  · exact Or.inl (e a _ h)
  · exact Or.inr ⟨o, e a _ h⟩
theorem sl_ex {K : PySem.W.Frag} {F H : Hp} {a : Addr} {xs : List V} (e : Ex F H) (h : SqL K F a xs) : SqL K H a xs := by
  rcases h with h | h
  · exact Or.inl (rd_ex e h)
  · exact Or.inr h
theorem st_ex {K : PySem.W.Frag} {F H : Hp} {a : Addr} {xs : List V} (e : Ex F H) (h : SqT K F a xs) : SqT K H a xs := by
  rcases h with h | h
  · exact Or.inl (rd_ex e h)
  · exact Or.inr h
section
variable {K : PySem.W.Frag} {F H : Hp}
mutual
theorem dp_ex (e : Ex F H) : ∀ (d : D) (v : V), Dp K F v d → Dp K H v d
  | .none, _, h => by
    cases h
    exact .non
  | .bool b, _, h => by
    cases h
    exact .bl b
  | .int i, _, h => by
    cases h
    exact .int i
  | .str x, _, h => by
    cases h
    exact .str x
  | .list ds, _, h => by
    cases h with
    | lst hs ha => exact .lst (sl_ex e hs) (da_ex e ds _ ha)
  | .tuple ds, _, h => by
    cases h with
    | tup hs ha => exact .tup (st_ex e hs) (da_ex e ds _ ha)
  | .dict _, _, h => by cases h
theorem da_ex (e : Ex F H) : ∀ (ds : List D) (vs : List V), DpAll K F vs ds → DpAll K H vs ds
  | [], _, h => by
    cases h
    exact .nil
  | d :: ds, _, h => by
    cases h with
    | cons h1 h2 => exact .cons (dp_ex e d _ h1) (da_ex e ds _ h2)
end
end
section
variable {K : PySem.W.Frag} {F H : Hp}
theorem da_len : ∀ {vs : List V} {ds : List D}, DpAll K F vs ds → vs.length = ds.length
  | _, [], h => by cases h; rfl
  | _, d :: ds, h => by
    cases h with
    | cons _ h2 => rw [List.length_cons, List.length_cons, da_len h2]
theorem da_app : ∀ {vs us : List V} {ds es : List D}, DpAll K F vs ds → DpAll K F us es → DpAll K F (vs ++ us) (ds ++ es)
  | _, _, [], _, h, g => by cases h; exact g
  | _, _, d :: ds, _, h, g => by
    cases h with
    | cons h1 h2 => exact .cons h1 (da_app h2 g)
theorem da_get : ∀ {vs : List V} {ds : List D} {i : Nat} {d : D}, DpAll K F vs ds → ds[i]? = some d → ∃ v, vs[i]? = some v ∧ Dp K F v d
  | _, [], i, d, h, e => by simp at e
  | _, x :: ds, 0, d, h, e => by
    cases h with
    | cons h1 _ =>
      simp at e
      subst e
      exact ⟨_, rfl, h1⟩
  | _, x :: ds, i + 1, d, h, e => by
    cases h with
    | cons _ h2 =>
      obtain ⟨v, a, b⟩ := da_get (i := i) h2 (by simpa using e)
      exact ⟨v, by simpa using a, b⟩
theorem da_get' : ∀ {vs : List V} {ds : List D} {i : Nat} {v : V}, DpAll K F vs ds → vs[i]? = some v → ∃ d, ds[i]? = some d ∧ Dp K F v d
  | _, [], i, v, h, e => by cases h; simp at e
  | _, x :: ds, 0, v, h, e => by
    cases h with
    | cons h1 _ =>
      simp at e
      subst e
      exact ⟨_, rfl, h1⟩
  | _, x :: ds, i + 1, v, h, e => by
    cases h with
    | cons _ h2 =>
      obtain ⟨v, a, b⟩ := da_get' (i := i) h2 (by simpa using e)
      exact ⟨v, by simpa using a, b⟩
theorem da_ints : ∀ {ns : List Int} {vs : List V}, DpAll K F vs (ns.map PyData.int) → vs = ns.map V.int
  | [], _, h => by cases h; rfl
  | n :: ns, _, h => by
    cases h with
    | cons h1 h2 =>
      cases h1
      rw [da_ints h2]
      rfl
theorem da_of_ints : ∀ (ns : List Int), DpAll K F (ns.map V.int) (ns.map PyData.int)
  | [] => .nil
  | n :: ns => .cons (.int n) (da_of_ints ns)
theorem da_take : ∀ {vs : List V} {ds : List D} (n : Nat), DpAll K F vs ds → DpAll K F (vs.take n) (ds.take n)
  | _, _, 0, _ => by simp; exact .nil
  | _, [], n + 1, h => by cases h; exact .nil
  | _, d :: ds, n + 1, h => by
    cases h with
    | cons h1 h2 => exact .cons h1 (da_take n h2)
theorem da_drop : ∀ {vs : List V} {ds : List D} (n : Nat), DpAll K F vs ds → DpAll K F (vs.drop n) (ds.drop n)
  | _, _, 0, h => by simpa using h
  | _, [], n + 1, h => by cases h; exact .nil
  | _, d :: ds, n + 1, h => by
    cases h with
    | cons h1 h2 => exact da_drop n h2
end

/-! ### trees of one's own -/
mutual
inductive OA (K : PySem.W.Frag) (F : Hp) : Hp → Own → V → List Addr → Prop
  | dat {H : Hp} {d : D} {v : V} : Dp K F v d → OA K F H (.dat d) v []
  | lst {H : Hp} {p : Addr} {xs : List V} {os : List Own} {fp : List Addr} : H p = some (.lst xs) → OL K F H os xs fp → OA K F H (.lst os) (.ref p) (p :: fp)
  | dk {H : Hp} {p : Addr} {kvs : List (Key × V)} {os : List (Key × Own)} {fp : List Addr} : H p = some (.dK kvs) → kvs.map (·.1) = os.map (·.1) → OL K F H (os.map (·.2)) (kvs.map (·.2)) fp → OA K F H (.dk os) (.ref p) (p :: fp)
  | dt {H : Hp} {p : Addr} {kvs : List (List Key × V)} {os : List (List Key × Own)} {fp : List Addr} : H p = some (.dT kvs) → kvs.map (·.1) = os.map (·.1) → OL K F H (os.map (·.2)) (kvs.map (·.2)) fp → OA K F H (.dt os) (.ref p) (p :: fp)
  | fz {H : Hp} {o : Own} {v : V} {fp : List Addr} : OA K F F o v fp → OA K F H (.fz o) v []
  | tk {H : Hp} {p : Addr} {φ : Addr → List (Addr × List Int) → Heap → Prop} {L : List (Addr × List Int)} {ks : List (List Int)} : H p = some (.ext (φ p L)) → (∀ q ∈ L, L2.SqT K F q.1 (q.2.map V.int)) → L.map (·.2) = ks → OA K F H (.tk φ ks) (.ref p) [p]
inductive OL (K : PySem.W.Frag) (F : Hp) : Hp → List Own → List V → List Addr → Prop
  | nil {H : Hp} : OL K F H [] [] []
  | cons {H : Hp} {o : Own} {v : V} {os : List Own} {vs : List V} {f1 f2 : List Addr} : OA K F H o v f1 → OL K F H os vs f2 → OL K F H (o :: os) (v :: vs) (f1 ++ f2)
end
section
variable {K : PySem.W.Frag} {F : Hp}
mutual
theorem oa_some : ∀ {H : Hp} {o : Own} {v : V} {fp : List Addr}, OA K F H o v fp → ∀ a ∈ fp, ∃ u, H a = some u
  | _, _, _, _, .dat _, a, h => by cases h
  | _, _, _, _, .lst e l, a, h => by
    rcases List.mem_cons.mp h with h | h
    · subst h; exact ⟨_, e⟩
    · exact ol_some l a h
  | _, _, _, _, .dk e _ l, a, h => by
    rcases List.mem_cons.mp h with h | h
    · subst h; exact ⟨_, e⟩
    · exact ol_some l a h
  | _, _, _, _, .dt e _ l, a, h => by
    rcases List.mem_cons.mp h with h | h
    · subst h; exact ⟨_, e⟩
    · exact ol_some l a h
  | _, _, _, _, .fz _, a, h => by cases h
  | _, _, _, _, .tk e _ _, a, h => by
    rw [List.mem_singleton] at h
    subst h
    exact ⟨_, e⟩
theorem ol_some : ∀ {H : Hp} {os : List Own} {vs : List V} {fp : List Addr}, OL K F H os vs fp → ∀ a ∈ fp, ∃ u, H a = some u
  | _, _, _, _, .nil, a, h => by cases h
  | _, _, _, _, .cons x l, a, h => by
    rcases List.mem_append.mp h with h | h
    · exact oa_some x a h
    · exact ol_some l a h
end
mutual
theorem oa_mono {F' : Hp} (ex : Ex F F') : ∀ {H H' : Hp} {o : Own} {v : V} {fp : List Addr}, OA K F H o v fp → (∀ a ∈ fp, H' a = H a) → OA K F' H' o v fp
  | _, _, _, _, _, .dat d, _ => .dat (dp_ex ex _ _ d)
  | _, _, _, _, _, .lst e l, h => .lst ((h _ List.mem_cons_self).trans e) (ol_mono ex l fun a ha => h a (List.mem_cons_of_mem _ ha))
  | _, _, _, _, _, .dk e k l, h => .dk ((h _ List.mem_cons_self).trans e) k (ol_mono ex l fun a ha => h a (List.mem_cons_of_mem _ ha))
  | _, _, _, _, _, .dt e k l, h => .dt ((h _ List.mem_cons_self).trans e) k (ol_mono ex l fun a ha => h a (List.mem_cons_of_mem _ ha))
  | _, _, _, _, _, .fz x, _ => .fz (oa_mono ex x fun a ha => by
    obtain ⟨u, e⟩ := oa_some x a ha
    rw [e]
    exact ex _ _ e)
  | _, _, _, _, _, .tk e k l, h => .tk ((h _ (List.mem_singleton.mpr rfl)).trans e) (fun q hq => st_ex ex (k q hq)) l
theorem ol_mono {F' : Hp} (ex : Ex F F') : ∀ {H H' : Hp} {os : List Own} {vs : List V} {fp : List Addr}, OL K F H os vs fp → (∀ a ∈ fp, H' a = H a) → OL K F' H' os vs fp
  | _, _, _, _, _, .nil, _ => .nil
  | _, _, _, _, _, .cons x l, h => .cons (oa_mono ex x fun a ha => h a (List.mem_append_left _ ha)) (ol_mono ex l fun a ha => h a (List.mem_append_right _ ha))
end
theorem ol_dat {H : Hp} : ∀ {ds : List D} {vs : List V}, DpAll K F vs ds → OL K F H (ds.map .dat) vs []
  | [], _, h => by cases h; exact .nil
  | d :: ds, _, h => by
    cases h with
    | cons a b =>
      have := OL.cons (H := H) (.dat a) (ol_dat b)
      simpa using this
theorem dat_ol {H : Hp} : ∀ {ds : List D} {vs : List V} {fp : List Addr}, OL K F H (ds.map .dat) vs fp → DpAll K F vs ds ∧ fp = []
  | [], _, _, h => by
    cases h
    exact ⟨.nil, rfl⟩
  | d :: ds, _, _, h => by
    cases h with
    | cons a b =>
      cases a with
      | dat a =>
        obtain ⟨c, e⟩ := dat_ol b
        subst e
        exact ⟨.cons a c, rfl⟩
end

/-- a slot, what it owns -/
def SlOk (K : PySem.W.Frag) (H0 F H : Hp) : Option (Option V) → S → List Addr → Prop
  | _, .u, fp => fp = []
  | some (some v), .d x, fp => Dp K F v x ∧ fp = []
  | some (some v), .own ds, fp => ∃ p xs, v = .ref p ∧ H p = some (.lst xs) ∧ F p = none ∧ H0 p = none ∧ DpAll K F xs ds ∧ fp = [p]
  | o, .r v, fp => o = some (some v) ∧ fp = []
  | some (some v), .q o, fp => OA K F H o v fp ∧ fp.Nodup ∧ ∀ a ∈ fp, F a = none ∧ H0 a = none
  | _, _, _ => False
/-- the state of a def that began at F0, H0; what each slot owns -/
structure OkF (K : PySem.W.Frag) (F0 H0 F : Hp) (σ : L2.St) (H : Hp) (Γ : List S) (fps : List (List Addr)) : Prop where
  base : Fz F0 H0 F H
  len : σ.length = Γ.length
  fl : fps.length = Γ.length
  sl : ∀ (i : Nat) (s : S) (fp : List Addr), Γ[i]? = some s → fps[i]? = some fp → SlOk K H0 F H σ[i]? s fp
  dj : ∀ (i j : Nat) (f g : List Addr) (a : Addr), fps[i]? = some f → fps[j]? = some g → a ∈ f → a ∈ g → i = j
def Ok (K : PySem.W.Frag) (F0 H0 F : Hp) (σ : L2.St) (H : Hp) (Γ : List S) : Prop := ∃ fps, OkF K F0 H0 F σ H Γ fps

section
variable {K : PySem.W.Frag} {F0 H0 F F' H H' : Hp} {σ : L2.St} {Γ Γ' : List S} {fps : List (List Addr)}
theorem SlOk.mono {o : Option (Option V)} {s : S} {fp : List Addr} (h : SlOk K H0 F H o s fp) (z : Fz F H F' H') : SlOk K H0 F' H' o s fp := by
  cases s with
  | u => exact h
  | d x =>
    cases o with
    | none => exact h
    | some o =>
      cases o with
      | none => exact h
      | some v => exact ⟨dp_ex z.f x v h.1, h.2⟩
  | own ds =>
    cases o with
    | none => exact h
    | some o =>
      cases o with
      | none => exact h
      | some v =>
        obtain ⟨p, xs, e, h1, h2, h3, h4, h5⟩ := h
        exact ⟨p, xs, e, z.h p _ h1, z.n p _ h2 h1, h3, da_ex z.f _ _ h4, h5⟩
  | r v =>
    cases o with
    | none => exact h
    | some o => cases o <;> exact h
  | q t =>
    cases o with
    | none => exact h
    | some o =>
      cases o with
      | none => exact h
      | some v =>
        obtain ⟨h1, h2, h3⟩ := h
        refine ⟨oa_mono z.f h1 fun a ha => ?_, h2, fun a ha => ⟨?_, (h3 a ha).2⟩⟩
        · obtain ⟨u, e⟩ := oa_some h1 a ha
          rw [e]
          exact z.h _ _ e
        · obtain ⟨u, e⟩ := oa_some h1 a ha
          exact z.n a u (h3 a ha).1 e
/-- what a slot owns is tracked, not frozen, new -/
theorem SlOk.of {o : Option (Option V)} {s : S} {fp : List Addr} (h : SlOk K H0 F H o s fp) {a : Addr} (ha : a ∈ fp) : (∃ u, H a = some u) ∧ F a = none ∧ H0 a = none := by
  cases s with
  | u =>
    have h' : fp = [] := by cases o with | none => exact h | some o => cases o <;> exact h
    subst h'
    cases ha
  | d x =>
    cases o with
    | none => exact h.elim
    | some o =>
      cases o with
      | none => exact h.elim
      | some v =>
        have := h.2
        subst this
        cases ha
  | own ds =>
    cases o with
    | none => exact h.elim
    | some o =>
      cases o with
      | none => exact h.elim
      | some v =>
        obtain ⟨p, xs, e, h1, h2, h3, h4, h5⟩ := h
        subst h5
        rw [List.mem_singleton] at ha
        subst ha
        exact ⟨⟨_, h1⟩, h2, h3⟩
  | r v =>
    have : fp = [] := by
      cases o with
      | none => exact h.2
      | some o => cases o <;> exact h.2
    subst this
    cases ha
  | q t =>
    cases o with
    | none => exact h.elim
    | some o =>
      cases o with
      | none => exact h.elim
      | some v =>
        obtain ⟨h1, h2, h3⟩ := h
        exact ⟨oa_some h1 a ha, h3 a ha⟩
theorem Ok.base (h : Ok K F0 H0 F σ H Γ) : Fz F0 H0 F H := h.elim fun _ h => h.base
theorem Ok.len (h : Ok K F0 H0 F σ H Γ) : σ.length = Γ.length := h.elim fun _ h => h.len
theorem OkF.mono (h : OkF K F0 H0 F σ H Γ fps) (z : Fz F H F' H') : OkF K F0 H0 F' σ H' Γ fps :=
  ⟨h.base.trans z, h.len, h.fl, fun i s fp e1 e2 => (h.sl i s fp e1 e2).mono z, h.dj⟩
theorem Ok.mono (h : Ok K F0 H0 F σ H Γ) (z : Fz F H F' H') : Ok K F0 H0 F' σ H' Γ := h.elim fun fps h => ⟨fps, h.mono z⟩
theorem Ok.fh (h : Ok K F0 H0 F σ H Γ) : Ex F H := h.base.s
theorem OkF.fp (h : OkF K F0 H0 F σ H Γ fps) {i : Nat} {s : S} (e : Γ[i]? = some s) : ∃ fp, fps[i]? = some fp := by
  have hi := (List.getElem?_eq_some_iff.mp e).1
  exact ⟨_, List.getElem?_eq_getElem (by rw [h.fl]; exact hi)⟩
/-- slots forgotten -/
inductive Le : List S → List S → Prop
  | nil : Le [] []
  | keep {s : S} {a b : List S} : Le a b → Le (s :: a) (s :: b)
  | drop {s : S} {a b : List S} : Le a b → Le (s :: a) (.u :: b)
theorem Le.refl : ∀ (a : List S), Le a a
  | [] => .nil
  | _ :: a => .keep (Le.refl a)
theorem Le.len : ∀ {a b : List S}, Le a b → a.length = b.length
  | _, _, .nil => rfl
  | _, _, .keep h => by rw [List.length_cons, List.length_cons, h.len]
  | _, _, .drop h => by rw [List.length_cons, List.length_cons, h.len]
theorem Le.get : ∀ {a b : List S} {i : Nat} {s : S}, Le a b → b[i]? = some s → s = .u ∨ a[i]? = some s
  | _, _, i, s, .nil, e => by simp at e
  | _, _, 0, s, .keep h, e => by
    simp at e
    subst e
    exact .inr rfl
  | _, _, i + 1, s, .keep h, e => by
    have q := h.get (i := i) (by simpa using e)
    simpa using q
  | _, _, 0, s, .drop h, e => by
    simp at e
    subst e
    exact .inl rfl
  | _, _, i + 1, s, .drop h, e => by
    have q := h.get (i := i) (by simpa using e)
    simpa using q
/-- what is owned where slots are forgotten -/
def leFp : List S → List (List Addr) → List (List Addr)
  | .u :: b, _ :: f => [] :: leFp b f
  | _ :: b, x :: f => x :: leFp b f
  | _, _ => []
theorem leFp_len : ∀ {b : List S} {f : List (List Addr)}, f.length = b.length → (leFp b f).length = b.length
  | [], [], _ => rfl
  | [], _ :: _, h => by simp at h
  | _ :: _, [], h => by simp at h
  | .u :: b, _ :: f, h => by simp only [leFp, List.length_cons]; rw [leFp_len (by simpa using h)]
  | .d _ :: b, _ :: f, h => by simp only [leFp, List.length_cons]; rw [leFp_len (by simpa using h)]
  | .own _ :: b, _ :: f, h => by simp only [leFp, List.length_cons]; rw [leFp_len (by simpa using h)]
  | .r _ :: b, _ :: f, h => by simp only [leFp, List.length_cons]; rw [leFp_len (by simpa using h)]
  | .q _ :: b, _ :: f, h => by simp only [leFp, List.length_cons]; rw [leFp_len (by simpa using h)]
theorem leFp_get : ∀ {b : List S} {f : List (List Addr)} {i : Nat} {g : List Addr}, (leFp b f)[i]? = some g → (b[i]? = some .u ∧ g = []) ∨ (f[i]? = some g ∧ b[i]? ≠ some .u)
  | [], _, i, g, h => by simp [leFp] at h
  | s :: b, [], i, g, h => by cases s <;> simp [leFp] at h
  | s :: b, x :: f, 0, g, h => by
    cases s with
    | u => left; simpa [leFp, eq_comm] using h
    | d _ => right; simpa [leFp] using h
    | own _ => right; simpa [leFp] using h
    | r _ => right; simpa [leFp] using h
    | q _ => right; simpa [leFp] using h
  | s :: b, x :: f, i + 1, g, h => by
    have h' : (leFp b f)[i]? = some g := by cases s <;> simpa [leFp] using h
    simpa using leFp_get h'
theorem Ok.le (h : Ok K F0 H0 F σ H Γ) (l : Le Γ Γ') : Ok K F0 H0 F σ H Γ' := by
  obtain ⟨fps, h⟩ := h
  refine ⟨leFp Γ' fps, h.base, h.len.trans l.len, leFp_len (h.fl.trans l.len), fun i s fp e1 e2 => ?_, fun i j f g a e1 e2 m1 m2 => ?_⟩
  · rcases leFp_get e2 with ⟨q1, q2⟩ | ⟨q1, q2⟩
    · rw [q1] at e1
      cases e1
      subst q2
      cases σ[i]? with
      | none => rfl
      | some o => cases o <;> rfl
    · rcases l.get e1 with q | q
      · subst q
        exact absurd e1 q2
      · exact h.sl i s fp q q1
  · rcases leFp_get e1 with ⟨_, q⟩ | ⟨q1, _⟩
    · subst q; cases m1
    rcases leFp_get e2 with ⟨_, q⟩ | ⟨q2, _⟩
    · subst q; cases m2
    exact h.dj i j f g a q1 q2 m1 m2
/-- a slot's data -/
theorem Ok.at (h : Ok K F0 H0 F σ H Γ) {i : Nat} {x : D} (e : Γ[i]? = some (.d x)) : ∃ v, σ[i]? = some (some v) ∧ Dp K F v x := by
  obtain ⟨fps, h⟩ := h
  obtain ⟨fp, hf⟩ := h.fp e
  have q := h.sl i _ _ e hf
  cases o : σ[i]? with
  | none => rw [o] at q; exact q.elim
  | some o' =>
    cases o' with
    | none => rw [o] at q; exact q.elim
    | some v => rw [o] at q; exact ⟨v, rfl, q.1⟩
theorem Ok.own (h : Ok K F0 H0 F σ H Γ) {i : Nat} {ds : List D} (e : Γ[i]? = some (.own ds)) : ∃ p xs, σ[i]? = some (some (.ref p)) ∧ H p = some (.lst xs) ∧ F p = none ∧ H0 p = none ∧ DpAll K F xs ds := by
  obtain ⟨fps, h⟩ := h
  obtain ⟨fp, hf⟩ := h.fp e
  have q := h.sl i _ _ e hf
  cases o : σ[i]? with
  | none => rw [o] at q; exact q.elim
  | some o' =>
    cases o' with
    | none => rw [o] at q; exact q.elim
    | some v =>
      rw [o] at q
      obtain ⟨p, xs, e1, e2, e3, e4, e5, _⟩ := q
      subst e1
      exact ⟨p, xs, rfl, e2, e3, e4, e5⟩
/-- a slot's tree -/
theorem Ok.tree (h : Ok K F0 H0 F σ H Γ) {i : Nat} {t : Own} (e : Γ[i]? = some (.q t)) : ∃ v fp, σ[i]? = some (some v) ∧ OA K F H t v fp ∧ fp.Nodup ∧ ∀ a ∈ fp, F a = none ∧ H0 a = none := by
  obtain ⟨fps, h⟩ := h
  obtain ⟨fp, hf⟩ := h.fp e
  have q := h.sl i _ _ e hf
  cases o : σ[i]? with
  | none => rw [o] at q; exact q.elim
  | some o' =>
    cases o' with
    | none => rw [o] at q; exact q.elim
    | some v =>
      rw [o] at q
      exact ⟨v, fp, rfl, q⟩
/-- a slot gets something else, which owns nothing that another slot owns -/
theorem OkF.put (h : OkF K F0 H0 F σ H Γ fps) (i : Nat) {o : Option V} {s : S} {fp : List Addr} (hs : SlOk K H0 F H (some o) s fp) (hd : ∀ (j : Nat) (g : List Addr) (a : Addr), fps[j]? = some g → a ∈ fp → a ∈ g → i = j) :
    OkF K F0 H0 F (σ.set i o) H (Γ.set i s) (fps.set i fp) := by
  refine ⟨h.base, by rw [List.length_set, List.length_set]; exact h.len, by rw [List.length_set, List.length_set]; exact h.fl, fun j s' fp' e1 e2 => ?_, fun j k f g a e1 e2 m1 m2 => ?_⟩
  · by_cases q : i = j
    · subst q
      have hl : i < Γ.length := by
        have := (List.getElem?_eq_some_iff.mp e1).1
        rw [List.length_set] at this
        exact this
      rw [List.getElem?_set_self hl] at e1
      rw [List.getElem?_set_self (by rw [h.fl]; exact hl)] at e2
      cases e1
      cases e2
      rw [List.getElem?_set_self (by rw [h.len]; exact hl)]
      exact hs
    · rw [List.getElem?_set_ne q] at e1 e2 ⊢
      exact h.sl j _ _ e1 e2
  · have key : ∀ {m : Nat} {f : List Addr}, (fps.set i fp)[m]? = some f → (i = m ∧ f = fp) ∨ (i ≠ m ∧ fps[m]? = some f) := fun {m f} e => by
      by_cases q : i = m
      · subst q
        have hl := (List.getElem?_eq_some_iff.mp e).1
        rw [List.length_set] at hl
        rw [List.getElem?_set_self hl] at e
        cases e
        exact .inl ⟨rfl, rfl⟩
      · rw [List.getElem?_set_ne q] at e
        exact .inr ⟨q, e⟩
    rcases key e1 with ⟨q1, q2⟩ | ⟨q1, q2⟩
    · rcases key e2 with ⟨r1, r2⟩ | ⟨r1, r2⟩
      · omega
      · subst q2
        have := hd k g a r2 m1 m2
        omega
    · rcases key e2 with ⟨r1, r2⟩ | ⟨r1, r2⟩
      · subst r2
        have := hd j f a q2 m2 m1
        omega
      · exact h.dj j k f g a q2 r2 m1 m2
/-- .. which owns nothing -/
theorem Ok.put0 (h : Ok K F0 H0 F σ H Γ) (i : Nat) {o : Option V} {s : S} (hs : SlOk K H0 F H (some o) s []) : Ok K F0 H0 F (σ.set i o) H (Γ.set i s) := by
  obtain ⟨fps, h⟩ := h
  exact ⟨_, h.put i hs fun j g a _ m _ => by cases m⟩
theorem Ok.set (h : Ok K F0 H0 F σ H Γ) (i : Nat) {v : V} {x : D} (d : Dp K F v x) : Ok K F0 H0 F (σ.set i (some v)) H (Γ.set i (.d x)) := h.put0 i ⟨d, rfl⟩
theorem Ok.forget (h : Ok K F0 H0 F σ H Γ) (i : Nat) (o : Option V) : Ok K F0 H0 F (σ.set i o) H (Γ.set i .u) := h.put0 i (by cases o <;> rfl)
/-- .. which owns only what is new -/
theorem Ok.putN (h : Ok K F0 H0 F σ H Γ) (z : Fz F H F' H') (i : Nat) {o : Option V} {s : S} {fp : List Addr} (hs : SlOk K H0 F' H' (some o) s fp) (hn : ∀ a ∈ fp, H a = none) : Ok K F0 H0 F' (σ.set i o) H' (Γ.set i s) := by
  obtain ⟨fps, h⟩ := h
  refine ⟨_, (h.mono z).put i hs fun j g a e m1 m2 => ?_⟩
  have hj : j < Γ.length := by
    have := (List.getElem?_eq_some_iff.mp e).1
    rw [h.fl] at this
    exact this
  obtain ⟨⟨u, hu⟩, _⟩ := (h.sl j _ _ (List.getElem?_eq_getElem hj) e).of m2
  rw [hn a m1] at hu
  cases hu
theorem Ok.setNew (h : Ok K F0 H0 F σ H Γ) (z : Fz F H F' H') (i : Nat) {p : Addr} {xs : List V} {ds : List D} (n1 : H p = none) (n2 : H' p = some (.lst xs)) (n3 : F' p = none) (d : DpAll K F' xs ds) : Ok K F0 H0 F' (σ.set i (some (.ref p))) H' (Γ.set i (.own ds)) :=
  h.putN z i ⟨p, xs, rfl, n2, n3, h.base.h.none n1, d, rfl⟩ fun a ha => by
    rw [List.mem_singleton] at ha
    subst ha
    exact n1
theorem Ok.setTree (h : Ok K F0 H0 F σ H Γ) (z : Fz F H F' H') (i : Nat) {v : V} {t : Own} {fp : List Addr} (o : OA K F' H' t v fp) (nd : fp.Nodup) (n : ∀ a ∈ fp, H a = none ∧ F' a = none) : Ok K F0 H0 F' (σ.set i (some v)) H' (Γ.set i (.q t)) :=
  h.putN z i ⟨o, nd, fun a ha => ⟨(n a ha).2, h.base.h.none (n a ha).1⟩⟩ fun a ha => (n a ha).1
/-- what slot i owns changes, by new objects perhaps -/
theorem Ok.rewrite (h : Ok K F0 H0 F σ H Γ) {i : Nat} {s s' : S} {o : Option V} {fps : List (List Addr)} {fp fp' : List Addr} (hF : OkF K F0 H0 F σ H Γ fps) (e : Γ[i]? = some s) (ef : fps[i]? = some fp) (ex : Ex F F') (hk : ∀ a u, a ∉ fp → H a = some u → H' a = some u) (hn : ∀ a u, a ∉ fp → F a = none → H a = some u → a ∉ fp' → F' a = none) (hs' : Ex F' H')
    (hs : SlOk K H0 F' H' (some o) s' fp') (hfp : ∀ a ∈ fp', a ∈ fp ∨ H a = none) : Ok K F0 H0 F' (σ.set i o) H' (Γ.set i s') := by
  have hi : i < Γ.length := (List.getElem?_eq_some_iff.mp e).1
  have own := (hF.sl i s fp e ef)
  have out : ∀ (j : Nat) (g : List Addr) (a : Addr), fps[j]? = some g → a ∈ g → i ≠ j → a ∉ fp ∧ a ∉ fp' ∧ (∃ u, H a = some u) ∧ F a = none := fun j g a e2 m hj => by
    have hjl : j < Γ.length := by
      have := (List.getElem?_eq_some_iff.mp e2).1
      rw [hF.fl] at this
      exact this
    obtain ⟨⟨u, hu⟩, hf, _⟩ := (hF.sl j _ _ (List.getElem?_eq_getElem hjl) e2).of m
    have h1 : a ∉ fp := fun q => hj (hF.dj i j _ _ a ef e2 q m)
    refine ⟨h1, fun q => ?_, ⟨u, hu⟩, hf⟩
    rcases hfp a q with q | q
    · exact h1 q
    · rw [hu] at q; cases q
  refine ⟨fps.set i fp', ⟨hF.base.f.trans ex, fun a u q => ?_, hs', fun a u q1 q2 => ?_⟩, by rw [List.length_set, List.length_set]; exact hF.len, by rw [List.length_set, List.length_set]; exact hF.fl, fun j s2 f2 e1 e2 => ?_, fun j k f g a e1 e2 m1 m2 => ?_⟩
  · refine hk a u (fun m => ?_) (hF.base.h a u q)
    have := (own.of m).2.2
    rw [q] at this
    cases this
  · have q3 := hF.base.n a u q1 q2
    refine hn a u (fun m => ?_) q3 (hF.base.h a u q2) fun m => ?_
    · have := (own.of m).2.2
      rw [q2] at this
      cases this
    · have := (hs.of m).2.2
      rw [q2] at this
      cases this
  · by_cases q : i = j
    · subst q
      rw [List.getElem?_set_self hi] at e1
      rw [List.getElem?_set_self (by rw [hF.fl]; exact hi)] at e2
      cases e1
      cases e2
      rw [List.getElem?_set_self (by rw [hF.len]; exact hi)]
      exact hs
    · rw [List.getElem?_set_ne q] at e1 e2 ⊢
      have old := hF.sl j s2 f2 e1 e2
      have o2 := fun a m => out j f2 a e2 m q
      cases s2 with
      | u => exact old
      | d x =>
        cases ho : σ[j]? with
        | none => rw [ho] at old; exact old
        | some v =>
          cases v with
          | none => rw [ho] at old; exact old
          | some v => rw [ho] at old; exact ⟨dp_ex ex _ _ old.1, old.2⟩
      | r v => exact old
      | own ds =>
        cases ho : σ[j]? with
        | none => rw [ho] at old; exact old
        | some v =>
          cases v with
          | none => rw [ho] at old; exact old
          | some v =>
            rw [ho] at old
            obtain ⟨p, xs, g1, g2, g3, g4, g5, g6⟩ := old
            subst g6
            obtain ⟨k1, k2, _, k4⟩ := o2 p (List.mem_singleton.mpr rfl)
            exact ⟨p, xs, g1, hk _ _ k1 g2, hn p _ k1 k4 g2 k2, g4, da_ex ex _ _ g5, rfl⟩
      | q t =>
        cases ho : σ[j]? with
        | none => rw [ho] at old; exact old
        | some v =>
          cases v with
          | none => rw [ho] at old; exact old
          | some v =>
            rw [ho] at old
            obtain ⟨g1, g2, g3⟩ := old
            refine ⟨oa_mono ex g1 fun a m => ?_, g2, fun a m => ?_⟩
            · obtain ⟨k1, k2, ⟨u, k3⟩, k4⟩ := o2 a m
              rw [k3]
              exact hk _ _ k1 k3
            · obtain ⟨k1, k2, ⟨u, k3⟩, k4⟩ := o2 a m
              exact ⟨hn a _ k1 k4 k3 k2, (g3 a m).2⟩
  · have key : ∀ {m : Nat} {f : List Addr}, (fps.set i fp')[m]? = some f → (i = m ∧ f = fp') ∨ (i ≠ m ∧ fps[m]? = some f) := fun {m f} e => by
      by_cases q : i = m
      · subst q
        rw [List.getElem?_set_self (by rw [hF.fl]; exact hi)] at e
        cases e
        exact .inl ⟨rfl, rfl⟩
      · rw [List.getElem?_set_ne q] at e
        exact .inr ⟨q, e⟩
    rcases key e1 with ⟨q1, q2⟩ | ⟨q1, q2⟩
    · rcases key e2 with ⟨r1, r2⟩ | ⟨r1, r2⟩
      · omega
      · subst q2
        exact absurd m1 (out k g a r2 m2 r1).2.1
    · rcases key e2 with ⟨r1, r2⟩ | ⟨r1, r2⟩
      · subst r2
        exact absurd m2 (out j f a q2 m1 q1).2.1
      · exact hF.dj j k f g a q2 r2 m1 m2
/-- the list of one's own at slot i changes -/
theorem Ok.write (h : Ok K F0 H0 F σ H Γ) {i : Nat} {ds es : List D} {p : Addr} {ys : List V} (e : Γ[i]? = some (.own ds)) (hs : σ[i]? = some (some (.ref p))) (hf : F p = none) (h0 : H0 p = none) (hd : DpAll K F ys es) :
    Ok K F0 H0 F σ (upd H p (.lst ys)) (Γ.set i (.own es)) := by
  obtain ⟨fps, hF⟩ := h
  obtain ⟨fp, ef⟩ := hF.fp e
  have q := hF.sl i _ _ e ef
  rw [hs] at q
  obtain ⟨p', xs, e1, e2, e3, e4, e5, e6⟩ := q
  cases e1
  subst e6
  have hi : i < Γ.length := (List.getElem?_eq_some_iff.mp e).1
  have := Ok.rewrite (F' := F) (H' := upd H p (.lst ys)) (s' := .own es) (o := some (.ref p)) (fp' := [p]) ⟨fps, hF⟩ hF e ef (Ex.refl _) (fun a u m k => by rw [upd_ne (fun z => m (List.mem_singleton.mpr z))]; exact k) (fun a u _ k _ _ => k)
    (fun a u k => by
      rw [upd_ne (ne_of_none k hf)]
      exact hF.base.s a u k) ⟨p, ys, rfl, upd_same, hf, h0, hd, rfl⟩ (fun a m => .inl m)
  have sg : σ.set i (some (.ref p)) = σ := by
    apply List.ext_getElem?
    intro k
    by_cases hk : i = k
    · subst hk
      rw [List.getElem?_set_self (by rw [hF.len]; exact hi), hs]
    · rw [List.getElem?_set_ne hk]
  rw [sg] at this
  exact this
/-- the list of one's own at slot i becomes data -/
theorem Ok.frz (h : Ok K F0 H0 F σ H Γ) {i : Nat} {ds : List D} (e : Γ[i]? = some (.own ds)) : ∃ F', Ex F F' ∧ Ok K F0 H0 F' σ H (Γ.set i (.d (.list ds))) := by
  obtain ⟨p, xs, g1, g2, g3, g4, g5⟩ := h.own e
  obtain ⟨fps, hF⟩ := h
  obtain ⟨fp, ef⟩ := hF.fp e
  have q := hF.sl i _ _ e ef
  rw [g1] at q
  obtain ⟨p', xs', e1, e2, _, _, _, e6⟩ := q
  cases e1
  subst e6
  have hi : i < Γ.length := (List.getElem?_eq_some_iff.mp e).1
  obtain ⟨z1, z2⟩ := Fz.freeze hF.base.s g2 g3
  refine ⟨upd F p (.lst xs), z1, ?_⟩
  have sg : σ.set i (some (.ref p)) = σ := by
    apply List.ext_getElem?
    intro k
    by_cases hk : i = k
    · subst hk
      rw [List.getElem?_set_self (by rw [hF.len]; exact hi), g1]
    · rw [List.getElem?_set_ne hk]
  -- the frozen object is new since H0
  refine ⟨fps.set i [], ⟨hF.base.f.trans z1, hF.base.h, z2, fun a o q1 q2 => ?_⟩, by rw [List.length_set]; exact hF.len, by rw [List.length_set, List.length_set]; exact hF.fl, fun j s f e1 e3 => ?_, fun j k f g a e1 e3 m1 m2 => ?_⟩
  · rw [upd_ne (ne_of_none q2 g4)]
    exact hF.base.n a o q1 q2
  · by_cases z : i = j
    · subst z
      rw [List.getElem?_set_self hi] at e1
      rw [List.getElem?_set_self (by rw [hF.fl]; exact hi)] at e3
      cases e1
      cases e3
      rw [g1]
      exact ⟨Dp.lst (SqL.of upd_same) (da_ex z1 _ _ g5), rfl⟩
    · rw [List.getElem?_set_ne z] at e1 e3
      have old := hF.sl j s f e1 e3
      have ne : ∀ a ∈ f, a ≠ p := fun a m w => by
        subst w
        exact z (hF.dj i j _ _ a ef e3 (List.mem_singleton.mpr rfl) m)
      cases s with
      | u => exact old
      | r v => exact old
      | d x =>
        cases ho : σ[j]? with
        | none => rw [ho] at old; exact old
        | some v =>
          cases v with
          | none => rw [ho] at old; exact old
          | some v => rw [ho] at old; exact ⟨dp_ex z1 _ _ old.1, old.2⟩
      | own es =>
        cases ho : σ[j]? with
        | none => rw [ho] at old; exact old
        | some v =>
          cases v with
          | none => rw [ho] at old; exact old
          | some v =>
            rw [ho] at old
            obtain ⟨p2, xs2, k1, k2, k3, k4, k5, k6⟩ := old
            exact ⟨p2, xs2, k1, k2, by rw [upd_ne (ne p2 (by rw [k6]; exact List.mem_singleton.mpr rfl))]; exact k3, k4, da_ex z1 _ _ k5, k6⟩
      | q t =>
        cases ho : σ[j]? with
        | none => rw [ho] at old; exact old
        | some v =>
          cases v with
          | none => rw [ho] at old; exact old
          | some v =>
            rw [ho] at old
            obtain ⟨k1, k2, k3⟩ := old
            exact ⟨oa_mono z1 k1 fun a m => rfl, k2, fun a m => ⟨by rw [upd_ne (ne a m)]; exact (k3 a m).1, (k3 a m).2⟩⟩
  · have key : ∀ {m : Nat} {f : List Addr}, (fps.set i [])[m]? = some f → a ∈ f → fps[m]? = some f := fun {m f} e ha => by
      by_cases q : i = m
      · subst q
        rw [List.getElem?_set_self (by rw [hF.fl]; exact hi)] at e
        cases e
        cases ha
      · rw [List.getElem?_set_ne q] at e
        exact e
    exact hF.dj j k f g a (key e1 m1) (key e3 m2) m1 m2
end
end TB

namespace TB
open PySem L2

abbrev WF : WX := fun _ _ _ _ => False
/-- what is asked behind a value -/
def Po (K : PySem.W.Frag) (F H : Hp) (Q : VK) (E : XK) : Out → Prop
  | .v x => ∀ v F' H', Fz F H F' H' → Dp K F' v x → Q v H'
  | .o ds => ∀ p xs F' H', Fz F H F' H' → H p = none → H' p = some (.lst xs) → F' p = none → DpAll K F' xs ds → Q (.ref p) H'
  | .x c => ∀ F' H', Fz F H F' H' → E (.ref c) none H'
  | .q t => ∀ v fp F' H', Fz F H F' H' → OA K F' H' t v fp → fp.Nodup → (∀ a ∈ fp, H a = none ∧ F' a = none) → Q v H'
  | .xf c f x => ∀ d v F' H', Fz F H F' H' → H d = none → H' d = some (.xd [(f, v)]) → Dp K F' v x → E (.ref c) (some d) H'
theorem po_mono {K : PySem.W.Frag} {F H F' H' : Hp} {Q : VK} {E : XK} {o : Out} (z : Fz F H F' H') (h : Po K F H Q E o) : Po K F' H' Q E o := by
  cases o with
  | v x => exact fun v F2 H2 z2 d => h v F2 H2 (z.trans z2) d
  | o ds => exact fun p xs F2 H2 z2 n1 n2 n3 d => h p xs F2 H2 (z.trans z2) (z.h.none n1) n2 n3 d
  | x c => exact fun F2 H2 z2 => h F2 H2 (z.trans z2)
  | q t => exact fun v fp F2 H2 z2 o nd n => h v fp F2 H2 (z.trans z2) o nd fun a m => ⟨z.h.none (n a m).1, (n a m).2⟩
  | xf c f x => exact fun d v F2 H2 z2 n1 n2 dp => h d v F2 H2 (z.trans z2) (z.h.none n1) n2 dp
def tE (K : PySem.W.Frag) (W : WX) (F0 H0 : Hp) (Γ : List S) (o : Out) : TE := fun σ H Q => ∃ F, Ok K F0 H0 F σ H Γ ∧ Po K F H Q (fun c d H' => W c d σ H') o
def tT (K : PySem.W.Frag) (F0 H0 : Hp) (Γ : List S) (b : Bool) : TT := fun σ H Q => ∃ F, Ok K F0 H0 F σ H Γ ∧ ∀ F' H', Fz F H F' H' → Q b H'
def tA (K : PySem.W.Frag) (F0 H0 : Hp) (Γ : List S) (ds : List D) : TA := fun σ H Q => ∃ F, Ok K F0 H0 F σ H Γ ∧ ∀ vs F' H', Fz F H F' H' → DpAll K F' vs ds → Q vs H'
abbrev JE (X : Cx) (W : WX) (F0 H0 : Hp) (Γ : List S) (e : Expr) (o : Out) : Prop := PE X e (tE X.K W F0 H0 Γ o)
abbrev JT (X : Cx) (F0 H0 : Hp) (Γ : List S) (e : Expr) (b : Bool) : Prop := PT X e (tT X.K F0 H0 Γ b)
abbrev JW (X : Cx) (F0 H0 : Hp) (Γ : List S) (e : Expr) (b : Bool) : Prop := PW X e (tT X.K F0 H0 Γ b)
abbrev JA (X : Cx) (F0 H0 : Hp) (Γ : List S) (es : List Expr) (ds : List D) : Prop := PA X es (tA X.K F0 H0 Γ ds)

theorem pe_imp {X : Cx} {e : Expr} {t t' : TE} (h : PE X e t) (k : ∀ σ H Q, t' σ H Q → t σ H Q) : PE X e t' := ⟨fun pins s σ H Q I q => h.run pins s σ H Q I (k σ H Q q)⟩
theorem pt_imp {X : Cx} {e : Expr} {t t' : TT} (h : PT X e t) (k : ∀ σ H Q, t' σ H Q → t σ H Q) : PT X e t' := ⟨fun pins s σ H Q I q => h.run pins s σ H Q I (k σ H Q q)⟩
theorem pw_imp {X : Cx} {e : Expr} {t t' : TT} (h : PW X e t) (k : ∀ σ H Q, t' σ H Q → t σ H Q) : PW X e t' := ⟨fun wh pins s σ H Q I q => h.run wh pins s σ H Q I (k σ H Q q)⟩
theorem pa_imp {X : Cx} {e : List Expr} {t t' : TA} (h : PA X e t) (k : ∀ σ H Q, t' σ H Q → t σ H Q) : PA X e t' := ⟨fun pos pins s σ H Q I q => h.run pos pins s σ H Q I (k σ H Q q)⟩

/-! ### operations by values, over data -/
def RD (K : PySem.W.Frag) (r : R2) (x y z : D) : Prop := ∀ (v u : V) (F H : Hp) (Q : VK), Ex F H → Dp K F v x → Dp K F u y → (∀ w F' H', Fz F H F' H' → Dp K F' w z → Q w H') → r v u H Q
/-- a built-in's call over data -/
def RC (K : PySem.W.Frag) (r : List V → Hp → VK → Prop) (ds : List D) (o : Out) : Prop := ∀ (vs : List V) (F H : Hp) (Q : VK), Ex F H → DpAll K F vs ds → Po K F H Q E0 o → r vs H Q

section
variable {X : Cx} {W : WX} {F0 H0 : Hp} {Γ : List S} {a b e : Expr} {x y z : D} {pos : Pos} {r : R2} {i j : Int} {p q : Bool}

/-- new tuples and lists -/
theorem po_tup {K : PySem.W.Frag} {F H : Hp} {Q : VK} {xs : List V} {ds : List D} (s : Ex F H) (d : DpAll K F xs ds) (h : ∀ v F' H', Fz F H F' H' → Dp K F' v (.tuple ds) → Q v H') : ∀ l, H l = none → Q (.ref l) (upd H l (.tup xs)) := fun l hl =>
  h _ _ _ (Fz.new s hl) (.tup (SqT.of upd_same) (da_ex (Fz.new s hl).f _ _ d))
theorem po_lst {K : PySem.W.Frag} {F H : Hp} {Q : VK} {xs : List V} {ds : List D} (s : Ex F H) (d : DpAll K F xs ds) (h : Po K F H Q E0 (.o ds)) : ∀ l, H l = none → Q (.ref l) (upd H l (.lst xs)) := fun l hl =>
  h l xs F _ (Fz.fresh s hl) hl upd_same (s.none hl) d
/-- a new list taken as data -/
theorem je_o2v {ds : List D} (h : JE X W F0 H0 Γ e (.o ds)) : JE X W F0 H0 Γ e (.v (.list ds)) := pe_imp h fun σ H Q ⟨F, ok, q⟩ => ⟨F, ok, fun p xs F' H' z n1 n2 n3 d => by
  obtain ⟨k1, k2⟩ := Fz.freeze z.s n2 n3
  refine q (.ref p) (upd F' p (.lst xs)) H' ⟨z.f.trans k1, z.h, k2, fun c o c1 c2 => ?_⟩ (.lst (SqL.of upd_same) (da_ex k1 _ _ d))
  have ne : c ≠ p := ne_of_none c2 n1
  rw [upd_ne ne]
  exact z.n c o c1 c2⟩

/-! ### names, constants -/
theorem je_var (k : Nat) {n : Str} (g : Γ[k]? = some (.d x)) (hN : X.N[k]? = some n := by rfl) (hv : Vis X.env.scope n := by first | exact Or.inl rfl | exact Or.inr (Or.inl rfl) | exact Or.inr (Or.inr rfl)) (hd : (n == ("__debug__" : Str)) = false := by decide) (hcd : (n == ("__classdict__" : Str)) = false := by decide) : JE X W F0 H0 Γ (.Name n pos) (.v x) :=
  pe_imp (pe_var hN hv hd hcd) fun σ H Q ⟨F, ok, q⟩ => by
    obtain ⟨v, e, d⟩ := ok.at g
    exact ⟨v, e, q v F H (Fz.refl ok.fh) d⟩
theorem je_int {k : Nat} : JE X W F0 H0 Γ (.Constant (.int i) k pos) (.v (.int i)) := pe_imp pe_int fun σ H Q ⟨F, ok, q⟩ => q _ F H (Fz.refl ok.fh) (.int i)
theorem je_bl {k : Nat} : JE X W F0 H0 Γ (.Constant (.bool p) k pos) (.v (.bool p)) := pe_imp pe_bl fun σ H Q ⟨F, ok, q⟩ => q _ F H (Fz.refl ok.fh) (.bl p)
theorem je_str {k : Nat} {t : Str} : JE X W F0 H0 Γ (.Constant (.str t) k pos) (.v (.str t)) := pe_imp pe_str fun σ H Q ⟨F, ok, q⟩ => q _ F H (Fz.refl ok.fh) (.str t)
/-- a constant of the module -/
theorem je_glob {n : Str} {v : V} {u : Value} (d : ∀ F, Dp X.K F v x) (hm : X.mg n = some u) (rl : RelV v u) (hg : Gl X n := by rfl) (hd : (n == ("__debug__" : Str)) = false := by decide) : JE X W F0 H0 Γ (.Name n pos) (.v x) :=
  pe_imp (pe_glob hg hm rl hd) fun σ H Q ⟨F, ok, q⟩ => q _ F H (Fz.refl ok.fh) (d F)

/-! ### operators -/
theorem je_bin {op : Operator} (ho : OpR X (binaryOp op) r) (hr : RD X.K r x y z) (ha : JE X W F0 H0 Γ a (.v x)) (hb : JE X W F0 H0 Γ b (.v y)) : JE X W F0 H0 Γ (.BinOp a op b pos) (.v z) :=
  pe_imp (pe_op ho ha hb) fun σ H Q ⟨F, ok, q⟩ => ⟨F, ok, fun v F1 H1 z1 d1 => ⟨F1, ok.mono z1, fun u F2 H2 z2 d2 => hr v u F2 H2 Q z2.s (dp_ex z2.f _ _ d1) d2 fun w F3 H3 z3 d3 => q w F3 H3 ((z1.trans z2).trans z3) d3⟩⟩
/-- does it come as a value -/
def Out.val : Out → Prop
  | .x _ => False
  | .xf _ _ _ => False
  | _ => True
theorem po_val {K : PySem.W.Frag} {F H : Hp} {Q : VK} {E E' : XK} : ∀ {o : Out}, o.val → Po K F H Q E o → Po K F H Q E' o
  | .v _, _, h => h
  | .o _, _, h => h
  | .q _, _, h => h
  | .x _, n, _ => n.elim
  | .xf _ _ _, n, _ => n.elim
theorem po_of {K : PySem.W.Frag} {F H : Hp} {σ : L2.St} {Q : VK} {o : Out} (n : o.val) (h : tE K W F0 H0 Γ o σ H Q) : ∃ F, Ok K F0 H0 F σ H Γ ∧ Po K F H Q E0 o := by
  obtain ⟨F, ok, q⟩ := h
  exact ⟨F, ok, po_val n q⟩
theorem rd_I0 {K : PySem.W.Frag} {g : Int → Int → Int} : RD K (rI0 fun i j => .int (g i j)) (.int i) (.int j) (.int (g i j)) := fun v u F H Q s d1 d2 q => by
  cases d1; cases d2
  exact ⟨i, j, rfl, rfl, q _ F H (Fz.refl s) (.int _)⟩
theorem rd_I {K : PySem.W.Frag} {C : Int → Int → Prop} {g : Int → Int → Int} (hc : C i j) : RD K (rI C fun i j => .int (g i j)) (.int i) (.int j) (.int (g i j)) := fun v u F H Q s d1 d2 q => by
  cases d1; cases d2
  exact ⟨i, j, rfl, rfl, hc, q _ F H (Fz.refl s) (.int _)⟩
theorem rd_B0 {K : PySem.W.Frag} {g : Int → Int → Bool} : RD K (rI0 fun i j => .bl (g i j)) (.int i) (.int j) (.bool (g i j)) := fun v u F H Q s d1 d2 q => by
  cases d1; cases d2
  exact ⟨i, j, rfl, rfl, q _ F H (Fz.refl s) (.bl _)⟩
theorem je_add (ha : JE X W F0 H0 Γ a (.v (.int i))) (hb : JE X W F0 H0 Γ b (.v (.int j))) : JE X W F0 H0 Γ (.BinOp a .Add b pos) (.v (.int (i + j))) := je_bin op_add rd_I0 ha hb
theorem je_sub (ha : JE X W F0 H0 Γ a (.v (.int i))) (hb : JE X W F0 H0 Γ b (.v (.int j))) : JE X W F0 H0 Γ (.BinOp a .Sub b pos) (.v (.int (i - j))) := je_bin op_sub rd_I0 ha hb
/-- x has at most n bits -/
def Bt (n : Nat) (x : Int) : Prop := x.natAbs < 2 ^ n
theorem je_mul (hc : CMul i j) (ha : JE X W F0 H0 Γ a (.v (.int i))) (hb : JE X W F0 H0 Γ b (.v (.int j))) : JE X W F0 H0 Γ (.BinOp a .Mult b pos) (.v (.int (i * j))) := je_bin op_mul (rd_I hc) ha hb
theorem je_mulW (hc : CMulW i j) (ha : JE X W F0 H0 Γ a (.v (.int i))) (hb : JE X W F0 H0 Γ b (.v (.int j))) : JE X W F0 H0 Γ (.BinOp a .Mult b pos) (.v (.int (i * j))) := je_bin op_mulW (rd_I hc) ha hb
theorem je_fdiv (hc : CDiv i j) (ha : JE X W F0 H0 Γ a (.v (.int i))) (hb : JE X W F0 H0 Γ b (.v (.int j))) : JE X W F0 H0 Γ (.BinOp a .FloorDiv b pos) (.v (.int (i / j))) := je_bin op_fdiv (rd_I hc) ha hb
theorem je_mod (hc : 0 < j) (ha : JE X W F0 H0 Γ a (.v (.int i))) (hb : JE X W F0 H0 Γ b (.v (.int j))) : JE X W F0 H0 Γ (.BinOp a .Mod b pos) (.v (.int (i % j))) := je_bin op_mod (rd_I (C := fun _ j => 0 < j) hc) ha hb
theorem je_pow (hc : CPow i j) (ha : JE X W F0 H0 Γ a (.v (.int i))) (hb : JE X W F0 H0 Γ b (.v (.int j))) : JE X W F0 H0 Γ (.BinOp a .Pow b pos) (.v (.int (i ^ j.toNat))) := je_bin op_pow (rd_I hc) ha hb
theorem je_neg (ha : JE X W F0 H0 Γ a (.v (.int i))) : JE X W F0 H0 Γ (.UnaryOp .USub a pos) (.v (.int (-i))) :=
  pe_imp (pe_un un_neg ha) fun σ H Q ⟨F, ok, q⟩ => ⟨F, ok, fun v F1 H1 z1 d1 => by
    cases d1
    exact ⟨i, rfl, q _ F1 H1 z1 (.int _)⟩⟩

/-! ### comparisons -/
theorem je_cmp {op : CmpOp} (ho : OpR X (compareOp op) r) (hr : RD X.K r x y z) (ha : JE X W F0 H0 Γ a (.v x)) (hb : JE X W F0 H0 Γ b (.v y)) (hm : behindInMarks op b = false) : JE X W F0 H0 Γ (.Compare a [op] [b] pos) (.v z) :=
  pe_imp (pe_cmpR ho ha hb hm) fun σ H Q ⟨F, ok, q⟩ => ⟨F, ok, fun v F1 H1 z1 d1 => ⟨F1, ok.mono z1, fun u F2 H2 z2 d2 => hr v u F2 H2 Q z2.s (dp_ex z2.f _ _ d1) d2 fun w F3 H3 z3 d3 => q w F3 H3 ((z1.trans z2).trans z3) d3⟩⟩
theorem jt_cmp {op : CmpOp} (ho : OpR X (compareOp op) r) (hr : RD X.K r x y (.bool p)) (ha : JE X WF F0 H0 Γ a (.v x)) (hb : JE X WF F0 H0 Γ b (.v y)) (hm : behindInMarks op b = false) : JT X F0 H0 Γ (.Compare a [op] [b] pos) p :=
  pt_imp (pt_cmpR ho ha hb hm) fun σ H Q ⟨F, ok, q⟩ => ⟨F, ok, fun v F1 H1 z1 d1 => ⟨F1, ok.mono z1, fun u F2 H2 z2 d2 => hr v u F2 H2 _ z2.s (dp_ex z2.f _ _ d1) d2 fun w F3 H3 z3 d3 => by
    cases d3
    exact ⟨p, rfl, q F3 H3 ((z1.trans z2).trans z3)⟩⟩⟩
/-- == of data -/
theorem rd_eq {K : PySem.W.Frag} (h1 : SeqAt.shaped x = true) (h2 : SeqAt.shaped y = true) : RD K (rEqD K) x y (.bool (PyData.eqv x y)) := fun v u F H Q s d1 d2 q => ⟨x, y, dp_ex s _ _ d1, dp_ex s _ _ d2, h1, h2, q _ F H (Fz.refl s) (.bl _)⟩
/-! ### tests -/
theorem jt_val (h : JE X WF F0 H0 Γ e (.v (.bool p))) (he : ∀ whole, isTrue e X.env whole = (do let v ← whole; standAt e.pos; holding [v] (truthy v)) := by intro _; rfl) : JT X F0 H0 Γ e p :=
  pt_imp (pt_val h he) fun σ H Q ⟨F, ok, q⟩ => ⟨F, ok, fun v F1 H1 z1 d1 => by
    cases d1
    exact ⟨p, rfl, q F1 H1 z1⟩⟩
theorem jt_not (h : JT X F0 H0 Γ e p) : JT X F0 H0 Γ (.UnaryOp .Not e pos) (!p) := pt_imp (pt_not h) fun σ H Q ⟨F, ok, q⟩ => ⟨F, ok, fun F1 H1 z1 => q F1 H1 z1⟩
theorem jt_w (h : JW X F0 H0 Γ e p) : JT X F0 H0 Γ e p := h.pt
theorem jw_and1 (h : JT X F0 H0 Γ e p) : JW X F0 H0 Γ (.BoolOp .And [e] pos) p := pw_and1 h
theorem jw_or1 (h : JT X F0 H0 Γ e p) : JW X F0 H0 Γ (.BoolOp .Or [e] pos) p := pw_or1 h
theorem jw_and {rest : List Expr} (h1 : JT X F0 H0 Γ a p) (h2 : p = true → JW X F0 H0 Γ (.BoolOp .And (b :: rest) pos) q) : JW X F0 H0 Γ (.BoolOp .And (a :: b :: rest) pos) (p && q) := by
  cases p with
  | true => exact pw_imp (pw_and h1 (h2 rfl)) fun σ H Q ⟨F, ok, k⟩ => ⟨F, ok, fun F1 H1 z1 => iteT ⟨F1, ok.mono z1, fun F2 H2 z2 => k F2 H2 (z1.trans z2)⟩⟩
  | false => exact pw_imp (pw_and h1 (tB' := fun _ _ _ => False) ⟨fun _ _ _ _ _ _ _ h => h.elim⟩) fun σ H Q ⟨F, ok, k⟩ => ⟨F, ok, fun F1 H1 z1 => iteF (k F1 H1 z1)⟩
theorem jw_or {rest : List Expr} (h1 : JT X F0 H0 Γ a p) (h2 : p = false → JW X F0 H0 Γ (.BoolOp .Or (b :: rest) pos) q) : JW X F0 H0 Γ (.BoolOp .Or (a :: b :: rest) pos) (p || q) := by
  cases p with
  | false => exact pw_imp (pw_or h1 (h2 rfl)) fun σ H Q ⟨F, ok, k⟩ => ⟨F, ok, fun F1 H1 z1 => iteF ⟨F1, ok.mono z1, fun F2 H2 z2 => k F2 H2 (z1.trans z2)⟩⟩
  | true => exact pw_imp (pw_or h1 (tB' := fun _ _ _ => False) ⟨fun _ _ _ _ _ _ _ h => h.elim⟩) fun σ H Q ⟨F, ok, k⟩ => ⟨F, ok, fun F1 H1 z1 => iteT (k F1 H1 z1)⟩
theorem je_and1 {op : BoolOp} {o : Out} (h : JE X W F0 H0 Γ e o) : JE X W F0 H0 Γ (.BoolOp op [e] pos) o := pe_one h
theorem je_and {rest : List Expr} (h1 : JE X W F0 H0 Γ a (.v (.bool p))) (h2 : p = true → JE X W F0 H0 Γ (.BoolOp .And (b :: rest) pos) (.v (.bool q))) : JE X W F0 H0 Γ (.BoolOp .And (a :: b :: rest) pos) (.v (.bool (p && q))) := by
  cases p with
  | true => exact pe_imp (pe_and h1 (h2 rfl)) fun σ H Q ⟨F, ok, k⟩ => ⟨F, ok, fun v F1 H1 z1 d1 => by
      cases d1
      exact ⟨true, rfl, iteT ⟨F1, ok.mono z1, fun v F2 H2 z2 d2 => k v F2 H2 (z1.trans z2) d2⟩⟩⟩
  | false => exact pe_imp (pe_and h1 (tb := fun _ _ _ => False) ⟨fun _ _ _ _ _ _ h => h.elim⟩) fun σ H Q ⟨F, ok, k⟩ => ⟨F, ok, fun v F1 H1 z1 d1 => by
      cases d1
      exact ⟨false, rfl, iteF (k _ F1 H1 z1 (.bl _))⟩⟩
theorem je_not (h : JE X W F0 H0 Γ e (.v (.bool p))) : JE X W F0 H0 Γ (.UnaryOp .Not e pos) (.v (.bool (!p))) := pe_imp (pe_not h) fun σ H Q ⟨F, ok, q⟩ => ⟨F, ok, fun v F1 H1 z1 d1 => by
  cases d1
  exact ⟨p, rfl, q _ F1 H1 z1 (.bl _)⟩⟩
theorem je_is {o o' : Out} (h : JE X W F0 H0 Γ e o) (k : o = o') : JE X W F0 H0 Γ e o' := k ▸ h
theorem jt_is (h : JT X F0 H0 Γ e p) (k : p = q) : JT X F0 H0 Γ e q := k ▸ h
/-! ### arguments, displays -/
variable {es : List Expr} {ds : List D}
theorem ja_nil : JA X F0 H0 Γ [] [] := pa_imp pa_nil fun σ H Q ⟨F, ok, q⟩ => q [] F H (Fz.refl ok.fh) .nil
theorem ja_cons (ha : JE X WF F0 H0 Γ e (.v x)) (hr : JA X F0 H0 Γ es ds) (hs : starEach (e :: es) X.env = (false, eval e X.env) :: starEach es X.env := by rfl) : JA X F0 H0 Γ (e :: es) (x :: ds) :=
  pa_imp (pa_cons ha hr hs) fun σ H Q ⟨F, ok, q⟩ => ⟨F, ok, fun v F1 H1 z1 d1 => ⟨F1, ok.mono z1, fun vs F2 H2 z2 d2 => q (v :: vs) F2 H2 (z1.trans z2) (.cons (dp_ex z2.f _ _ d1) d2)⟩⟩
theorem je_tup {k : Nat} (h : JA X F0 H0 Γ es ds) (hl : ds.length ≤ 100000 := by exact Nat.le_of_ble_eq_true rfl) : JE X W F0 H0 Γ (.Tuple es k pos) (.v (.tuple ds)) :=
  pe_imp (pe_tup h) fun σ H Q ⟨F, ok, q⟩ => ⟨F, ok, fun vs F1 H1 z1 d1 => ⟨by rw [da_len d1]; exact Nat.le_trans hl (by decide), po_tup z1.s d1 fun v F' H' z d => q v F' H' (z1.trans z) d⟩⟩
theorem je_lst (h : JA X F0 H0 Γ es ds) (hl : ds.length ≤ 100000 := by exact Nat.le_of_ble_eq_true rfl) : JE X W F0 H0 Γ (.List es pos) (.o ds) :=
  pe_imp (pe_lst h) fun σ H Q ⟨F, ok, q⟩ => ⟨F, ok, fun vs F1 H1 z1 d1 => ⟨by rw [da_len d1]; exact Nat.le_trans hl (by decide), po_lst z1.s d1 (po_mono z1 (show Po X.K F H Q E0 (.o ds) from q))⟩⟩

/-! ### built-ins -/
theorem je_cb {id : String} {n : Str} {o : Out} {r : List V → Hp → VK → Prop} {np : Pos} (hc : CallR X (.builtin id) r) (hr : RC X.K r ds o) (ho : o.val) (hm : X.mg n = none) (hv : bootBuiltins n = some (.builtin id)) (ha : JA X F0 H0 Γ (e :: es) ds) (hg : Gl X n := by rfl)
    (hn : n ≠ "__name__" := by decide) (hdb : (n == ("__debug__" : Str)) = false := by decide) (he : starEach (e :: es) X.env = (false, eval e X.env) :: starEach es X.env := by rfl) (hpl : (backTo pos (starEach es X.env)).any (·.1) = false := by rfl) : JE X W F0 H0 Γ (.Call (.Name n np) (e :: es) [] pos) o :=
  pe_imp (pe_callB hc hg hm hv ha hn hdb he hpl) fun σ H Q h => by
    obtain ⟨F, ok, q⟩ := po_of (F := H) ho h
    exact ⟨F, ok, fun vs F1 H1 z1 d1 => hr vs F1 H1 Q z1.s d1 (po_mono z1 q)⟩
theorem je_ct {T : String} {n : Str} {o : Out} {r : List V → Hp → VK → Prop} {np : Pos} (hc : CallR X (.type T) r) (hr : RC X.K r ds o) (ho : o.val) (hm : X.mg n = none) (hv : bootBuiltins n = some (.type T)) (ha : JA X F0 H0 Γ (e :: es) ds) (hg : Gl X n := by rfl)
    (hn : n ≠ "__name__" := by decide) (hdb : (n == ("__debug__" : Str)) = false := by decide) (he : starEach (e :: es) X.env = (false, eval e X.env) :: starEach es X.env := by rfl) (hpl : (backTo pos (starEach es X.env)).any (·.1) = false := by rfl) : JE X W F0 H0 Γ (.Call (.Name n np) (e :: es) [] pos) o :=
  pe_imp (pe_callTy hc hg hm hv ha hn hdb he hpl) fun σ H Q h => by
    obtain ⟨F, ok, q⟩ := po_of (F := H) ho h
    exact ⟨F, ok, fun vs F1 H1 z1 d1 => hr vs F1 H1 Q z1.s d1 (po_mono z1 q)⟩
end
end TB

namespace TB
open PySem L2

section
variable {X : Cx} {W : WX} {F0 H0 : Hp} {Γ : List S} {a b e : Expr} {x y z : D} {pos : Pos} {r : R2} {i j : Int} {p q : Bool} {es : List Expr} {ds : List D}

/-! ### built-ins over data -/
section
variable {K : PySem.W.Frag}
theorem rc1 {r : List V → Hp → VK → Prop} {o : Out} (h : ∀ (v : V) (F H : Hp) (Q : VK), Ex F H → Dp K F v x → Po K F H Q E0 o → r [v] H Q) : RC K r [x] o := fun vs F H Q s d q => by
  cases d with
  | cons d1 d2 =>
    cases d2
    exact h _ F H Q s d1 q
theorem rc2 {r : List V → Hp → VK → Prop} {o : Out} (h : ∀ (v u : V) (F H : Hp) (Q : VK), Ex F H → Dp K F v x → Dp K F u y → Po K F H Q E0 o → r [v, u] H Q) : RC K r [x, y] o := fun vs F H Q s d q => by
  cases d with
  | cons d1 d2 =>
    cases d2 with
    | cons d2 d3 =>
      cases d3
      exact h _ _ F H Q s d1 d2 q
theorem rc_lenL : RC K (fun xs H Q => ∃ x n, xs = [x] ∧ LenV K x H n ∧ Q (.int n) H) [.list ds] (.v (.int ds.length)) := rc1 fun v F H Q s d q => by
  cases d with
  | lst h1 h2 => exact ⟨_, _, rfl, .inl ⟨_, sl_ex s h1, rfl⟩, by rw [da_len h2]; exact q _ F H (Fz.refl s) (.int _)⟩
theorem rc_lenT : RC K (fun xs H Q => ∃ x n, xs = [x] ∧ LenV K x H n ∧ Q (.int n) H) [.tuple ds] (.v (.int ds.length)) := rc1 fun v F H Q s d q => by
  cases d with
  | tup h1 h2 => exact ⟨_, _, rfl, .inr ⟨_, st_ex s h1, rfl⟩, by rw [da_len h2]; exact q _ F H (Fz.refl s) (.int _)⟩
theorem rc_intI : RC K (fun xs H Q => (∃ i, xs = [.int i] ∧ Q (.int i) H) ∨ ∃ k, xs = [.bl k] ∧ Q (.int (if k then 1 else 0)) H) [.int i] (.v (.int i)) := rc1 fun v F H Q s d q => by
  cases d
  exact .inl ⟨_, rfl, q _ F H (Fz.refl s) (.int _)⟩
theorem rc_intB : RC K (fun xs H Q => (∃ i, xs = [.int i] ∧ Q (.int i) H) ∨ ∃ k, xs = [.bl k] ∧ Q (.int (if k then 1 else 0)) H) [.bool p] (.v (.int (if p then 1 else 0))) := rc1 fun v F H Q s d q => by
  cases d
  exact .inr ⟨_, rfl, q _ F H (Fz.refl s) (.int _)⟩
theorem rc_abs : RC K (fun xs H Q => ∃ i, xs = [.int i] ∧ Q (.int (if i < 0 then -i else i)) H) [.int i] (.v (.int (if i < 0 then -i else i))) := rc1 fun v F H Q s d q => by
  cases d
  exact ⟨_, rfl, q _ F H (Fz.refl s) (.int _)⟩
theorem rc_max2 : RC K (fun xs H Q => ∃ i j, xs = [.int i, .int j] ∧ Q (.int (if j > i then j else i)) H) [.int i, .int j] (.v (.int (if j > i then j else i))) := rc2 fun v u F H Q s d1 d2 q => by
  cases d1; cases d2
  exact ⟨_, _, rfl, q _ F H (Fz.refl s) (.int _)⟩
theorem rc_tupL : RC K (fun xs H Q => ∃ p ys, xs = [.ref p] ∧ ((SqL K H p ys ∧ ∀ l, H l = none → Q (.ref l) (upd H l (.tup ys))) ∨ (SqT K H p ys ∧ Q (.ref p) H))) [.list ds] (.v (.tuple ds)) := rc1 fun v F H Q s d q => by
  cases d with
  | lst h1 h2 => exact ⟨_, _, rfl, .inl ⟨sl_ex s h1, po_tup s h2 q⟩⟩
theorem rc_listT : RC K (fun xs H Q => ∃ p ys, xs = [.ref p] ∧ (SqL K H p ys ∨ SqT K H p ys) ∧ ∀ l, H l = none → Q (.ref l) (upd H l (.lst ys))) [.tuple ds] (.o ds) := rc1 fun v F H Q s d q => by
  cases d with
  | tup h1 h2 => exact ⟨_, _, rfl, .inr (st_ex s h1), po_lst s h2 q⟩
end
theorem noX {x : D} : (Out.v x).val := trivial
theorem noX' {ds : List D} : (Out.o ds).val := trivial

theorem je_lenL {np : Pos} (hm : X.mg "len" = none) (h : JE X W F0 H0 Γ e (.v (.list ds))) (hg : Gl X "len" := by rfl) (s1 : starEach [e] X.env = (false, eval e X.env) :: starEach [] X.env := by rfl) : JE X W F0 H0 Γ (.Call (.Name "len" np) [e] [] pos) (.v (.int ds.length)) := je_cb call_len rc_lenL noX hm PySem.boot_len (ja_cons h ja_nil s1) hg (by decide) (by decide) s1
theorem je_lenT {np : Pos} (hm : X.mg "len" = none) (h : JE X W F0 H0 Γ e (.v (.tuple ds))) (hg : Gl X "len" := by rfl) (s1 : starEach [e] X.env = (false, eval e X.env) :: starEach [] X.env := by rfl) : JE X W F0 H0 Γ (.Call (.Name "len" np) [e] [] pos) (.v (.int ds.length)) := je_cb call_len rc_lenT noX hm PySem.boot_len (ja_cons h ja_nil s1) hg (by decide) (by decide) s1
theorem je_intI {np : Pos} (hm : X.mg "int" = none) (h : JE X W F0 H0 Γ e (.v (.int i))) (hg : Gl X "int" := by rfl) (s1 : starEach [e] X.env = (false, eval e X.env) :: starEach [] X.env := by rfl) : JE X W F0 H0 Γ (.Call (.Name "int" np) [e] [] pos) (.v (.int i)) := je_ct call_int1 rc_intI noX hm (by decide +kernel) (ja_cons h ja_nil s1) hg (by decide) (by decide) s1
theorem je_intB {np : Pos} (hm : X.mg "int" = none) (h : JE X W F0 H0 Γ e (.v (.bool p))) (hg : Gl X "int" := by rfl) (s1 : starEach [e] X.env = (false, eval e X.env) :: starEach [] X.env := by rfl) : JE X W F0 H0 Γ (.Call (.Name "int" np) [e] [] pos) (.v (.int (if p then 1 else 0))) := je_ct call_int1 rc_intB noX hm (by decide +kernel) (ja_cons h ja_nil s1) hg (by decide) (by decide) s1
theorem je_abs {np : Pos} (hm : X.mg "abs" = none) (h : JE X W F0 H0 Γ e (.v (.int i))) (hg : Gl X "abs" := by rfl) (s1 : starEach [e] X.env = (false, eval e X.env) :: starEach [] X.env := by rfl) : JE X W F0 H0 Γ (.Call (.Name "abs" np) [e] [] pos) (.v (.int (if i < 0 then -i else i))) := je_cb call_abs rc_abs noX hm (by decide +kernel) (ja_cons h ja_nil s1) hg (by decide) (by decide) s1
theorem je_max2 {np : Pos} (hc : X.calm = true) (hm : X.mg "max" = none) (ha : JE X W F0 H0 Γ a (.v (.int i))) (hb : JE X W F0 H0 Γ b (.v (.int j))) (hg : Gl X "max" := by rfl) (s1 : starEach [a, b] X.env = (false, eval a X.env) :: starEach [b] X.env := by rfl) (s2 : starEach [b] X.env = (false, eval b X.env) :: starEach [] X.env := by rfl) (s3 : (backTo pos (starEach [b] X.env)).any (·.1) = false := by rfl) : JE X W F0 H0 Γ (.Call (.Name "max" np) [a, b] [] pos) (.v (.int (if j > i then j else i))) := je_cb (call_max2 hc) rc_max2 noX hm (by decide +kernel) (ja_cons ha (ja_cons hb ja_nil s2) s1) hg (by decide) (by decide) s1 s3
theorem je_tupL {np : Pos} (hm : X.mg "tuple" = none) (h : JE X W F0 H0 Γ e (.v (.list ds))) (hg : Gl X "tuple" := by rfl) (s1 : starEach [e] X.env = (false, eval e X.env) :: starEach [] X.env := by rfl) : JE X W F0 H0 Γ (.Call (.Name "tuple" np) [e] [] pos) (.v (.tuple ds)) := je_ct call_tuple_of rc_tupL noX hm (by decide +kernel) (ja_cons h ja_nil s1) hg (by decide) (by decide) s1
theorem je_listT {np : Pos} (hm : X.mg "list" = none) (h : JE X W F0 H0 Γ e (.v (.tuple ds))) (hg : Gl X "list" := by rfl) (s1 : starEach [e] X.env = (false, eval e X.env) :: starEach [] X.env := by rfl) : JE X W F0 H0 Γ (.Call (.Name "list" np) [e] [] pos) (.o ds) := je_ct call_list_of rc_listT noX' hm (by decide +kernel) (ja_cons h ja_nil s1) hg (by decide) (by decide) s1

/-! ### subscripts -/
theorem atI_da {K : PySem.W.Frag} {F : Hp} {xs : List V} {ds : List D} {i : Int} {d : D} (h : DpAll K F xs ds) (e : atI ds i = some d) : ∃ v, atI xs i = some v ∧ Dp K F v d := by
  unfold atI at e ⊢
  rw [da_len h]
  cases q : ixN ds.length i with
  | none => rw [q] at e; cases e
  | some j =>
    rw [q] at e
    exact da_get h e
theorem je_ixL {d : D} (h : atI ds i = some d) (ha : JE X W F0 H0 Γ a (.v (.list ds))) (hb : JE X W F0 H0 Γ b (.v (.int i))) (hs : PlainIx b := by exact fun _ _ => rfl) : JE X W F0 H0 Γ (.Subscript a b pos) (.v d) :=
  pe_imp (pe_ix ix_list ha hb hs) fun σ H Q ⟨F, ok, q⟩ => ⟨F, ok, fun v F1 H1 z1 d1 => ⟨F1, ok.mono z1, fun u F2 H2 z2 d2 => by
    cases d1 with
    | lst g1 g2 =>
      cases d2
      obtain ⟨w, e1, e2⟩ := atI_da g2 h
      exact ⟨_, _, _, w, rfl, rfl, sl_ex (z2.f.trans z2.s) g1, e1, q w F2 H2 (z1.trans z2) (dp_ex z2.f _ _ e2)⟩⟩⟩
theorem je_ixT {d : D} (h : atI ds i = some d) (ha : JE X W F0 H0 Γ a (.v (.tuple ds))) (hb : JE X W F0 H0 Γ b (.v (.int i))) (hs : PlainIx b := by exact fun _ _ => rfl) : JE X W F0 H0 Γ (.Subscript a b pos) (.v d) :=
  pe_imp (pe_ix ix_tup ha hb hs) fun σ H Q ⟨F, ok, q⟩ => ⟨F, ok, fun v F1 H1 z1 d1 => ⟨F1, ok.mono z1, fun u F2 H2 z2 d2 => by
    cases d1 with
    | tup g1 g2 =>
      cases d2
      obtain ⟨w, e1, e2⟩ := atI_da g2 h
      exact ⟨_, _, _, w, rfl, rfl, st_ex (z2.f.trans z2.s) g1, e1, q w F2 H2 (z1.trans z2) (dp_ex z2.f _ _ e2)⟩⟩⟩
def cutD (xs : List D) (lo hi : Option Int) : List D := (xs.drop (HT.sIx xs.length 0 lo)).take (HT.sIx xs.length xs.length hi - HT.sIx xs.length 0 lo)
theorem cut_da {K : PySem.W.Frag} {F : Hp} {xs : List V} {ds : List D} {lo hi : Option Int} (h : DpAll K F xs ds) : DpAll K F (cutV xs lo hi) (cutD ds lo hi) := by
  unfold cutV cutD
  rw [da_len h]
  exact da_take _ (da_drop _ h)
def tPartD (K : PySem.W.Frag) (F0 H0 : Hp) (Γ : List S) (o : Option Int) : TO := fun σ H Q => ∃ F, Ok K F0 H0 F σ H Γ ∧ ∀ F' H', Fz F H F' H' → Q o H'
abbrev JO (X : Cx) (F0 H0 : Hp) (Γ : List S) (e : Option Expr) (o : Option Int) : Prop := PO X e (tPartD X.K F0 H0 Γ o)
theorem jo_none : JO X F0 H0 Γ none none := ⟨fun pins s σ H Q I ⟨F, ok, q⟩ => po_none.run pins s σ H Q I (q F H (Fz.refl ok.fh))⟩
theorem jo_some (h : JE X WF F0 H0 Γ e (.v (.int i))) : JO X F0 H0 Γ (some e) (some i) := ⟨fun pins s σ H Q I ⟨F, ok, q⟩ => (po_some h).run pins s σ H Q I ⟨F, ok, fun v F1 H1 z1 d1 => by
  cases d1
  exact ⟨i, rfl, q F1 H1 z1⟩⟩⟩
theorem je_slL {lo hi : Option Expr} {l u : Option Int} {p2 : Pos} (he : JE X W F0 H0 Γ e (.v (.list ds))) (hl : JO X F0 H0 Γ lo l) (hu : JO X F0 H0 Γ hi u) : JE X W F0 H0 Γ (.Subscript e (.Slice lo hi none p2) pos) (.o (cutD ds l u)) :=
  pe_imp (pe_slice sl_list he hl hu) fun σ H Q ⟨F, ok, q⟩ => ⟨F, ok, fun v F1 H1 z1 d1 => ⟨F1, ok.mono z1, fun F2 H2 z2 => ⟨F2, (ok.mono z1).mono z2, fun F3 H3 z3 => by
    cases d1 with
    | lst g1 g2 =>
      have zz := (z1.trans z2).trans z3
      exact ⟨_, _, rfl, sl_ex ((z2.f.trans z3.f).trans z3.s) g1, po_lst z3.s (cut_da (da_ex (z2.f.trans z3.f) _ _ g2)) (po_mono zz (show Po X.K F H Q E0 (.o _) from q))⟩⟩⟩⟩
/-! ### a list of one's own, read -/
theorem je_own_len (k : Nat) {n : Str} {np q2 : Pos} (g : Γ[k]? = some (.own ds)) (hm : X.mg "len" = none) (hN : X.N[k]? = some n := by rfl) (hv : Vis X.env.scope n := by first | exact Or.inl rfl | exact Or.inr (Or.inl rfl) | exact Or.inr (Or.inr rfl)) (hg : Gl X "len" := by rfl) (hd : (n == ("__debug__" : Str)) = false := by decide) (hcd : (n == ("__classdict__" : Str)) = false := by decide) :
    JE X W F0 H0 Γ (.Call (.Name "len" np) [.Name n q2] [] pos) (.v (.int ds.length)) :=
  pe_imp (pe_callB call_len hg hm PySem.boot_len (pa_cons (pe_var hN hv hd hcd) pa_nil)) fun σ H Q ⟨F, ok, q⟩ => by
    obtain ⟨p, xs, e1, e2, e3, e4, e5⟩ := ok.own g
    exact ⟨_, e1, _, _, rfl, .inl ⟨_, SqL.of e2, rfl⟩, by rw [da_len e5]; exact q _ F H (Fz.refl ok.fh) (.int _)⟩
theorem je_own_ix (k : Nat) {n : Str} {q2 : Pos} {d : D} (g : Γ[k]? = some (.own ds)) (h : atI ds i = some d) (hb : JE X W F0 H0 Γ b (.v (.int i))) (hs : PlainIx b := by exact fun _ _ => rfl) (hN : X.N[k]? = some n := by rfl) (hv : Vis X.env.scope n := by first | exact Or.inl rfl | exact Or.inr (Or.inl rfl) | exact Or.inr (Or.inr rfl)) (hd : (n == ("__debug__" : Str)) = false := by decide) (hcd : (n == ("__classdict__" : Str)) = false := by decide) :
    JE X W F0 H0 Γ (.Subscript (.Name n q2) b pos) (.v d) :=
  pe_imp (pe_ix ix_list (pe_var hN hv hd hcd) hb hs) fun σ H Q ⟨F, ok, q⟩ => by
    obtain ⟨p, xs, e1, e2, e3, e4, e5⟩ := ok.own g
    refine ⟨_, e1, F, ok, fun u F2 H2 z2 d2 => ?_⟩
    cases d2
    obtain ⟨w, k1, k2⟩ := atI_da e5 h
    exact ⟨_, _, _, w, rfl, rfl, SqL.of (z2.h _ _ e2), k1, q w F2 H2 z2 (dp_ex z2.f _ _ k2)⟩
theorem je_own_sl (k : Nat) {n : Str} {q2 p2 : Pos} {lo hi : Option Expr} {l u : Option Int} (g : Γ[k]? = some (.own ds)) (hl : JO X F0 H0 Γ lo l) (hu : JO X F0 H0 Γ hi u) (hN : X.N[k]? = some n := by rfl) (hv : Vis X.env.scope n := by first | exact Or.inl rfl | exact Or.inr (Or.inl rfl) | exact Or.inr (Or.inr rfl)) (hd : (n == ("__debug__" : Str)) = false := by decide) (hcd : (n == ("__classdict__" : Str)) = false := by decide) :
    JE X W F0 H0 Γ (.Subscript (.Name n q2) (.Slice lo hi none p2) pos) (.o (cutD ds l u)) :=
  pe_imp (pe_slice sl_list (pe_var hN hv hd hcd) hl hu) fun σ H Q ⟨F, ok, q⟩ => by
    obtain ⟨p, xs, e1, e2, e3, e4, e5⟩ := ok.own g
    exact ⟨_, e1, F, ok, fun F2 H2 z2 => ⟨F2, ok.mono z2, fun F3 H3 z3 => ⟨_, _, rfl, SqL.of ((z2.trans z3).h _ _ e2), po_lst z3.s (cut_da (da_ex (z2.f.trans z3.f) _ _ e5)) (po_mono (z2.trans z3) (show Po X.K F H Q E0 (.o _) from q))⟩⟩⟩
/-- found + [..] -/
theorem je_own_cat (k : Nat) {n : Str} {q2 : Pos} {es : List D} (g : Γ[k]? = some (.own ds)) (hl : ds.length + es.length ≤ 100000) (hb : JE X W F0 H0 Γ b (.o es)) (hN : X.N[k]? = some n := by rfl) (hv : Vis X.env.scope n := by first | exact Or.inl rfl | exact Or.inr (Or.inl rfl) | exact Or.inr (Or.inr rfl)) (hd : (n == ("__debug__" : Str)) = false := by decide) (hcd : (n == ("__classdict__" : Str)) = false := by decide) :
    JE X W F0 H0 Γ (.BinOp (.Name n q2) .Add b pos) (.o (ds ++ es)) :=
  pe_imp (pe_op op_cat (pe_var hN hv hd hcd) hb) fun σ H Q ⟨F, ok, q⟩ => by
    obtain ⟨p, xs, e1, e2, e3, e4, e5⟩ := ok.own g
    refine ⟨_, e1, F, ok, fun p2 ys F2 H2 z2 n1 n2 n3 d2 => ⟨_, _, _, _, rfl, rfl, z2.h _ _ e2, n2, ?_, ?_⟩⟩
    · rw [da_len e5, da_len d2]; exact Nat.le_trans hl (by decide)
    · exact po_lst z2.s (da_app (da_ex z2.f _ _ e5) d2) (po_mono z2 (show Po X.K F H Q E0 (.o _) from q))
/-! ### calls of the text's own defs -/
def spD (K : PySem.W.Frag) (R : List D → Out → Prop) : Sp := fun vs H Q E => ∃ F ds o, Ex F H ∧ DpAll K F vs ds ∧ R ds o ∧ Po K F H Q E o
variable {k : Nat} {f : Addr} {fd : FuncData} {ps : List Str} {R : List D → Out → Prop} {n : Str} {np : Pos} {o : Out}
theorem je_call (tk : L2.Takes X W) (G : FnOk X.prog X.w X.K X.mg X.base (L2.CX X.prog X.w) k f fd ps (spD X.K R)) (hr : Room k X.A) (hm : X.mg n = some (.ref f)) (hk : PySem.W.keepIn X.K (.ref f) = true) (hb : Binds X.K fd ps []) (ha : JA X F0 H0 Γ (e :: es) ds) (hR : R ds o)
    (hg : Gl X n := by rfl) (hdb : (n == ("__debug__" : Str)) = false := by decide) (he : starEach (e :: es) X.env = (false, eval e X.env) :: starEach es X.env := by rfl) (hpl : (backTo pos (starEach es X.env)).any (·.1) = false := by rfl) : JE X W F0 H0 Γ (.Call (.Name n np) (e :: es) [] pos) o :=
  pe_imp (pe_callS G hr hg hm hk hb (fun σ => passAt tk σ) ha hdb he hpl) fun σ H Q ⟨F, ok, q⟩ => ⟨F, ok, fun vs F1 H1 z1 d1 => ⟨F1, ds, _, z1.s, d1, hR, po_mono z1 q⟩⟩
/-- f() -/
theorem je_call0 (tk : L2.Takes X W) (G : FnOk X.prog X.w X.K X.mg X.base (L2.CX X.prog X.w) k f fd ps (spD X.K R)) (hr : Room k X.A) (hm : X.mg n = some (.ref f)) (hk : PySem.W.keepIn X.K (.ref f) = true) (hb : Binds X.K fd ps []) (hR : R [] o) (hno : o.val)
    (hg : Gl X n := by rfl) (hdb : (n == ("__debug__" : Str)) = false := by decide) : JE X W F0 H0 Γ (.Call (.Name n np) [] [] pos) o :=
  pe_imp (pe_call0 (E := E0) G hr hg hm hk hb .nil passL hdb) fun σ H Q h => by
    obtain ⟨F, ok, q⟩ := po_of (F := H) hno h
    exact ⟨F, [], _, ok.fh, .nil, hR, q⟩
end
end TB

namespace TB
open PySem L2

/-- what comes of a statement -/
inductive SO where
  | nx (Γ : List S)
  | rt (x : D)
  | rto (ds : List D)
  | x (c : Addr) (Γ : List S)
  | bk (Γ : List S)
  | ct (Γ : List S)
  | rtq (t : Own)
  | xf (c : Addr) (f : Str) (x : D) (Γ : List S)
/-- what is asked behind it -/
def PSo (K : PySem.W.Frag) (W : WX) (F0 H0 F : Hp) (D' : Ends) : SO → Prop
  | .nx Γ => ∀ σ' F' H', Ex F F' → Ok K F0 H0 F' σ' H' Γ → D'.nx σ' H'
  | .rt x => ∀ v F' H', Ex F F' → Fz F0 H0 F' H' → Dp K F' v x → D'.rt v H'
  | .rto ds => ∀ p xs F' H', Ex F F' → Fz F0 H0 F' H' → H0 p = none → H' p = some (.lst xs) → F' p = none → DpAll K F' xs ds → D'.rt (.ref p) H'
  | .x c Γ => ∀ σ' F' H', Ex F F' → Ok K F0 H0 F' σ' H' Γ → W (.ref c) none σ' H'
  | .bk Γ => ∀ σ' F' H', Ex F F' → Ok K F0 H0 F' σ' H' Γ → D'.bk σ' H'
  | .ct Γ => ∀ σ' F' H', Ex F F' → Ok K F0 H0 F' σ' H' Γ → D'.ct σ' H'
  | .rtq t => ∀ v fp F' H', Ex F F' → Fz F0 H0 F' H' → OA K F' H' t v fp → fp.Nodup → (∀ a ∈ fp, H0 a = none ∧ F' a = none) → D'.rt v H'
  | .xf c f x Γ => ∀ d v σ' F' H', Ex F F' → Ok K F0 H0 F' σ' H' Γ → H0 d = none → H' d = some (.xd [(f, v)]) → Dp K F' v x → W (.ref c) (some d) σ' H'
def tS (K : PySem.W.Frag) (W : WX) (F0 H0 : Hp) (Γ : List S) (so : SO) : TS := fun D' σ H => ∃ F, Ok K F0 H0 F σ H Γ ∧ PSo K W F0 H0 F D' so
abbrev JS (X : Cx) (W : WX) (F0 H0 : Hp) (Γ : List S) (st : Stmt) (so : SO) : Prop := PS X st (tS X.K W F0 H0 Γ so)
abbrev JSs (X : Cx) (W : WX) (F0 H0 : Hp) (Γ : List S) (st : List Stmt) (so : SO) : Prop := PSs X st (tS X.K W F0 H0 Γ so)
theorem ps_imp {X : Cx} {e : Stmt} {t t' : TS} (h : PS X e t) (k : ∀ D' σ H, t' D' σ H → t D' σ H) : PS X e t' := ⟨fun pins s σ H D' I q => h.run pins s σ H D' I (k D' σ H q)⟩
theorem pss_imp {X : Cx} {e : List Stmt} {t t' : TS} (h : PSs X e t) (k : ∀ D' σ H, t' D' σ H → t D' σ H) : PSs X e t' := ⟨fun pins s σ H D' I q => h.run pins s σ H D' I (k D' σ H q)⟩
theorem pso_mono {K : PySem.W.Frag} {W : WX} {F0 H0 F F' : Hp} {D' : Ends} {so : SO} (e : Ex F F') (h : PSo K W F0 H0 F D' so) : PSo K W F0 H0 F' D' so := by
  cases so with
  | nx Γ => exact fun σ' F2 H' e2 ok => h σ' F2 H' (e.trans e2) ok
  | rt x => exact fun v F2 H' e2 z d => h v F2 H' (e.trans e2) z d
  | rto ds => exact fun p xs F2 H' e2 z n1 n2 n3 d => h p xs F2 H' (e.trans e2) z n1 n2 n3 d
  | x c Γ => exact fun σ' F2 H' e2 ok => h σ' F2 H' (e.trans e2) ok
  | bk Γ => exact fun σ' F2 H' e2 ok => h σ' F2 H' (e.trans e2) ok
  | ct Γ => exact fun σ' F2 H' e2 ok => h σ' F2 H' (e.trans e2) ok
  | rtq t => exact fun v fp F2 H' e2 z o nd n => h v fp F2 H' (e.trans e2) z o nd n
  | xf c f x Γ => exact fun d v σ' F2 H' e2 ok n1 n2 dp => h d v σ' F2 H' (e.trans e2) ok n1 n2 dp
/-- does it go on behind -/
def SO.stop : SO → Prop
  | .nx _ => False
  | _ => True
theorem pso_stop {K : PySem.W.Frag} {W : WX} {F0 H0 F : Hp} {D' : Ends} {so : SO} (hs : so.stop) (u : L2.St → Hp → Prop) (h : PSo K W F0 H0 F D' so) : PSo K W F0 H0 F { D' with nx := u } so := by
  cases so with
  | nx Γ => exact hs.elim
  | _ => exact h

section
variable {X : Cx} {W : WX} {F0 H0 : Hp} {Γ Γ' Γ1 : List S} {a b e : Expr} {x y z : D} {pos : Pos} {p q : Bool} {ds : List D} {st : Stmt} {sts rest body orelse : List Stmt} {so : SO}

/-! ### blocks -/
theorem jss_nil : JSs X W F0 H0 Γ [] (.nx Γ) := pss_imp pss_nil fun D' σ H ⟨F, ok, q⟩ => q σ F H (Ex.refl _) ok
theorem jss_cons (h1 : JS X W F0 H0 Γ st (.nx Γ1)) (h2 : JSs X W F0 H0 Γ1 rest so) : JSs X W F0 H0 Γ (st :: rest) so :=
  pss_imp (pss_cons h1 h2) fun D' σ H ⟨F, ok, q⟩ => ⟨F, ok, fun σ' F' H' e ok' => ⟨F', ok', pso_mono e q⟩⟩
theorem jss_one (h1 : JS X W F0 H0 Γ st so) : JSs X W F0 H0 Γ [st] so := pss_one h1
/-- the rest is not reached -/
theorem jss_stop (h1 : JS X W F0 H0 Γ st so) (hs : so.stop) : JSs X W F0 H0 Γ (st :: rest) so :=
  pss_imp (pss_cons h1 pss_never) fun D' σ H ⟨F, ok, q⟩ => ⟨F, ok, pso_stop hs _ q⟩
/-- forgetting ahead, behind -/
theorem js_le (l : Le Γ Γ1) (h : JS X W F0 H0 Γ1 st so) : JS X W F0 H0 Γ st so := ps_imp h fun D' σ H ⟨F, ok, q⟩ => ⟨F, ok.le l, q⟩
theorem jss_nx (h : JSs X W F0 H0 Γ sts (.nx Γ1)) (l : Le Γ1 Γ') : JSs X W F0 H0 Γ sts (.nx Γ') := pss_imp h fun D' σ H ⟨F, ok, q⟩ => ⟨F, ok, fun σ' F' H' e ok' => q σ' F' H' e (ok'.le l)⟩
theorem jss_is {so' : SO} (h : JSs X W F0 H0 Γ sts so) (k : so = so') : JSs X W F0 H0 Γ sts so' := k ▸ h
theorem js_is {so' : SO} (h : JS X W F0 H0 Γ st so) (k : so = so') : JS X W F0 H0 Γ st so' := k ▸ h
/-- a list of one's own becomes data -/
theorem jss_frz (i : Nat) (g : Γ[i]? = some (.own ds)) (h : JSs X W F0 H0 (Γ.set i (.d (.list ds))) sts so) : JSs X W F0 H0 Γ sts so := pss_imp h fun D' σ H ⟨F, ok, q⟩ => by
  obtain ⟨F', e, ok'⟩ := ok.frz g
  exact ⟨F', ok', pso_mono e q⟩

/-! ### small statements -/
theorem js_break : JS X W F0 H0 Γ (.Break pos) (.bk Γ) := ps_imp ps_break fun D' σ H ⟨F, ok, q⟩ => q σ F H (Ex.refl _) ok
theorem js_expr (h : JE X W F0 H0 Γ e (.v x)) (hs : swapsWith e none pos.line X.env = pure false := by rfl) : JS X W F0 H0 Γ (.Expr e pos) (.nx Γ) :=
  ps_imp (ps_expr h hs) fun D' σ H ⟨F, ok, q⟩ => ⟨F, ok, fun v F' H' z d => q σ F' H' z.f (ok.mono z)⟩
theorem js_exprX {c : Addr} (h : JE X W F0 H0 Γ e (.x c)) (hs : swapsWith e none pos.line X.env = pure false := by rfl) : JS X W F0 H0 Γ (.Expr e pos) (.x c Γ) :=
  ps_imp (ps_expr h hs) fun D' σ H ⟨F, ok, q⟩ => ⟨F, ok, fun F' H' z => q σ F' H' z.f (ok.mono z)⟩
theorem js_ret (h : JE X W F0 H0 Γ e (.v x)) : JS X W F0 H0 Γ (.Return (some e) pos) (.rt x) :=
  ps_imp (ps_ret h) fun D' σ H ⟨F, ok, q⟩ => ⟨F, ok, fun v F' H' z d => q v F' H' z.f (ok.mono z).base d⟩
theorem js_retO (h : JE X W F0 H0 Γ e (.o ds)) : JS X W F0 H0 Γ (.Return (some e) pos) (.rto ds) :=
  ps_imp (ps_ret h) fun D' σ H ⟨F, ok, q⟩ => ⟨F, ok, fun p xs F' H' z n1 n2 n3 d => q p xs F' H' z.f (ok.mono z).base (ok.base.h.none n1) n2 n3 d⟩
theorem js_retX {c : Addr} (h : JE X W F0 H0 Γ e (.x c)) : JS X W F0 H0 Γ (.Return (some e) pos) (.x c Γ) :=
  ps_imp (ps_ret h) fun D' σ H ⟨F, ok, q⟩ => ⟨F, ok, fun F' H' z => q σ F' H' z.f (ok.mono z)⟩
/-- return found, found a list of one's own -/
theorem js_retOwn (k : Nat) {n : Str} {q2 : Pos} (g : Γ[k]? = some (.own ds)) (hN : X.N[k]? = some n := by rfl) (hv : Vis X.env.scope n := by first | exact Or.inl rfl | exact Or.inr (Or.inl rfl) | exact Or.inr (Or.inr rfl)) (hd : (n == ("__debug__" : Str)) = false := by decide) (hcd : (n == ("__classdict__" : Str)) = false := by decide) :
    JS X W F0 H0 Γ (.Return (some (.Name n q2)) pos) (.rto ds) :=
  ps_imp (ps_ret (pe_var hN hv hd hcd)) fun D' σ H ⟨F, ok, q⟩ => by
    obtain ⟨p, xs, e1, e2, e3, e4, e5⟩ := ok.own g
    exact ⟨_, e1, q p xs F H (Ex.refl _) ok.base e4 e2 e3 e5⟩
theorem js_set (i : Nat) {n : Str} {pos' : Pos} (hN : X.N.Nodup) (he : JE X W F0 H0 Γ e (.v x)) (hi : X.N[i]? = some n := by rfl) (hx : Loc X.env.scope n := by first | exact Or.inl rfl | exact Or.inr rfl) (hs : swapsWith e (some (.Name n pos')) pos.line X.env = pure false := by rfl) (hf : X.fn n = true ∨ X.env.scope.names.lookup n = some .local := by first | exact .inl rfl | exact .inr rfl) :
    JS X W F0 H0 Γ (.Assign [.Name n pos'] e pos) (.nx (Γ.set i (.d x))) :=
  ps_imp (ps_set hN hi hx he hs hf) fun D' σ H ⟨F, ok, q⟩ => ⟨F, ok, fun v F' H' z d => q _ F' H' z.f ((ok.mono z).set i d)⟩
theorem js_setO (i : Nat) {n : Str} {pos' : Pos} (hN : X.N.Nodup) (he : JE X W F0 H0 Γ e (.o ds)) (hi : X.N[i]? = some n := by rfl) (hx : Loc X.env.scope n := by first | exact Or.inl rfl | exact Or.inr rfl) (hs : swapsWith e (some (.Name n pos')) pos.line X.env = pure false := by rfl) (hf : X.fn n = true ∨ X.env.scope.names.lookup n = some .local := by first | exact .inl rfl | exact .inr rfl) :
    JS X W F0 H0 Γ (.Assign [.Name n pos'] e pos) (.nx (Γ.set i (.own ds))) :=
  ps_imp (ps_set hN hi hx he hs hf) fun D' σ H ⟨F, ok, q⟩ => ⟨F, ok, fun p xs F' H' z n1 n2 n3 d => q _ F' H' z.f (ok.setNew z i n1 n2 n3 d)⟩
/-- n = e, e a new tree -/
theorem js_setQ (i : Nat) {n : Str} {pos' : Pos} {t : Own} (hN : X.N.Nodup) (he : JE X W F0 H0 Γ e (.q t)) (hi : X.N[i]? = some n := by rfl) (hx : Loc X.env.scope n := by first | exact Or.inl rfl | exact Or.inr rfl) (hs : swapsWith e (some (.Name n pos')) pos.line X.env = pure false := by rfl) (hf : X.fn n = true ∨ X.env.scope.names.lookup n = some .local := by first | exact .inl rfl | exact .inr rfl) :
    JS X W F0 H0 Γ (.Assign [.Name n pos'] e pos) (.nx (Γ.set i (.q t))) :=
  ps_imp (ps_set hN hi hx he hs hf) fun D' σ H ⟨F, ok, q⟩ => ⟨F, ok, fun v fp F' H' z o nd n => q _ F' H' z.f (ok.setTree z i o nd n)⟩
/-- n += e, ints -/
theorem js_augAdd (i : Nat) {n : Str} {pos' : Pos} {k l : Int} (g : Γ[i]? = some (.d (.int k))) (hN : X.N.Nodup) (he : JE X W F0 H0 Γ e (.v (.int l))) (hi : X.N[i]? = some n := by rfl) (hx : Loc X.env.scope n := by first | exact Or.inl rfl | exact Or.inr rfl) (hf : X.fn n = true ∨ X.env.scope.names.lookup n = some .local := by first | exact .inl rfl | exact .inr rfl) :
    JS X W F0 H0 Γ (.AugAssign (.Name n pos') .Add e pos) (.nx (Γ.set i (.d (.int (k + l))))) :=
  ps_imp (ps_aug hN hi hx he ip_add hf) fun D' σ H ⟨F, ok, q⟩ => by
    obtain ⟨v, e1, d1⟩ := ok.at g
    cases d1
    exact ⟨_, e1, F, ok, fun v F' H' z d => by
      cases d
      exact ⟨k, l, rfl, rfl, q _ F' H' z.f ((ok.mono z).set i (.int _))⟩⟩

/-! ### tests -/
theorem js_ifT (hc : JT X F0 H0 Γ e true) (ha : JSs X W F0 H0 Γ body so) : JS X W F0 H0 Γ (.If e body orelse pos) so :=
  ps_imp (ps_if hc ha pss_never) fun D' σ H ⟨F, ok, q⟩ => ⟨F, ok, fun F1 H1 z1 => iteT ⟨F1, ok.mono z1, pso_mono z1.f q⟩⟩
theorem js_ifF (hc : JT X F0 H0 Γ e false) (hb : JSs X W F0 H0 Γ orelse so) : JS X W F0 H0 Γ (.If e body orelse pos) so :=
  ps_imp (ps_if hc pss_never hb) fun D' σ H ⟨F, ok, q⟩ => ⟨F, ok, fun F1 H1 z1 => iteF ⟨F1, ok.mono z1, pso_mono z1.f q⟩⟩
theorem js_if (hc : JT X F0 H0 Γ e p) (ha : p = true → JSs X W F0 H0 Γ body so) (hb : p = false → JSs X W F0 H0 Γ orelse so) : JS X W F0 H0 Γ (.If e body orelse pos) so := by
  cases p with
  | true => exact js_ifT hc (ha rfl)
  | false => exact js_ifF hc (hb rfl)

/-! ### methods of a list of one's own -/
theorem js_append (i : Nat) {n : Str} {np apos : Pos} (g : Γ[i]? = some (.own ds)) (hl : ds.length < 100000) (he : JE X W F0 H0 Γ e (.v x)) (hN : X.N[i]? = some n := by rfl) (hv : Vis X.env.scope n := by first | exact Or.inl rfl | exact Or.inr (Or.inl rfl) | exact Or.inr (Or.inr rfl)) (hd : (n == ("__debug__" : Str)) = false := by decide) (hcd : (n == ("__classdict__" : Str)) = false := by decide)
    {cpos : Pos} (h1 : attributeBase (.Name n np) "append" X.env (eval (.Name n np) X.env) = eval (.Name n np) X.env := by rfl)
    (h2 : ((backTo cpos (starEach [e] X.env)).all (fun x => !x.1) && (backToKw cpos (keywordEach [] X.env)).all (fun x => x.1.isSome) && decide ([e].length + ([] : List Keyword).length + (if ([] : List Keyword).isEmpty then 0 else 1) < 30)) = true := by rfl)
    (h3 : (apos.endLine == cpos.line) = true := by rfl) (h4 : starEach [e] X.env = (false, eval e X.env) :: starEach [] X.env := by rfl) (h5 : (backTo cpos (starEach [] X.env)).any (·.1) = false := by rfl)
    (hs : swapsWith (.Call (.Attribute (.Name n np) "append" apos) [e] [] cpos) none pos.line X.env = pure false := by rfl) : JS X W F0 H0 Γ (.Expr (.Call (.Attribute (.Name n np) "append" apos) [e] [] cpos) pos) (.nx (Γ.set i (.own (ds ++ [x])))) :=
  ps_imp (ps_expr (pe_bm PySem.F.plainAttrs_list PySem.F.slot_list_append PySem.F.type_list_append mt_append (pe_var hN hv hd hcd) (pa_cons he pa_nil h4) h1 h2 h3 h4 h5) hs) fun D' σ H ⟨F, ok, q⟩ => by
    obtain ⟨p, xs, e1, e2, e3, e4, e5⟩ := ok.own g
    refine ⟨_, e1, .inl ⟨rfl, _, SqL.of e2⟩, F, ok, fun v F1 H1 z1 d1 => ⟨p, xs, v, rfl, rfl, z1.h _ _ e2, ?_, ?_⟩⟩
    · rw [da_len e5]; exact Nat.lt_of_lt_of_le hl (by decide)
    · exact q σ F1 _ z1.f ((ok.mono z1).write g e1 (z1.n _ _ e3 e2) e4 (da_app (da_ex z1.f _ _ e5) (.cons d1 .nil)))
/-! ### what is walked -/
/-- J walks the data ds, once F stands -/
def ItD (K : PySem.W.Frag) (F : Hp) (J : It) (ds : List D) : Prop :=
  ∀ F1 H i, Ex F F1 → Ex F1 H → (∀ d, ds[i]? = some d → J.go i H ∧ ∀ x H', J.yld i H x H' → ∃ F2, Fz F1 H F2 H' ∧ Dp K F2 x d) ∧ (i = ds.length → J.stop i H)
def tI (K : PySem.W.Frag) (F0 H0 : Hp) (Γ : List S) (ds : List D) : TI := fun σ H R => ∃ F, Ok K F0 H0 F σ H Γ ∧ ∀ J F' H', Fz F H F' H' → ItD K F' J ds → R J H'
abbrev JI (X : Cx) (F0 H0 : Hp) (Γ : List S) (tg it : Expr) (ds : List D) : Prop := PI X tg it (tI X.K F0 H0 Γ ds)
theorem pi_imp {X : Cx} {tg e : Expr} {t t' : TI} (h : PI X tg e t) (k : ∀ σ H R, t' σ H R → t σ H R) : PI X tg e t' := ⟨fun pins s σ H R I q => h.run pins s σ H R I (k σ H R q)⟩
variable {tg it : Expr}
/-- the readings of a list agree because its yield says so: Itl's own form -/
theorem ji_list (h : JE X WF F0 H0 Γ it (.v (.list ds))) : JI X F0 H0 Γ tg it ds := pi_imp (pi_list h) fun σ H R ⟨F, ok, q⟩ => ⟨F, ok, fun v F1 H1 z1 d1 => by
  cases d1 with
  | lst g1 g2 =>
    refine ⟨_, rfl, ⟨_, sl_ex z1.s g1⟩, q _ F1 H1 z1 fun F2 H2 i e1 e2 => ?_⟩
    have h1 := sl_ex (e1.trans e2) g1
    refine ⟨fun d e => ?_, fun e => ⟨_, h1, by rw [e, da_len g2]; exact Nat.le_refl _⟩⟩
    obtain ⟨v, k1, k2⟩ := da_get g2 e
    refine ⟨⟨_, v, h1, k1⟩, fun x H' y => ?_⟩
    obtain ⟨e', y⟩ := y
    subst e'
    have k3 := y _ h1
    rw [k1] at k3
    cases k3
    exact ⟨F2, Fz.refl e2, dp_ex e1 _ _ k2⟩⟩
theorem ji_tup (h : JE X WF F0 H0 Γ it (.v (.tuple ds))) : JI X F0 H0 Γ tg it ds := pi_imp (pi_tup h) fun σ H R ⟨F, ok, q⟩ => ⟨F, ok, fun v F1 H1 z1 d1 => by
  cases d1 with
  | tup g1 g2 =>
    refine ⟨_, rfl, ⟨_, st_ex z1.s g1⟩, q _ F1 H1 z1 fun F2 H2 i e1 e2 => ?_⟩
    have h1 := st_ex (e1.trans e2) g1
    refine ⟨fun d e => ?_, fun e => ⟨_, h1, by rw [e, da_len g2]; exact Nat.le_refl _⟩⟩
    obtain ⟨v, k1, k2⟩ := da_get g2 e
    refine ⟨⟨_, v, h1, k1⟩, fun x H' y => ?_⟩
    obtain ⟨e', y⟩ := y
    subst e'
    have k3 := y _ h1
    rw [k1] at k3
    cases k3
    exact ⟨F2, Fz.refl e2, dp_ex e1 _ _ k2⟩⟩
/-- the ints lo, lo + 1, .. -/
def rngD (lo : Int) (n : Nat) : List D := (List.range n).map fun i => .int (lo + (i : Nat))
theorem rngD_len (lo : Int) (n : Nat) : (rngD lo n).length = n := by simp [rngD]
theorem rngD_get {lo : Int} {n i : Nat} {d : D} (h : (rngD lo n)[i]? = some d) : i < n ∧ d = .int (lo + (i : Nat)) := by
  have hl := (List.getElem?_eq_some_iff.mp h).1
  rw [rngD_len] at hl
  refine ⟨hl, ?_⟩
  unfold rngD at h
  rw [List.getElem?_map, List.getElem?_range hl] at h
  exact (Option.some.inj h).symm
theorem itr_d {K : PySem.W.Frag} {F : Hp} {lo : Int} {n : Nat} : ItD K F (Itr lo n) (rngD lo n) := fun F1 H i e1 e2 => by
  refine ⟨fun d e => ?_, fun e => by rw [rngD_len] at e; exact Nat.le_of_eq e.symm⟩
  obtain ⟨h1, h2⟩ := rngD_get e
  subst h2
  refine ⟨h1, fun x H' y => ?_⟩
  obtain ⟨e1', e2'⟩ := y
  subst e1' e2'
  exact ⟨F1, Fz.refl e2, .int _⟩
theorem ji_range1 {j : Int} {np : Pos} (hm : X.mg "range" = none) (h1 : -(2 ^ 62) ≤ j) (h2 : j < 2 ^ 62) (ha : JE X WF F0 H0 Γ a (.v (.int j))) (hg : Gl X "range" := by rfl) (hs : starEach [a] X.env = [(false, eval a X.env)] := by rfl) : JI X F0 H0 Γ tg (.Call (.Name "range" np) [a] [] pos) (rngD 0 j.toNat) :=
  pi_imp (pi_range1 hg hm (ja_cons ha ja_nil hs) hs) fun σ H R ⟨F, ok, q⟩ => ⟨F, ok, fun vs F1 H1 z1 d1 => by
    cases d1 with
    | cons k1 k2 =>
      cases k1; cases k2
      exact ⟨j, rfl, h1, h2, q _ F1 H1 z1 itr_d⟩⟩
theorem ji_range2 {i j : Int} {np : Pos} (hm : X.mg "range" = none) (h0 : -(2 ^ 62) ≤ i ∧ i < 2 ^ 62 ∧ -(2 ^ 62) ≤ j ∧ j < 2 ^ 62) (ha : JE X WF F0 H0 Γ a (.v (.int i))) (hb : JE X WF F0 H0 Γ b (.v (.int j))) (hg : Gl X "range" := by rfl) (hs : starEach [a, b] X.env = [(false, eval a X.env), (false, eval b X.env)] := by rfl) (hs2 : starEach [b] X.env = [(false, eval b X.env)] := by rfl) : JI X F0 H0 Γ tg (.Call (.Name "range" np) [a, b] [] pos) (rngD i (j - i).toNat) :=
  pi_imp (pi_range2 hg hm (ja_cons ha (ja_cons hb ja_nil hs2) (by rw [hs, hs2])) hs hs2) fun σ H R ⟨F, ok, q⟩ => ⟨F, ok, fun vs F1 H1 z1 d1 => by
    cases d1 with
    | cons k1 k2 =>
      cases k2 with
      | cons k2 k3 =>
        cases k1; cases k2; cases k3
        exact ⟨i, j, rfl, h0, q _ F1 H1 z1 itr_d⟩⟩

/-! ### targets -/
/-- T: how a stored datum changes the slots -/
def tG (K : PySem.W.Frag) (F0 H0 : Hp) (T : List S → D → List S → Prop) : TG := fun v σ H Q => ∃ Γ d Γ' F, T Γ d Γ' ∧ Ok K F0 H0 F σ H Γ ∧ Dp K F v d ∧ ∀ σ' F' H', Ex F F' → Fz F H F' H' → Ok K F0 H0 F' σ' H' Γ' → Q σ' H'
abbrev JG (X : Cx) (F0 H0 : Hp) (tg : Expr) (T : List S → D → List S → Prop) : Prop := PG X tg (tG X.K F0 H0 T)
theorem pg_imp {X : Cx} {tg : Expr} {t t' : TG} (h : PG X tg t) (k : ∀ v σ H Q, t' v σ H Q → t v σ H Q) : PG X tg t' := ⟨fun pins s σ H v u Q I r q => h.run pins s σ H v u Q I r (k v σ H Q q)⟩
def TN (i : Nat) : List S → D → List S → Prop := fun Γ d Γ' => Γ' = Γ.set i (.d d)
theorem jg_name (i : Nat) {n : Str} (hN : X.N.Nodup) (hi : X.N[i]? = some n := by rfl) (hx : Loc X.env.scope n := by first | exact Or.inl rfl | exact Or.inr rfl) (hf : X.fn n = true ∨ X.env.scope.names.lookup n = some .local := by first | exact .inl rfl | exact .inr rfl) : JG X F0 H0 (.Name n pos) (TN i) :=
  pg_imp (pg_name hN hi hx hf) fun v σ H Q ⟨Γ, d, Γ', F, t, ok, hd, q⟩ => by
    have t' : Γ' = Γ.set i (.d d) := t
    subst t'
    exact q _ F H (Ex.refl _) (Fz.refl ok.fh) (ok.set i hd)
/-- several targets -/
def tGs (K : PySem.W.Frag) (F0 H0 : Hp) (T : List S → List D → List S → Prop) : TGs := fun vs σ H Q => ∃ Γ ds Γ' F, T Γ ds Γ' ∧ Ok K F0 H0 F σ H Γ ∧ DpAll K F vs ds ∧ ∀ σ' F' H', Ex F F' → Fz F H F' H' → Ok K F0 H0 F' σ' H' Γ' → Q σ' H'
abbrev JGs (X : Cx) (F0 H0 : Hp) (ts : List Expr) (T : List S → List D → List S → Prop) : Prop := PGs X ts (tGs X.K F0 H0 T)
def Ts0 : List S → List D → List S → Prop := fun Γ ds Γ' => ds = [] ∧ Γ' = Γ
def Ts1 (T : List S → D → List S → Prop) (T' : List S → List D → List S → Prop) : List S → List D → List S → Prop := fun Γ ds Γ' => ∃ d r Γ1, ds = d :: r ∧ T Γ d Γ1 ∧ T' Γ1 r Γ'
theorem pgs_imp {X : Cx} {tg : List Expr} {t t' : TGs} (h : PGs X tg t) (k : ∀ v σ H Q, t' v σ H Q → t v σ H Q) : PGs X tg t' := ⟨fun pins s σ H v u Q I r q => h.run pins s σ H v u Q I r (k v σ H Q q)⟩
theorem jgs_nil : JGs X F0 H0 [] Ts0 := pgs_imp pgs_nil fun v σ H Q ⟨Γ, ds, Γ', F, ⟨t1, t2⟩, ok, hd, q⟩ => by
  subst t1 t2
  cases hd
  exact ⟨rfl, q σ F H (Ex.refl _) (Fz.refl ok.fh) ok⟩
theorem jgs_cons {es : List Expr} {T : List S → D → List S → Prop} {T' : List S → List D → List S → Prop} (h1 : JG X F0 H0 e T) (h2 : JGs X F0 H0 es T') (hs : (assignEach (e :: es) X.env).map (·.2) = assign e X.env :: (assignEach es X.env).map (·.2) := by rfl) : JGs X F0 H0 (e :: es) (Ts1 T T') :=
  pgs_imp (pgs_cons h1 h2 hs) fun vs σ H Q ⟨Γ, ds, Γ', F, ⟨d, r, Γ1, t1, t2, t3⟩, ok, hd, q⟩ => by
    subst t1
    cases hd with
    | cons k1 k2 => exact ⟨_, _, rfl, Γ, d, Γ1, F, t2, ok, k1, fun σ' F' H' e1 z1 ok' => ⟨Γ1, r, Γ', F', t3, ok', da_ex e1 _ _ k2, fun σ2 F2 H2 e2 z2 ok2 => q σ2 F2 H2 (e1.trans e2) (z1.trans z2) ok2⟩⟩
/-- a, b, .. = a tuple, a list -/
theorem jg_tup {es : List Expr} {k n : Nat} {T : List S → List D → List S → Prop} (hc : X.calm = true) (h : JGs X F0 H0 es T) (hn : (assignEach es X.env).length = n := by rfl) (hst : (assignEach es X.env).findIdx? (·.1) = none := by rfl) :
    JG X F0 H0 (.Tuple es k pos) (fun Γ d Γ' => ∃ ds, d = .tuple ds ∧ ds.length = n ∧ T Γ ds Γ') :=
  pg_imp (pg_tup hc h hn hst) fun v σ H Q ⟨Γ, d, Γ', F, ⟨ds, t1, t2, t3⟩, ok, hd, q⟩ => by
    subst t1
    cases hd with
    | tup g1 g2 => exact ⟨_, _, rfl, st_ex ok.fh g1, by rw [da_len g2]; exact t2, Γ, ds, Γ', F, t3, ok, g2, q⟩
theorem jg_lst {es : List Expr} {k n : Nat} {T : List S → List D → List S → Prop} (hc : X.calm = true) (h : JGs X F0 H0 es T) (hn : (assignEach es X.env).length = n := by rfl) (hst : (assignEach es X.env).findIdx? (·.1) = none := by rfl) :
    JG X F0 H0 (.Tuple es k pos) (fun Γ d Γ' => ∃ ds, d = .list ds ∧ ds.length = n ∧ T Γ ds Γ') :=
  pg_imp (pg_lst hc h hn hst) fun v σ H Q ⟨Γ, d, Γ', F, ⟨ds, t1, t2, t3⟩, ok, hd, q⟩ => by
    subst t1
    cases hd with
    | lst g1 g2 => exact ⟨_, _, rfl, sl_ex ok.fh g1, by rw [da_len g2]; exact t2, Γ, ds, Γ', F, t3, ok, g2, q⟩
theorem js_asg {T : List S → D → List S → Prop} (he : JE X W F0 H0 Γ e (.v x)) (hg : JG X F0 H0 tg T) (ht : T Γ x Γ1) (hs : swapsWithSole [tg] e pos.line X.env = pure false := by rfl) (hw : swappedStores [tg] e X.env = pure none := by rfl) (h1 : (assignEach [tg] X.env).map (·.2) = [assign tg X.env] := by rfl) :
    JS X W F0 H0 Γ (.Assign [tg] e pos) (.nx Γ1) :=
  ps_imp (ps_asg he hg hs hw h1) fun D' σ H ⟨F, ok, q⟩ => ⟨F, ok, fun v F' H' z d => ⟨Γ, x, Γ1, F', ht, ok.mono z, d, fun σ2 F2 H2 e2 z2 ok2 => q σ2 F2 H2 (z.f.trans e2) ok2⟩⟩

/-! ### for -/
/-- how a turn may end -/
def Turns (Γn : List S) : SO → Prop
  | .nx Γ => Γ = Γn
  | .ct Γ => Γ = Γn
  | _ => False
/-- over all of ds; m turns go on, then: the end (m = all), or a turn that leaves -/
theorem js_for {T : List S → D → List S → Prop} {ds : List D} (Γs : Nat → List S) (Γt : Nat → List S) (m : Nat) (hp : PassesOwn (model X.prog X.w) X.A X.env X.xe) (hc : X.calm = true) (hi : JI X F0 H0 Γ tg it ds) (hg : JG X F0 H0 tg T) (h0 : Le Γ (Γs 0)) (hm : m ≤ ds.length)
    (ht : ∀ k d, ds[k]? = some d → k ≤ m → T (Γs k) d (Γt k)) (hb : ∀ k d, ds[k]? = some d → k < m → ∃ so, JSs X W F0 H0 (Γt k) body so ∧ Turns (Γs (k + 1)) so)
    (hl : m < ds.length → ∃ so', JSs X W F0 H0 (Γt m) body so' ∧ so'.stop ∧ (so = so' ∧ (∀ g, so' ≠ .bk g) ∧ (∀ g, so' ≠ .ct g) ∨ ∃ g, so' = .bk g ∧ so = .nx g)) (he : m = ds.length → so = .nx (Γs m))
    (hs : ∀ x, foldedSetIterable it X.env x = pure x := by intro _; rfl) : JS X W F0 H0 Γ (.For tg it body [] pos) so := by
  let tb : TS := fun D' σ H => ∃ k d so', ds[k]? = some d ∧ k ≤ m ∧ JSs X W F0 H0 (Γt k) body so' ∧ tS X.K W F0 H0 (Γt k) so' D' σ H
  have hbd : PSs X body tb := ⟨fun pins s σ H D' I ⟨k, d, so', _, _, j, t⟩ => j.run pins s σ H D' I t⟩
  refine ps_imp (ps_for hp hc hi hg hbd hs) fun D' σ H ⟨F, ok, q⟩ => ⟨F, ok, fun J F1 H1 z1 it1 => ?_⟩
  refine ⟨fun i n σ H => n = ds.length - i ∧ i ≤ m ∧ ∃ F', Ex F1 F' ∧ Ok X.K F0 H0 F' σ H (Γs i), ⟨ds.length - 0, rfl, Nat.zero_le _, F1, Ex.refl _, (ok.mono z1).le h0⟩, ?_⟩
  rintro i n σ H ⟨rfl, him, F', e', ok'⟩
  obtain ⟨go, stop⟩ := it1 F' H i e' ok'.fh
  by_cases hlt : i < ds.length
  · have hd : ds[i]? = some ds[i] := List.getElem?_eq_getElem hlt
    obtain ⟨g1, g2⟩ := go _ hd
    refine .inr ⟨g1, fun σ' H' => i < m ∧ ∃ F'', Ex F1 F'' ∧ Ok X.K F0 H0 F'' σ' H' (Γs (i + 1)), fun σ' H' ⟨h1, F'', h2, h3⟩ => ⟨ds.length - (i + 1), by omega, rfl, h1, F'', h2, h3⟩, fun x H' y => ?_⟩
    obtain ⟨F2, z2, d2⟩ := g2 x H' y
    refine ⟨Γs i, ds[i], Γt i, F2, ht i _ hd him, ok'.mono z2, d2, fun σ3 F3 H3 e3 z3 ok3 => ?_⟩
    by_cases hlm : i < m
    · obtain ⟨so', j, tn⟩ := hb i _ hd hlm
      refine ⟨i, ds[i], so', hd, him, j, F3, ok3, ?_⟩
      cases so' with
      | nx g =>
        have tn' : g = Γs (i + 1) := tn
        subst tn'
        exact fun σ4 F4 H4 e4 ok4 => ⟨hlm, F4, ((e'.trans z2.f).trans e3).trans e4, ok4⟩
      | ct g =>
        have tn' : g = Γs (i + 1) := tn
        subst tn'
        exact fun σ4 F4 H4 e4 ok4 => ⟨hlm, F4, ((e'.trans z2.f).trans e3).trans e4, ok4⟩
      | _ => exact tn.elim
    · have him' : i = m := by omega
      subst him'
      obtain ⟨so', j, hst, w⟩ := hl hlt
      refine ⟨i, ds[i], so', hd, him, j, F3, ok3, ?_⟩
      have eF : Ex F F3 := ((z1.f.trans e').trans z2.f).trans e3
      rcases w with ⟨w, nb, nc⟩ | ⟨g, w1, w2⟩
      · subst w
        have q' := pso_mono eF q
        cases so with
        | nx g => exact hst.elim
        | bk g => exact absurd rfl (nb g)
        | ct g => exact absurd rfl (nc g)
        | rt x => exact q'
        | rto x => exact q'
        | x c g => exact q'
        | rtq t => exact q'
        | xf c f x g => exact q'
      · subst w1 w2
        exact fun σ4 F4 H4 e4 ok4 => q σ4 F4 H4 (eF.trans e4) ok4
  · have e : i = ds.length := by omega
    have e2 : m = ds.length := by omega
    have e3 : i = m := by omega
    refine .inl ⟨stop e, ?_⟩
    have h1 := he e2
    subst h1
    rw [← e3] at q
    exact q σ F' H (z1.f.trans e') ok'
/-- all turns go on -/
theorem js_forAll {T : List S → D → List S → Prop} {ds : List D} (Γs : Nat → List S) (Γt : Nat → List S) (hp : PassesOwn (model X.prog X.w) X.A X.env X.xe) (hc : X.calm = true) (hi : JI X F0 H0 Γ tg it ds) (hg : JG X F0 H0 tg T) (h0 : Le Γ (Γs 0))
    (ht : ∀ k d, ds[k]? = some d → T (Γs k) d (Γt k)) (hb : ∀ k d, ds[k]? = some d → JSs X W F0 H0 (Γt k) body (.nx (Γs (k + 1)))) (hs : ∀ x, foldedSetIterable it X.env x = pure x := by intro _; rfl) : JS X W F0 H0 Γ (.For tg it body [] pos) (.nx (Γs ds.length)) :=
  js_for Γs Γt ds.length hp hc hi hg h0 (Nat.le_refl _) (fun k d e _ => ht k d e) (fun k d e _ => ⟨_, hb k d e, rfl⟩) (fun h => absurd h (Nat.lt_irrefl _)) (fun _ => rfl) hs

/-! ### while -/
theorem js_while (Γs : Nat → List S) (m : Nat) (hp : PassesOwn (model X.prog X.w) X.A X.env X.xe) (h0 : Le Γ (Γs 0)) (hc : ∀ k, k < m → JT X F0 H0 (Γs k) e true) (hb : ∀ k, k < m → JSs X W F0 H0 (Γs k) body (.nx (Γs (k + 1)))) (he : JT X F0 H0 (Γs m) e false) : JS X W F0 H0 Γ (.While e body [] pos) (.nx (Γs m)) := by
  let tc : TT := fun σ H Q => ∃ k c, JT X F0 H0 (Γs k) e c ∧ tT X.K F0 H0 (Γs k) c σ H Q
  have hct : PT X e tc := ⟨fun pins s σ H Q I ⟨k, c, j, t⟩ => j.run pins s σ H Q I t⟩
  let tb : TS := fun D' σ H => ∃ k, k < m ∧ tS X.K W F0 H0 (Γs k) (.nx (Γs (k + 1))) D' σ H
  have hbd : PSs X body tb := ⟨fun pins s σ H D' I ⟨k, hk, t⟩ => (hb k hk).run pins s σ H D' I t⟩
  refine ps_imp (ps_while hp hct hbd) fun D' σ H ⟨F, ok, q⟩ => ?_
  refine ⟨fun n σ H => n ≤ m ∧ ∃ F', Ex F F' ∧ Ok X.K F0 H0 F' σ H (Γs (m - n)), ⟨m, Nat.le_refl _, F, Ex.refl _, by rw [Nat.sub_self]; exact ok.le h0⟩, ?_⟩
  rintro n σ H ⟨hn, F', e', ok'⟩
  by_cases h : n = 0
  · subst h
    rw [Nat.sub_zero] at ok'
    exact ⟨m, false, he, F', ok', fun F2 H2 z2 => iteF (q σ F2 H2 (e'.trans z2.f) (ok'.mono z2))⟩
  · have hk : m - n < m := by omega
    refine ⟨m - n, true, hc _ hk, F', ok', fun F2 H2 z2 => iteT ⟨fun σ' H' => ∃ F'', Ex F F'' ∧ Ok X.K F0 H0 F'' σ' H' (Γs (m - n + 1)), fun σ' H' ⟨F'', h1, h2⟩ => ⟨n - 1, by omega, by omega, F'', h1, ?_⟩, m - n, hk, F2, ok'.mono z2, fun σ4 F4 H4 e4 ok4 => ⟨F4, (e'.trans z2.f).trans e4, ok4⟩⟩⟩
    have e1 : m - (n - 1) = m - n + 1 := by omega
    rw [e1]
    exact h2
end
end TB

namespace TB
open PySem L2

/-- the block of a comprehension -/
abbrev Bk (X : Cx) (s : Shared) (H : Hp) (scope : Scope) (C : Addr) (cl : List (Str × Addr)) (fp : List Addr) : Cx := X.blk s H scope (compEnvC scope cl C X.env) fp

section
variable {X : Cx} {W : WX} {F0 H0 : Hp} {Γ : List S} {e elt it : Expr} {pos py : Pos} {n : Str} {ds : List D} {scope : Scope} {i : Nat}

/-- [elt for n in it if ..], one name, at most one test -/
theorem lc_red {K : PySem.W.Frag} {f : D → D} {p : D → Bool} {tt : TT} (ht : ∀ d, d ∈ ds → ∀ σ H Q, tT K F0 H0 (Γ.set i (.d d)) (p d) σ H Q → tt σ H Q) (hl : ds.length < 100000) :
    ∀ σ H Q, tE K W F0 H0 Γ (.o ((ds.filter p).map f)) σ H Q → tLc (tI K F0 H0 Γ ds) (gName i) tt (fun σ H Q => ∃ d, d ∈ ds ∧ p d = true ∧ tE K WF F0 H0 (Γ.set i (.d d)) (.v (f d)) σ H Q) [i] σ H Q := by
  rintro σ H Q ⟨F, ok, q⟩
  refine ⟨F, ok, fun J F1 H1 z1 it1 D nD => ?_⟩
  have ok1 := ok.mono z1
  have nD1 : F1 D = none := z1.s.none nD
  refine ⟨fun k m H2 => m = ds.length - k ∧ k ≤ ds.length ∧ ∃ F2 acc, Fz F1 H1 F2 H2 ∧ H2 D = some (.lst acc) ∧ F2 D = none ∧ DpAll K F2 acc (((ds.take k).filter p).map f), ⟨ds.length, by simp, Nat.zero_le _, F1, [], Fz.fresh z1.s nD, upd_same, nD1, by simp; exact .nil⟩, ?_⟩
  rintro k m H2 ⟨rfl, hk, F2, acc, z2, a1, a2, a3⟩
  obtain ⟨go, stop⟩ := it1 F2 H2 k z2.f z2.s
  by_cases hlt : k < ds.length
  · have hd : ds[k]? = some ds[k] := List.getElem?_eq_getElem hlt
    have hmem : ds[k] ∈ ds := List.getElem_mem hlt
    obtain ⟨g1, g2⟩ := go _ hd
    have htk : ds.take (k + 1) = ds.take k ++ [ds[k]] := by rw [List.take_succ, hd]; rfl
    refine .inr ⟨g1, fun H' => ∃ F3 acc', Fz F1 H1 F3 H' ∧ H' D = some (.lst acc') ∧ F3 D = none ∧ DpAll K F3 acc' (((ds.take (k + 1)).filter p).map f), fun H' h' => ⟨ds.length - (k + 1), by omega, rfl, hlt, h'⟩, fun x H' y => ?_⟩
    obtain ⟨F3, z3, d3⟩ := g2 x H' y
    have a1' := z3.h D _ a1
    have a2' := z3.n D _ a2 a1
    show wipe ((wipe σ [i]).set i (some x)) [i] = wipe σ [i] ∧ _
    refine ⟨by show ((σ.set i none).set i (some x)).set i none = σ.set i none; rw [List.set_set, List.set_set], ht _ hmem _ _ _ ⟨F3, ?_, fun F4 H4 z4 => ?_⟩⟩
    · have o2 := (((ok1.mono z2).mono z3).forget i none).set i d3
      rw [List.set_set (l := Γ)] at o2
      exact o2
    · have b1 := z4.h D _ a1'
      have b2 := z4.n D _ a2' a1'
      cases hp : p ds[k] with
      | false =>
        refine iteF ⟨F4, acc, (z2.trans z3).trans z4, b1, b2, ?_⟩
        rw [htk, List.filter_append, List.filter_cons_of_neg (by rw [hp]; exact Bool.false_ne_true), List.filter_nil, List.append_nil]
        exact da_ex (z3.f.trans z4.f) _ _ a3
      | true =>
        refine iteT ⟨ds[k], hmem, hp, F4, ?_, fun v F5 H5 z5 d5 => ⟨acc, z5.h D _ b1, ?_, F5, acc ++ [v], ?_, upd_same, z5.n D _ b2 b1, ?_⟩⟩
        · have o2 := ((((ok1.mono z2).mono z3).mono z4).forget i none).set i (dp_ex z4.f _ _ d3)
          rw [List.set_set (l := Γ)] at o2
          exact o2
        · rw [da_len a3, List.length_map]
          have h1 := List.length_filter_le p (ds.take k)
          rw [List.length_take] at h1
          exact Nat.lt_of_lt_of_le (by omega : _ < 100000) (by decide)
        · have zz := ((z2.trans z3).trans z4).trans z5
          refine ⟨zz.f, fun c o hc => ?_, fun c o hc => ?_, zz.n⟩
          · rw [upd_ne (ne_of_none hc nD)]
            exact zz.h c o hc
          · rw [upd_ne (ne_of_none hc (z5.n D _ b2 b1))]
            exact zz.s c o hc
        · rw [htk, List.filter_append, List.filter_cons_of_pos (by rw [hp]), List.filter_nil, List.map_append]
          exact da_app (da_ex ((z3.f.trans z4.f).trans z5.f) _ _ a3) (.cons d5 .nil)
  · have hke : k = ds.length := by omega
    refine .inl ⟨stop hke, ?_⟩
    subst hke
    rw [List.take_length] at a3
    exact q D acc F2 H2 (z1.trans z2) (z1.h.none nD) a1 a2 a3
theorem je_lc (i : Nat) {f : D → D} (hc : X.calm = true) (hN : X.N.Nodup) (hi : JI X F0 H0 Γ (.Name n py) it ds) (ok : BlkOk X.N X.env.scope scope [(n, i)]) (hl : ds.length < 100000)
    (hg : ∀ (s : Shared) (H : Hp) (C : Addr) (cl : List (Str × Addr)) (fp : List Addr), PG (Bk X s H scope C cl fp) (.Name n py) (gName i))
    (he : ∀ d, d ∈ ds → ∀ (s : Shared) (H : Hp) (C : Addr) (cl : List (Str × Addr)) (fp : List Addr), JE (Bk X s H scope C cl fp) WF F0 H0 (Γ.set i (.d d)) elt (.v (f d))) (hs : ∀ x, foldedSetIterable it X.env x = pure x := by intro _; rfl) :
    JE X W F0 H0 Γ (.ListComp elt [⟨.Name n py, it, [], 0⟩] scope pos) (.o (ds.map f)) := by
  have hf : ds.filter (fun _ => true) = ds := List.filter_eq_self.mpr fun _ _ => rfl
  have := lc_red (K := X.K) (W := W) (F0 := F0) (H0 := H0) (Γ := Γ) (ds := ds) (i := i) (f := f) (p := fun _ => true) (tt := tYes) (fun d _ σ H Q ⟨F, o, q⟩ => q F H (Fz.refl o.fh)) hl
  rw [hf] at this
  exact pe_imp (pe_lc (own := [(n, i)]) hc hN hi ok hg (fun _ _ _ _ _ => pts_nil) (fun s H C cl fp => ⟨fun pins s' σ H' Q I ⟨d, hd, _, t⟩ => (he d hd s H C cl fp).run pins s' σ H' Q I t⟩) hs) this
end

/-! ### a def -/
/-- does the body's end fit the promise -/
def Fits : Out → SO → Prop
  | .v x, .rt y => x = y
  | .v x, .nx _ => x = .none
  | .v x, .rto es => x = .list es
  | .o ds, .rto es => ds = es
  | .x c, .x c' _ => c = c'
  | .q t, .rtq t' => t = t'
  | .xf c f x, .xf c' f' x' _ => c = c' ∧ f = f' ∧ x = x'
  | _, _ => False
def begin_ (N : List Str) (ds : List D) : List S := ds.map S.d ++ List.replicate (N.length - ds.length) S.u
theorem ok_start {K : PySem.W.Frag} {F H : Hp} {N : List Str} {vs : List V} {ds : List D} (s : Ex F H) (d : DpAll K F vs ds) : Ok K F H F (L2.start N vs) H (begin_ N ds) := by
  have hl := da_len d
  refine ⟨List.replicate (begin_ N ds).length [], Fz.refl s, by unfold L2.start begin_; simp [hl], by rw [List.length_replicate], fun i t fp e e2 => ?_, fun i j f g a e1 e2 m1 m2 => ?_⟩
  · have := (List.mem_replicate.mp (List.mem_of_getElem? e2)).2
    subst this
    unfold begin_ at e
    unfold L2.start
    by_cases h : i < ds.length
    · rw [List.getElem?_append_left (by rw [List.length_map]; exact h), List.getElem?_map] at e
      rw [List.getElem?_append_left (by rw [List.length_map, hl]; exact h), List.getElem?_map]
      cases q : ds[i]? with
      | none => rw [q] at e; cases e
      | some x =>
        rw [q] at e
        cases e
        obtain ⟨v, k1, k2⟩ := da_get d q
        rw [k1]
        exact ⟨k2, rfl⟩
    · rw [List.getElem?_append_right (by rw [List.length_map]; omega)] at e
      have := List.mem_of_getElem? e
      rw [(List.mem_replicate.mp this).2]
      cases (vs.map some ++ List.replicate (N.length - vs.length) none)[i]? with
      | none => rfl
      | some o => cases o <;> rfl
  · have := (List.mem_replicate.mp (List.mem_of_getElem? e1)).2
    subst this
    cases m1
section
variable {P : Program} {w : World} {K : PySem.W.Frag} {mg : Str → Option Value} {base : Heap}
abbrev XO (P : Program) (w : World) (K : PySem.W.Frag) (mg : Str → Option Value) (base : Heap) (N : List Str) (qual : Str) (st : Stmt) (f : Addr) (cdv : Value) (A : Around) (outer : List Env) (s : Shared) (H : Hp) (E : XK) : Cx := cxOf (L2.CX P w) P w K mg base N qual (defScope st) f cdv A outer s H E
/-- a body's end fits what is asked behind the call -/
theorem fits_po {F H : Hp} {Q : VK} {E : XK} {o : Out} {so : SO} {D' : Ends} {W : WX} (po : Po K F H Q E o) (ft : Fits o so) (h1 : ∀ v H', Q v H' → D'.rt v H' := by exact fun _ _ h => h) (h2 : ∀ σ H', Q .non H' → D'.nx σ H' := by exact fun _ _ h => h) (h3 : ∀ c d σ H', E c d H' → W c d σ H' := by exact fun _ _ _ _ h => h) : PSo K W F H F D' so := by
  cases o with
  | v x =>
    cases so with
    | nx g =>
      have ft' : x = .none := ft
      subst ft'
      exact fun σ' F' H' e ok => h2 _ _ (po _ F' H' ok.base .non)
    | rt y =>
      have ft' : x = y := ft
      subst ft'
      exact fun v F' H' e z d => h1 _ _ (po v F' H' z d)
    | rto es =>
      have ft' : x = .list es := ft
      subst ft'
      intro p xs F' H' e z n1 n2 n3 d
      obtain ⟨k1, k2⟩ := Fz.freeze z.s n2 n3
      refine h1 _ _ (po (.ref p) (upd F' p (.lst xs)) H' ⟨z.f.trans k1, z.h, k2, fun c o c1 c2 => ?_⟩ (.lst (SqL.of upd_same) (da_ex k1 _ _ d)))
      have ne : c ≠ p := ne_of_none c2 n1
      rw [upd_ne ne]
      exact z.n c o c1 c2
    | _ => exact (show False from ft).elim
  | o ds =>
    cases so with
    | rto es =>
      have ft' : ds = es := ft
      subst ft'
      exact fun p xs F' H' e z n1 n2 n3 d => h1 _ _ (po p xs F' H' z n1 n2 n3 d)
    | _ => exact (show False from ft).elim
  | x c =>
    cases so with
    | x c' g =>
      have ft' : c = c' := ft
      subst ft'
      exact fun σ' F' H' e ok => h3 _ _ _ _ (po F' H' ok.base)
    | _ => exact (show False from ft).elim
  | q t =>
    cases so with
    | rtq t' =>
      have ft' : t = t' := ft
      subst ft'
      exact fun v fp F' H' e z o nd n => h1 _ _ (po v fp F' H' z o nd n)
    | _ => exact (show False from ft).elim
  | xf c f x =>
    cases so with
    | xf c' f' x' g =>
      obtain ⟨e1, e2, e3⟩ : c = c' ∧ f = f' ∧ x = x' := ft
      subst e1 e2 e3
      exact fun d v σ' F' H' e ok n1 n2 dp => h3 _ _ _ _ (po d v F' H' ok.base n1 n2 dp)
    | _ => exact (show False from ft).elim
theorem fn_ok {x qual : Str} {st : Stmt} {f : Addr} {fd : FuncData} {N ps : List Str} {k : Nat} {R : List D → Out → Prop} (Fn : Fun K x qual st f fd) (Sc : FnScope N ps (defScope st)) (hlen : ∀ ds o, R ds o → ds.length = ps.length)
    (hb : ∀ (cdv : Value) (A : Around) (outer : List Env) (s : Shared) (H : Hp) (E : XK) (F : Hp) (ds : List D) (o : Out), Room k (A.deeper (PyProof.Rows.envOfC qual (defScope st) s.heap.objs.size f cdv)) →
      L2.Takes (XO P w K mg base N qual st f cdv A outer s H E) (fun cls d _ H => E cls d H) → PassesOwn (model P w) (XO P w K mg base N qual st f cdv A outer s H E).A (XO P w K mg base N qual st f cdv A outer s H E).env (XO P w K mg base N qual st f cdv A outer s H E).xe → R ds o →
      ∃ so, JSs (XO P w K mg base N qual st f cdv A outer s H E) (fun cls d _ H => E cls d H) F H (begin_ N ds) (defBody st) so ∧ Fits o so) : FnOk P w K mg base (L2.CX P w) (k + 1) f fd ps (spD K R) := by
  refine Fn.okX Sc (fun vs H Q E ⟨F, ds, o, _, d, r, _⟩ => (da_len d).trans (hlen ds o r)) fun cdv A outer s H vs Q E hr ⟨F, ds, o, s1, d, r, po⟩ => ?_
  obtain ⟨so, j, ft⟩ := hb cdv A outer s H E F ds o hr (takes_of rfl rfl rfl rfl) (passes_of (E₁ := fun e' s'' => L2.CX P w outer H s E e' s'') rfl) r
  refine ⟨_, j, F, ok_start s1 d, ?_⟩
  exact fits_po po ft
end
/-! ### raise -/
/-- what of the text an own error class must have -/
structure ExF (K : PySem.W.Frag) (mg : Str → Option Value) (n : Str) (C : Addr) : Prop where
  g : mg n = some (.ref C)
  x : PySem.W.excIn K C [.type "ValueError", .type "Exception", .type "BaseException", .type "object"] "ValueError.__new__" = true
  k : PySem.W.keepIn K (.ref C) = true
  b : PySem.W.subIn K (.ref C) (.type "BaseException") = some true
  t : PySem.W.typeIn K (.ref C) = some (.type "type")
theorem js_raise {X : Cx} {W : WX} {F0 H0 : Hp} {Γ : List S} {n m : Str} {C : Addr} {j : Nat} {p p2 pos pos2 : Pos} (T : ExF X.K X.mg n C) (hc : X.calm = true) (tk : L2.Takes X W) (hg : Gl X n := by rfl) (hdb : (n == ("__debug__" : Str)) = false := by decide) :
    JS X W F0 H0 Γ (.Raise (some (.Call (.Name n p) [.Constant (.str m) j p2] [] pos)) none pos2) (.x C Γ) :=
  ps_imp (ps_raise hc tk (pmk_own PySem.F.excBase_ValueError T.x T.g T.k (raises_own T.b T.t) hg hdb)) fun D' σ H ⟨F, ok, q⟩ => q σ F H (Ex.refl _) ok
end TB

namespace TB
open PySem PySem.Spec PyProof.Rows L2

/-! ### {elt for n in it}, elt an int: the new set is tracked as SetO -/
section
variable {X : Cx}
theorem addI {pins : List (Addr × Obj)} {σ : L2.St} {H : Hp} {s : Shared} {E : Value → Shared → Prop} {D : Addr} {M : Int → Bool} {n : Nat} {y : Int} {tk : Tok} {Q : Value → Shared → Prop}
    (I : Inv X pins σ H s) (hD : H D = some (SetO X.w D M n)) (room : n + 1 < scanBound)
    (h : ∀ s', Inv X pins σ (upd H D (SetO X.w D (fun j => M j || decide (j = y)) (if M y = true then n else n + 1))) s' → Q .none s') : wpAny (model X.prog X.w) X.A (call (.builtin "set.add") [.ref D, .int y tk]) Q E s := by
  refine setR_add (setO_get I hD) room fun h' same isnow => ?_
  have alive : ∃ u, h'.get? D = some u := ⟨_, isnow.choose_spec.choose_spec.choose_spec.choose_spec.1⟩
  exact h _ (I.write (e := D) (t' := s.toks + 1) (by rw [hD]; trivial) (.inl rfl) (fun b u hb hu => (same.2 b hb).trans hu) alive (setO_new isnow))
/-- the reading: as tLc's, over a set of ints -/
def tSi (w : World) (wi : TI) (g : TG) (te : TE) (vs : List Nat) : TE := fun σ H Q => wi σ H fun J H1 => ∀ D, H1 D = none → ∃ V' : Nat → Nat → Hp → Prop, (∃ m, V' 0 m (upd H1 D (SetO w D (fun _ => false) 0))) ∧ ∀ i m H, V' i m H →
  (J.stop i H ∧ Q (.ref D) H) ∨ (J.go i H ∧ ∃ Nx : Hp → Prop, (∀ H', Nx H' → ∃ m', m' < m ∧ V' (i + 1) m' H') ∧ ∀ x H', J.yld i H x H' → g x (wipe σ vs) H' fun σ2 H2 => wipe σ2 vs = wipe σ vs ∧
    te σ2 H2 fun y H4 => ∃ (c : Int) (M : Int → Bool) (n : Nat), y = .int c ∧ H4 D = some (SetO w D M n) ∧ n + 1 < scanBound ∧ Nx (upd H4 D (SetO w D (fun j => M j || decide (j = c)) (if M c = true then n else n + 1))))
theorem pe_sci {elt tg iter : Expr} {scope : Scope} {own : List (PySem.Str × Nat)} {pos : Pos} {wi : TI} {g : TG} {te : TE} (hc : X.calm = true) (hN : X.N.Nodup) (hi : PI X tg iter wi) (ok : BlkOk X.N X.env.scope scope own)
    (hg : ∀ (s : Shared) (H : Hp) (C : Addr) (cl : List (PySem.Str × Addr)) (fp : List Addr), PG (Bk X s H scope C cl fp) tg g)
    (he : ∀ (s : Shared) (H : Hp) (C : Addr) (cl : List (PySem.Str × Addr)) (fp : List Addr), PE (Bk X s H scope C cl fp) elt te) (hs : ∀ x, foldedSetIterable iter X.env x = pure x := by intro _; rfl) :
    PE X (.SetComp elt [⟨tg, iter, [], 0⟩] scope pos) (tSi X.w wi g te (own.map (·.2))) := by
  refine ⟨fun pins s0 σ H Q I0 hq => ?_⟩
  rw [PpSet.eval_SetComp]
  have capt : ∀ y ∈ scope.names, y.2 = .free → ∃ c, X.env.cells.lookup y.1 = some c := fun y hy e => (ok.free y hy e).elim (fun k => I0.ok.has _ (.inl k)) (fun k => I0.ok.has _ (.inr k))
  refine wpAny_comprehension_free rfl hs (closure_ok capt) ok.kind (fun y hy e => by rw [ok.uniq y hy, e]) (thn (hi.run pins s0 σ H _ I0 hq) fun xv sa ha => thn ha fun itv sb hb => ?_)
  obtain ⟨it, fp, tn, J, Hb, eit, Ib, T, stb, fb, kq⟩ := hb
  subst eit
  refine PpSet.newSet_ok (newEnv_comp ?_)
  generalize hD : sb.heap.objs.size = D
  obtain ⟨V', ⟨mz, wz⟩, turn⟩ := kq D (Ib.hok.fresh (Nat.le_of_eq hD))
  generalize hsc : ({ sb with heap := sb.heap.push { cls := .type "set", dict := none, data := .set #[] 0 (.fresh 0 0 (!X.w.params.followText "set-order")) } } : Shared) = sc
  have hsh : sc.heap = sb.heap.push { cls := .type "set", dict := none, data := .set #[] 0 (.fresh 0 0 (!X.w.params.followText "set-order")) } := by rw [← hsc]
  have Ic : Inv X pins σ (upd Hb D (SetO X.w D (fun _ => false) 0)) sc := by
    rw [← hsc]
    refine Ib.laid (t' := sb.toks) (fun b o e => Heap.get?_push_of_some _ e) (Nat.le_of_eq hD) ?_
    rw [← hD]; exact setO_new (setR_fresh X.w)
  have small : ∀ b ∈ fp, b < sb.heap.objs.size := fun b hbm => by
    obtain ⟨o, e, _⟩ := T.obj _ _ stb b hbm; exact Heap.lt_size e
  have fc : ∀ b ∈ fp, FpOk X pins (upd Hb D (SetO X.w D (fun _ => false) 0)) b ∧ b < sc.heap.objs.size := fun b hbm => by
    have hlt := small b hbm
    refine ⟨⟨?_, (fb b hbm).2⟩, by rw [hsh, Heap.size_push]; exact Nat.lt_succ_of_lt hlt⟩
    rw [upd_ne (by rw [← hD]; exact Nat.ne_of_lt hlt)]; exact (fb b hbm).1
  have stc : tn 0 sc.heap := T.keep _ _ _ stb fun b _ o e => by rw [hsh]; exact Heap.get?_push_of_some _ e
  have Id := block_start Ic ok hN fc
  have pg : PG (X.blk sc (upd Hb D (SetO X.w D (fun _ => false) 0)) scope (compEnvC scope (cellsFrom (sc.heap.objs.size + 1) scope.names (cloFrom X.env.cells scope.names [])) sc.heap.objs.size X.env) fp) tg g := hg sc (upd Hb D (SetO X.w D (fun _ => false) 0)) sc.heap.objs.size (cellsFrom (sc.heap.objs.size + 1) scope.names (cloFrom X.env.cells scope.names [])) fp
  have pe : PE (X.blk sc (upd Hb D (SetO X.w D (fun _ => false) 0)) scope (compEnvC scope (cellsFrom (sc.heap.objs.size + 1) scope.names (cloFrom X.env.cells scope.names [])) sc.heap.objs.size X.env) fp) elt te := he sc (upd Hb D (SetO X.w D (fun _ => false) 0)) sc.heap.objs.size (cellsFrom (sc.heap.objs.size + 1) scope.names (cloFrom X.env.cells scope.names [])) fp
  show codeAny _ _ (.compStart (.SetComp elt [⟨tg, iter, [], 0⟩] scope pos) 0 (.ref it) (.ref D) (compEnvC scope (cellsFrom (sc.heap.objs.size + 1) scope.names (cloFrom X.env.cells scope.names [])) sc.heap.objs.size X.env)) (compPost (model X.prog X.w) X.A X.xe none (EP X pins σ Q) (.ref D) sc.heap.objs.size) { sc with heap := pushCells (sc.heap.push { cls := .type "dict", data := .dict #[] }) scope.names }
  have nofp : ∀ b ∈ fp, (upd Hb D (SetO X.w D (fun _ => false) 0)) b = none := fun b hbm => (fc b hbm).1.1
  generalize hce : compEnvC scope (cellsFrom (sc.heap.objs.size + 1) scope.names (cloFrom X.env.cells scope.names [])) sc.heap.objs.size X.env = ce at Id pg pe ⊢
  have cL : ce.locals = sc.heap.objs.size := by subst hce; rfl
  generalize hHc : upd Hb D (SetO X.w D (fun _ => false) 0) = Hc at Ic Id pg pe wz nofp fc
  generalize hsd : ({ sc with heap := pushCells (sc.heap.push { cls := .type "dict", data := .dict #[] }) scope.names } : Shared) = sd at Id ⊢
  have std : tn 0 sd.heap := T.keep _ _ _ stc fun b _ o e => by rw [← hsd]; exact pushCells_keeps _ _ _ _ (Heap.get?_push_of_some _ e)
  have still : ∀ {σ' : L2.St} {H' : Hp} {s' : Shared}, Inv (X.blk sc Hc scope ce fp) [] σ' H' s' → (∀ b ∈ fp, H' b = none) → ∀ b ∈ fp, FpOk (X.blk sc Hc scope ce fp) [] H' b := fun {σ' H' s'} I' hn b hbm =>
    ⟨hn b hbm, (I'.ok.exf b hbm).1, I'.ok.exfs b hbm, .inl hbm, fun x c e => (I'.ok.exf b hbm).2 x c e, fun p hp => absurd (show p ∈ ([] : List (Addr × Obj)) ++ [] from hp) (by simp)⟩
  have loop : codeAny (model X.prog X.w) X.A (.compLoop (.SetComp elt [⟨tg, iter, [], 0⟩] scope pos) 0 (.ref it) (.ref D) ce) (compPost (model X.prog X.w) X.A X.xe none (EP X pins σ Q) (.ref D) sc.heap.objs.size) sd := by
    refine PpSet.compLoopS_any (fun n s' => ∃ i H', Inv (X.blk sc Hc scope ce fp) [] (wipe σ (own.map (·.2))) H' s' ∧ tn i s'.heap ∧ (∀ b ∈ fp, H' b = none) ∧ V' i n H') ?_ mz ⟨0, Hc, Id, std, nofp, wz⟩
    rintro n se ⟨i, He, Ie, ste, ne, we⟩
    rcases turn i n He we with ⟨stop, qq⟩ | ⟨go, Nx, hNx, step⟩
    · refine thnF (T.done (X.blk sc Hc scope ce fp) rfl rfl rfl hc i [] se _ He (fun _ _ => False) Ie (still Ie ne) ste stop) fun r sf ⟨hr, If⟩ => ?_
      subst hr
      have Ig : Inv X pins σ He sf := Ic.call' (ch := fp) If.os If.base If.hok If.bare fun b hbm => ⟨(fc b hbm).1.2.2.2.1, (fc b hbm).1.2.1, (fc b hbm).1.2.2.2.2.1, (fc b hbm).1.2.2.2.2.2⟩
      have nC : He sc.heap.objs.size = none := by rw [← cL]; exact If.free
      obtain ⟨m, hn, _⟩ := If.loc
      have hn : sf.heap.Ns sc.heap.objs.size m := by rw [← cL]; exact hn
      obtain ⟨f0, f1, f2, f3, f4, f5⟩ := Ic.fpOk (Nat.le_refl _) nC
      exact ⟨m, hn, fun h'' same => ⟨.ref D, He, Ig.turned (t' := sf.toks) (fun b o hb e => (same.2 b hb).trans e) f0 f1 f3 f4 f5, rfl, qq⟩⟩
    · refine thnF (T.item (X.blk sc Hc scope ce fp) rfl rfl rfl hc i [] se _ He (fun _ _ => False) Ie (still Ie ne) ste go) fun r sf ⟨u, hr, hf⟩ => ?_
      subst hr
      refine thnF hf fun _ sg ⟨x, Hg, Ig, rg, yg, stg, ng⟩ => ?_
      refine thnF (pg.run _ sg _ Hg x u _ (Ig.pinned (still Ig ng) (T.obj _ _ stg)) rg (step x Hg yg)) fun _ sk ⟨σk, Hk, Ik, hwk, qk⟩ => ?_
      refine wpAny_tests_nil ?_
      simp only [if_true]
      refine thnF (pe.run _ sk σk Hk _ Ik qk) fun z sl ⟨yv, Hl, Il, rl, cb, M0, n0, ey, hDl, hzl, nx⟩ => ?_
      subst ey
      obtain ⟨tk, ez⟩ := rl
      subst ez
      refine addI (X := X.blk sc Hc scope ce fp) Il hDl hzl fun sm Im => ?_
      obtain ⟨m', hm, w'⟩ := hNx _ nx
      have pinned : ∀ b ∈ fp, ∀ o, sg.heap.get? b = some o → sm.heap.get? b = some o ∧ upd Hl D (SetO X.w D (fun j => M0 j || decide (j = cb)) (if M0 cb = true then n0 else n0 + 1)) b = none := fun b hbm o e =>
        ⟨(Im.pin (b, o) (List.mem_append_right _ (List.mem_append_right _ (mem_pinsAt hbm e)))).1, (Im.pin (b, o) (List.mem_append_right _ (List.mem_append_right _ (mem_pinsAt hbm e)))).2.1⟩
      refine ⟨m', hm, i + 1, _, (Im.unpinned (pins := [])).weak (by rw [← hwk, wipe_length]) (fun j v e => ?_), T.keep _ _ _ stg fun b hbm o e => (pinned b hbm o e).1, fun b hbm => ?_, w'⟩
      · rw [← hwk] at e; exact (wipe_some e).1
      · obtain ⟨o, e, _⟩ := T.obj _ _ stg b hbm; exact (pinned b hbm o e).2
  exact PpSet.codeAny_compStart_set loop (T.self X.A 0 _ _ _ std loop)
/-- len of such a set -/
theorem call_lenSi : CallR X (.builtin "len") (fun xs H Q => ∃ a M n, xs = [.ref a] ∧ H a = some (SetO X.w a M n) ∧ n < scanBound ∧ Q (.int n) H) := by
  intro pins s σ H xs us Q I r h
  obtain ⟨a, M, n, rfl, hs, hn, q⟩ := h
  obtain ⟨u, rfl, rx⟩ := vals1 r
  cases rx
  have sets : s.heap.SetOf (intKind X.prog X.w) a M n := (setO_get I hs).setOf
  obtain ⟨o, es, ep, t, ho, hex, hd, _, _, hb, hf, hm⟩ := sets
  refine call_len_set ho hex hd hf (by unfold scanBound at hn; omega) ⟨.int n, H, I.tok _, ⟨_, by rw [hm]⟩, q⟩
end
/-- how many different ones -/
def cntR : List Int → Nat
  | [] => 0
  | x :: xs => if x ∈ xs then cntR xs else cntR xs + 1
theorem cntR_le : ∀ l : List Int, cntR l ≤ l.length
  | [] => Nat.le_refl _
  | x :: xs => by
    have := cntR_le xs
    unfold cntR
    rw [List.length_cons]
    split <;> omega
section
variable {X : Cx} {W : WX} {F0 H0 : Hp} {Γ : List S} {elt it : Expr} {pos pos2 py : Pos} {n : Str} {ds : List D} {scope : Scope} {np : Pos}
/-- len({elt for n in it}), ints -/
theorem je_lenSc (i : Nat) {f : D → Int} (hc : X.calm = true) (hN : X.N.Nodup) (hm : X.mg "len" = none) (hi : JI X F0 H0 Γ (.Name n py) it ds) (ok : BlkOk X.N X.env.scope scope [(n, i)]) (hl : ds.length < 1000)
    (hg : ∀ (s : Shared) (H : Hp) (C : Addr) (cl : List (Str × Addr)) (fp : List Addr), PG (Bk X s H scope C cl fp) (.Name n py) (gName i))
    (he : ∀ d, d ∈ ds → ∀ (s : Shared) (H : Hp) (C : Addr) (cl : List (Str × Addr)) (fp : List Addr), JE (Bk X s H scope C cl fp) WF F0 H0 (Γ.set i (.d d)) elt (.v (.int (f d))))
    (hgl : Gl X "len" := by rfl) (hs : ∀ x, foldedSetIterable it X.env x = pure x := by intro _; rfl)
    (s1 : starEach [.SetComp elt [⟨.Name n py, it, [], 0⟩] scope pos] X.env = (false, eval (.SetComp elt [⟨.Name n py, it, [], 0⟩] scope pos) X.env) :: starEach [] X.env := by rfl) :
    JE X W F0 H0 Γ (.Call (.Name "len" np) [.SetComp elt [⟨.Name n py, it, [], 0⟩] scope pos] [] pos2) (.v (.int (cntR (ds.map f).reverse))) := by
  have set_ : PE X (.SetComp elt [⟨.Name n py, it, [], 0⟩] scope pos) _ := pe_sci (own := [(n, i)]) (te := fun σ H Q => ∃ d, d ∈ ds ∧ tE X.K WF F0 H0 (Γ.set i (.d d)) (.v (.int (f d))) σ H Q) hc hN hi ok hg
    (fun s H C cl fp => ⟨fun pins s' σ H' Q I ⟨d, hd, t⟩ => (he d hd s H C cl fp).run pins s' σ H' Q I t⟩) hs
  refine pe_imp (pe_callB call_lenSi hgl hm PySem.boot_len (pa_cons set_ pa_nil s1) (by decide) (by decide) s1) fun σ H Q ⟨F, ok, q⟩ => ⟨F, ok, fun J F1 H1 z1 it1 D nD => ?_⟩
  have ok1 := ok.mono z1
  refine ⟨fun k m H2 => m = ds.length - k ∧ k ≤ ds.length ∧ ∃ F2, Fz F1 H1 F2 H2 ∧ F2 D = none ∧ H2 D = some (SetO X.w D (fun j => decide (j ∈ ((ds.take k).map f).reverse)) (cntR ((ds.take k).map f).reverse)), ⟨ds.length, by simp, Nat.zero_le _, F1, Fz.fresh z1.s nD, z1.s.none nD, by
    rw [upd_same]
    simp only [List.take_zero, List.map_nil, List.reverse_nil, List.not_mem_nil, decide_false, cntR]⟩, ?_⟩
  rintro k m H2 ⟨rfl, hk, F2, z2, a2, a1⟩
  obtain ⟨go, stop⟩ := it1 F2 H2 k z2.f z2.s
  have hcl : cntR ((ds.take k).map f).reverse ≤ ds.length := Nat.le_trans (cntR_le _) (by simp; omega)
  have hb : cntR ((ds.take k).map f).reverse + 1 < scanBound := by unfold scanBound; omega
  by_cases hlt : k < ds.length
  · have hd : ds[k]? = some ds[k] := List.getElem?_eq_getElem hlt
    have hmem : ds[k] ∈ ds := List.getElem_mem hlt
    obtain ⟨g1, g2⟩ := go _ hd
    have htk : ((ds.take (k + 1)).map f).reverse = f ds[k] :: ((ds.take k).map f).reverse := by
      rw [List.take_succ, hd, List.map_append, List.reverse_append]
      rfl
    refine .inr ⟨g1, fun H' => ∃ F3, Fz F1 H1 F3 H' ∧ F3 D = none ∧ H' D = some (SetO X.w D (fun j => decide (j ∈ ((ds.take (k + 1)).map f).reverse)) (cntR ((ds.take (k + 1)).map f).reverse)), fun H' h' => ⟨ds.length - (k + 1), by omega, rfl, hlt, h'⟩, fun x H' y => ?_⟩
    obtain ⟨F3, z3, d3⟩ := g2 x H' y
    show wipe ((wipe σ [i]).set i (some x)) [i] = wipe σ [i] ∧ _
    refine ⟨by show ((σ.set i none).set i (some x)).set i none = σ.set i none; rw [List.set_set, List.set_set], ds[k], hmem, F3, ?_, fun v F4 H4 z4 d4 => ?_⟩
    · have o2 := (((ok1.mono z2).mono z3).forget i none).set i d3
      rw [List.set_set (l := Γ)] at o2
      exact o2
    · cases d4
      refine ⟨_, _, _, rfl, z4.h D _ (z3.h D _ a1), hb, F4, ?_, z4.n D _ (z3.n D _ a2 a1) (z3.h D _ a1), ?_⟩
      · have zz := (z2.trans z3).trans z4
        refine ⟨zz.f, fun c o hc => ?_, fun c o hc => ?_, zz.n⟩
        · rw [upd_ne (ne_of_none hc nD)]
          exact zz.h c o hc
        · rw [upd_ne (ne_of_none hc (z4.n D _ (z3.n D _ a2 a1) (z3.h D _ a1)))]
          exact zz.s c o hc
      · rw [upd_same, htk]
        have e1 : (fun j => decide (j ∈ ((ds.take k).map f).reverse) || decide (j = f ds[k])) = fun j => decide (j ∈ f ds[k] :: ((ds.take k).map f).reverse) := by
          funext j
          rw [Bool.eq_iff_iff]
          simp only [Bool.or_eq_true, decide_eq_true_eq, List.mem_cons]
          exact Or.comm
        rw [e1]
        have e2 : (if decide (f ds[k] ∈ ((ds.take k).map f).reverse) = true then cntR ((ds.take k).map f).reverse else cntR ((ds.take k).map f).reverse + 1) = cntR (f ds[k] :: ((ds.take k).map f).reverse) := by
          show _ = if f ds[k] ∈ _ then _ else _
          by_cases hh : f ds[k] ∈ ((ds.take k).map f).reverse
          · rw [if_pos hh, if_pos (decide_eq_true hh)]
          · rw [if_neg hh, if_neg (by rw [decide_eq_false hh]; exact Bool.false_ne_true)]
        rw [e2]
  · have hke : k = ds.length := by omega
    subst hke
    rw [List.take_length] at a1 hb
    exact .inl ⟨stop rfl, D, _, _, rfl, a1, by omega, q _ F2 H2 (z1.trans z2) (.int _)⟩
end
end TB
namespace TB
open PySem L2
def ofI : D → Int
  | .int n => n
  | _ => 0
section
variable {X : Cx} {W : WX} {F0 H0 : Hp} {Γ : List S} {elt it a b e : Expr} {pos pos2 py : Pos} {n : Str} {ns : List Int} {scope : Scope} {np : Pos} {i j : Int}
theorem je_lenScI (i : Nat) {f : Int → Int} (hc : X.calm = true) (hN : X.N.Nodup) (hm : X.mg "len" = none) (hi : JI X F0 H0 Γ (.Name n py) it (ns.map .int)) (ok : BlkOk X.N X.env.scope scope [(n, i)]) (hl : ns.length < 1000)
    (hg : ∀ (s : Shared) (H : Hp) (C : Addr) (cl : List (Str × Addr)) (fp : List Addr), PG (Bk X s H scope C cl fp) (.Name n py) (gName i))
    (he : ∀ k : Int, k ∈ ns → ∀ (s : Shared) (H : Hp) (C : Addr) (cl : List (Str × Addr)) (fp : List Addr), JE (Bk X s H scope C cl fp) WF F0 H0 (Γ.set i (.d (.int k))) elt (.v (.int (f k))))
    (hgl : Gl X "len" := by rfl) (hs : ∀ x, foldedSetIterable it X.env x = pure x := by intro _; rfl)
    (s1 : starEach [.SetComp elt [⟨.Name n py, it, [], 0⟩] scope pos] X.env = (false, eval (.SetComp elt [⟨.Name n py, it, [], 0⟩] scope pos) X.env) :: starEach [] X.env := by rfl) :
    JE X W F0 H0 Γ (.Call (.Name "len" np) [.SetComp elt [⟨.Name n py, it, [], 0⟩] scope pos] [] pos2) (.v (.int (cntR (ns.map f).reverse))) := by
  have q := je_lenSc (W := W) (np := np) (pos2 := pos2) i (f := fun d => f (ofI d)) hc hN hm hi ok (by rw [List.length_map]; exact hl) hg (fun d hd s H C cl fp => by
    obtain ⟨k, hk, rfl⟩ := List.mem_map.mp hd
    exact he k hk s H C cl fp) hgl hs s1
  rw [List.map_map] at q
  exact q
theorem je_lcR (i : Nat) {lo : Int} {m : Nat} {f : Nat → D} (hc : X.calm = true) (hN : X.N.Nodup) (hi : JI X F0 H0 Γ (.Name n py) it (rngD lo m)) (ok : BlkOk X.N X.env.scope scope [(n, i)]) (hl : m < 100000)
    (hg : ∀ (s : Shared) (H : Hp) (C : Addr) (cl : List (Str × Addr)) (fp : List Addr), PG (Bk X s H scope C cl fp) (.Name n py) (gName i))
    (he : ∀ k : Nat, k < m → ∀ (s : Shared) (H : Hp) (C : Addr) (cl : List (Str × Addr)) (fp : List Addr), JE (Bk X s H scope C cl fp) WF F0 H0 (Γ.set i (.d (.int (lo + (k : Nat))))) elt (.v (f k))) (hs : ∀ x, foldedSetIterable it X.env x = pure x := by intro _; rfl) :
    JE X W F0 H0 Γ (.ListComp elt [⟨.Name n py, it, [], 0⟩] scope pos) (.o ((List.range m).map f)) := by
  have q := je_lc (W := W) (pos := pos) i (f := fun d => f (ofI d - lo).toNat) hc hN hi ok (by rw [rngD_len]; exact hl) hg (fun d hd s H C cl fp => by
    unfold rngD at hd
    obtain ⟨k, hk, rfl⟩ := List.mem_map.mp hd
    have e : (ofI (.int (lo + (k : Nat))) - lo).toNat = k := by show (lo + (k : Int) - lo).toNat = k; omega
    rw [e]
    exact he k (List.mem_range.mp hk) s H C cl fp) hs
  unfold rngD at q
  rw [List.map_map] at q
  have e : ((fun d => f (ofI d - lo).toNat) ∘ fun (i : Nat) => PyData.int (lo + (i : Nat))) = f := by
    funext k
    show f (lo + (k : Int) - lo).toNat = f k
    congr 1
    omega
  rw [e] at q
  exact q
/-- ints compared -/
theorem rd_eqI {K : PySem.W.Frag} : RD K rEq (.int i) (.int j) (.bool (decide (i = j))) := fun v u F H Q s d1 d2 q => by
  cases d1; cases d2
  refine ⟨rfl, ?_⟩
  have e : decide (V.int i = V.int j) = decide (i = j) := by rw [dec_int, Bool.beq_eq_decide_eq]
  rw [e]
  exact q _ F H (Fz.refl s) (.bl _)
theorem rd_neI {K : PySem.W.Frag} : RD K rNe (.int i) (.int j) (.bool (decide (i ≠ j))) := fun v u F H Q s d1 d2 q => by
  cases d1; cases d2
  refine ⟨rfl, ?_⟩
  have e : (!decide (V.int i = V.int j)) = decide (i ≠ j) := by rw [dec_int, Bool.beq_eq_decide_eq, decide_not]
  rw [e]
  exact q _ F H (Fz.refl s) (.bl _)
theorem je_eqI (ha : JE X W F0 H0 Γ a (.v (.int i))) (hb : JE X W F0 H0 Γ b (.v (.int j))) : JE X W F0 H0 Γ (.Compare a [.Eq] [b] pos) (.v (.bool (decide (i = j)))) := je_cmp op_eq rd_eqI ha hb (nomark _)
theorem jt_eqI (ha : JE X WF F0 H0 Γ a (.v (.int i))) (hb : JE X WF F0 H0 Γ b (.v (.int j))) : JT X F0 H0 Γ (.Compare a [.Eq] [b] pos) (decide (i = j)) := jt_cmp op_eq rd_eqI ha hb (nomark _)
theorem jt_neI (ha : JE X WF F0 H0 Γ a (.v (.int i))) (hb : JE X WF F0 H0 Γ b (.v (.int j))) : JT X F0 H0 Γ (.Compare a [.NotEq] [b] pos) (decide (i ≠ j)) := jt_cmp op_ne rd_neI ha hb (nomark _)
theorem jt_lt (ha : JE X WF F0 H0 Γ a (.v (.int i))) (hb : JE X WF F0 H0 Γ b (.v (.int j))) : JT X F0 H0 Γ (.Compare a [.Lt] [b] pos) (decide (i < j)) := jt_cmp op_lt rd_B0 ha hb (nomark _)
theorem jt_le (ha : JE X WF F0 H0 Γ a (.v (.int i))) (hb : JE X WF F0 H0 Γ b (.v (.int j))) : JT X F0 H0 Γ (.Compare a [.LtE] [b] pos) (decide (i ≤ j)) := jt_cmp op_le rd_B0 ha hb (nomark _)
theorem jt_gt (ha : JE X WF F0 H0 Γ a (.v (.int i))) (hb : JE X WF F0 H0 Γ b (.v (.int j))) : JT X F0 H0 Γ (.Compare a [.Gt] [b] pos) (decide (j < i)) := jt_cmp op_gt rd_B0 ha hb (nomark _)
theorem jt_ge (ha : JE X WF F0 H0 Γ a (.v (.int i))) (hb : JE X WF F0 H0 Γ b (.v (.int j))) : JT X F0 H0 Γ (.Compare a [.GtE] [b] pos) (decide (j ≤ i)) := jt_cmp op_ge rd_B0 ha hb (nomark _)
theorem jt_eqD {x y : D} (hu : X.A.units + 64 < cLine) (h1 : SeqAt.shaped x = true) (h2 : SeqAt.shaped y = true) (ha : JE X WF F0 H0 Γ a (.v x)) (hb : JE X WF F0 H0 Γ b (.v y)) : JT X F0 H0 Γ (.Compare a [.Eq] [b] pos) (PyData.eqv x y) := jt_cmp (op_eqD hu) (rd_eq h1 h2) ha hb (nomark _)
end
/-- four ints as a tuple, as a list -/
abbrev ti (ns : List Int) : D := .tuple (ns.map .int)
abbrev li (ns : List Int) : D := .list (ns.map .int)
/-- data of ints are compared as such -/
theorem eqvAll_ints : ∀ ns ms : List Int, PyData.eqvAll (ns.map .int) (ms.map .int) = decide (ns = ms)
  | [], [] => by simp [PyData.eqvAll]
  | [], _ :: _ => by simp [PyData.eqvAll]
  | _ :: _, [] => by simp [PyData.eqvAll]
  | n :: ns, m :: ms => by
    simp only [List.map_cons, PyData.eqvAll, PyData.eqv, eqvAll_ints ns ms]
    rw [Bool.eq_iff_iff]
    simp
theorem eqv_ti (ns ms : List Int) : PyData.eqv (ti ns) (ti ms) = decide (ns = ms) := by
  show PyData.eqv (.tuple _) (.tuple _) = _
  simp only [PyData.eqv]
  exact eqvAll_ints ns ms
theorem lay_ints : ∀ ns : List Int, PyData.canLayAll0 (ns.map .int) = true ∧ PyData.depthAll (ns.map .int) ≤ 1
  | [] => by simp [PyData.canLayAll0, PyData.depthAll]
  | n :: ns => by
    have := lay_ints ns
    simp only [List.map_cons, PyData.canLayAll0, PyData.canLay0, PyData.depthAll, PyData.depth, this.1]
    refine ⟨rfl, ?_⟩
    have h2 := this.2
    omega
theorem sh_ti (ns : List Int) : SeqAt.shaped (ti ns) = true := by
  have h := lay_ints ns
  have h2 := h.2
  simp only [SeqAt.shaped, ti, PyData.canLay0, PyData.depth, h.1, Bool.true_and]
  exact decide_eq_true (by omega)
end TB
namespace TB
open PySem L2
/-- a def of the text, where the top has left it -/
structure FnAt (K : PySem.W.Frag) (mg : Str → Option Value) (n : Str) (st : Stmt) (ps : List Str) : Prop where
  ex : ∃ f fd, Fun K n n st f fd ∧ mg n = some (.ref f) ∧ Binds K fd ps []
/-- a def that keeps its promise -/
structure Cal (P : Program) (w : World) (K : PySem.W.Frag) (mg : Str → Option Value) (base : Heap) (k : Nat) (n : Str) (ps : List Str) (R : List D → Out → Prop) : Prop where
  ex : ∃ f fd, FnOk P w K mg base (L2.CX P w) k f fd ps (spD K R) ∧ mg n = some (.ref f) ∧ PySem.W.keepIn K (.ref f) = true ∧ Binds K fd ps []
theorem cal_mk {P : Program} {w : World} {K : PySem.W.Frag} {mg : Str → Option Value} {base : Heap} {n : Str} {st : Stmt} {N ps : List Str} {k : Nat} {R : List D → Out → Prop} (A0 : FnAt K mg n st ps) (Sc : FnScope N ps (defScope st)) (hlen : ∀ ds o, R ds o → ds.length = ps.length)
    (hb : ∀ (f : Addr) (cdv : Value) (A : Around) (outer : List Env) (s : Shared) (H : Hp) (E : XK) (F : Hp) (ds : List D) (o : Out), Room k (A.deeper (PyProof.Rows.envOfC n (defScope st) s.heap.objs.size f cdv)) →
      L2.Takes (XO P w K mg base N n st f cdv A outer s H E) (fun cls d _ H => E cls d H) → PassesOwn (model P w) (XO P w K mg base N n st f cdv A outer s H E).A (XO P w K mg base N n st f cdv A outer s H E).env (XO P w K mg base N n st f cdv A outer s H E).xe → R ds o →
      ∃ so, JSs (XO P w K mg base N n st f cdv A outer s H E) (fun cls d _ H => E cls d H) F H (begin_ N ds) (defBody st) so ∧ Fits o so) : Cal P w K mg base (k + 1) n ps R := by
  obtain ⟨f, fd, Fn, hm, hb'⟩ := A0.ex
  exact ⟨f, fd, fn_ok Fn Sc hlen (hb f), hm, Fn.kp, hb'⟩
section
variable {X : Cx} {W : WX} {F0 H0 : Hp} {Γ : List S} {e : Expr} {es : List Expr} {pos np : Pos} {n : Str} {ds : List D} {o : Out} {k : Nat} {ps : List Str} {R : List D → Out → Prop}
theorem je_callC (C : Cal X.prog X.w X.K X.mg X.base k n ps R) (hR : R ds o) (hr : Room k X.A) (tk : L2.Takes X W) (ha : JA X F0 H0 Γ (e :: es) ds)
    (hg : Gl X n := by rfl) (hdb : (n == ("__debug__" : Str)) = false := by decide) (he : starEach (e :: es) X.env = (false, eval e X.env) :: starEach es X.env := by rfl) (hpl : (backTo pos (starEach es X.env)).any (·.1) = false := by rfl) : JE X W F0 H0 Γ (.Call (.Name n np) (e :: es) [] pos) o := by
  obtain ⟨f, fd, G, hm, hk, hb⟩ := C.ex
  exact je_call tk G hr hm hk hb ha hR hg hdb he hpl
theorem je_callC0 (C : Cal X.prog X.w X.K X.mg X.base k n ps R) (hR : R [] o) (hr : Room k X.A) (tk : L2.Takes X W) (hno : o.val)
    (hg : Gl X n := by rfl) (hdb : (n == ("__debug__" : Str)) = false := by decide) : JE X W F0 H0 Γ (.Call (.Name n np) [] [] pos) o := by
  obtain ⟨f, fd, G, hm, hk, hb⟩ := C.ex
  exact je_call0 tk G hr hm hk hb hR hno hg hdb
end
/-- the law's own promise -/
def R_law : List D → Out → Prop := fun ds o => ∃ ns : List Int, ds = [li ns] ∧ ns.length ≤ 63 ∧ o = .v (.bool true)
end TB

namespace TB
open PySem L2
section
variable {X : Cx} {W : WX} {F0 H0 : Hp} {Γ : List S} {e elt it a b : Expr} {pos py pz tp : Pos} {n n2 : Str} {scope : Scope} {i j kk : Nat} {ps : List (D × D)} {xs ys : List D}

/-- pairs as data -/
def prD (p : D × D) : D := .tuple [p.1, p.2]
theorem zip_get {xs ys : List D} {i : Nat} {d : D} (h : ((xs.zip ys).map prD)[i]? = some d) : ∃ x y, xs[i]? = some x ∧ ys[i]? = some y ∧ d = .tuple [x, y] := by
  rw [List.getElem?_map] at h
  cases q : (xs.zip ys)[i]? with
  | none => rw [q] at h; cases h
  | some p =>
    rw [q] at h
    obtain ⟨h1, h2⟩ := List.getElem?_zip_eq_some.mp q
    exact ⟨p.1, p.2, h1, h2, (Option.some.inj h).symm⟩
theorem ji_zipT {elts : List Expr} {np : Pos} (hm : X.mg "zip" = none) (ha : JE X WF F0 H0 Γ a (.v (.tuple xs))) (hb : JE X WF F0 H0 Γ b (.v (.tuple ys))) (hg : Gl X "zip" := by rfl)
    (hs : starEach [a, b] X.env = (false, eval a X.env) :: starEach [b] X.env := by rfl) (hs2 : starEach [b] X.env = (false, eval b X.env) :: starEach [] X.env := by rfl) (hpl : (backTo pos (starEach [b] X.env)).any (·.1) = false := by rfl) :
    JI X F0 H0 Γ (.Tuple elts kk tp) (.Call (.Name "zip" np) [a, b] [] pos) ((xs.zip ys).map prD) :=
  pi_imp (RZ.pi_zipA hg hm (ja_cons ha (ja_cons hb ja_nil hs2) hs) hs hpl) fun σ H R ⟨F, ok, q⟩ => ⟨F, ok, fun vs F1 H1 z1 d1 => by
    cases d1 with
    | cons k1 k2 =>
      cases k2 with
      | cons k2 k3 =>
        cases k3
        cases k1 with
        | tup a1 a2 =>
          cases k2 with
          | tup b1 b2 =>
            refine ⟨_, _, _, _, rfl, .inr ⟨st_ex z1.s a1, st_ex z1.s b1, q _ F1 H1 z1 fun F2 H2 i e1 e2 => ?_⟩⟩
            have h1 := st_ex (e1.trans e2) a1
            have h2 := st_ex (e1.trans e2) b1
            refine ⟨fun d e => ?_, fun e => ⟨_, _, h1, h2, ?_⟩⟩
            · obtain ⟨x, y, g1, g2, rfl⟩ := zip_get e
              obtain ⟨v, v1, v2⟩ := da_get a2 g1
              obtain ⟨u, u1, u2⟩ := da_get b2 g2
              refine ⟨⟨_, _, v, u, h1, h2, v1, u1⟩, fun x' H' y' => ?_⟩
              obtain ⟨T, x2, y2, w1, w2, w3, w4, w5⟩ := y'
              subst w1 w3
              have q1 := w4 _ h1
              have q2 := w5 _ h2
              rw [v1] at q1; rw [u1] at q2
              cases q1; cases q2
              exact ⟨_, Fz.new e2 w2, .tup (SqT.of upd_same) (.cons (dp_ex (e1.trans (Fz.new e2 w2).f) _ _ v2) (.cons (dp_ex (e1.trans (Fz.new e2 w2).f) _ _ u2) .nil))⟩
            · rw [List.length_map, List.length_zip] at e
              rw [da_len a2, da_len b2, e]
              omega⟩
theorem ji_zipL {elts : List Expr} {np : Pos} (hm : X.mg "zip" = none) (ha : JE X WF F0 H0 Γ a (.v (.list xs))) (hb : JE X WF F0 H0 Γ b (.v (.list ys))) (hg : Gl X "zip" := by rfl)
    (hs : starEach [a, b] X.env = (false, eval a X.env) :: starEach [b] X.env := by rfl) (hs2 : starEach [b] X.env = (false, eval b X.env) :: starEach [] X.env := by rfl) (hpl : (backTo pos (starEach [b] X.env)).any (·.1) = false := by rfl) :
    JI X F0 H0 Γ (.Tuple elts kk tp) (.Call (.Name "zip" np) [a, b] [] pos) ((xs.zip ys).map prD) :=
  pi_imp (RZ.pi_zipA hg hm (ja_cons ha (ja_cons hb ja_nil hs2) hs) hs hpl) fun σ H R ⟨F, ok, q⟩ => ⟨F, ok, fun vs F1 H1 z1 d1 => by
    cases d1 with
    | cons k1 k2 =>
      cases k2 with
      | cons k2 k3 =>
        cases k3
        cases k1 with
        | lst a1 a2 =>
          cases k2 with
          | lst b1 b2 =>
            refine ⟨_, _, _, _, rfl, .inl ⟨sl_ex z1.s a1, sl_ex z1.s b1, q _ F1 H1 z1 fun F2 H2 i e1 e2 => ?_⟩⟩
            have h1 := sl_ex (e1.trans e2) a1
            have h2 := sl_ex (e1.trans e2) b1
            refine ⟨fun d e => ?_, fun e => ⟨_, _, h1, h2, ?_⟩⟩
            · obtain ⟨x, y, g1, g2, rfl⟩ := zip_get e
              obtain ⟨v, v1, v2⟩ := da_get a2 g1
              obtain ⟨u, u1, u2⟩ := da_get b2 g2
              refine ⟨⟨_, _, v, u, h1, h2, v1, u1⟩, fun x' H' y' => ?_⟩
              obtain ⟨T, x2, y2, w1, w2, w3, w4, w5⟩ := y'
              subst w1 w3
              have q1 := w4 _ h1
              have q2 := w5 _ h2
              rw [v1] at q1; rw [u1] at q2
              cases q1; cases q2
              exact ⟨_, Fz.new e2 w2, .tup (SqT.of upd_same) (.cons (dp_ex (e1.trans (Fz.new e2 w2).f) _ _ v2) (.cons (dp_ex (e1.trans (Fz.new e2 w2).f) _ _ u2) .nil))⟩
            · rw [List.length_map, List.length_zip] at e
              rw [da_len a2, da_len b2, e]
              omega⟩
end
end TB

namespace TB
open PySem L2
/-- a tuple or a list of ints -/
def Seq (d : D) (ns : List Int) : Prop := d = ti ns ∨ d = li ns
theorem Seq.t (ns : List Int) : Seq (ti ns) ns := .inl rfl
theorem Seq.l (ns : List Int) : Seq (li ns) ns := .inr rfl
section
variable {X : Cx} {W : WX} {F0 H0 : Hp} {Γ Γ1 : List S} {e elt it a b tg : Expr} {pos py pz tp : Pos} {n n2 : Str} {scope : Scope} {i j kk : Nat} {ns ms : List Int} {d d2 : D} {np : Pos} {sts : List Stmt} {so : SO}
theorem ji_seq (hs : Seq d ns) (h : JE X WF F0 H0 Γ it (.v d)) : JI X F0 H0 Γ tg it (ns.map .int) := by
  rcases hs with rfl | rfl
  · exact ji_tup h
  · exact ji_list h
theorem je_lenSeq (hs : Seq d ns) (hm : X.mg "len" = none) (h : JE X W F0 H0 Γ e (.v d)) (hg : Gl X "len" := by rfl) (s1 : starEach [e] X.env = (false, eval e X.env) :: starEach [] X.env := by rfl) : JE X W F0 H0 Γ (.Call (.Name "len" np) [e] [] pos) (.v (.int ns.length)) := by
  have el : ((ns.map PyData.int).length : Int) = ns.length := by rw [List.length_map]
  rcases hs with rfl | rfl
  · exact je_is (je_lenT hm h hg s1) (by rw [el])
  · exact je_is (je_lenL hm h hg s1) (by rw [el])
theorem js_asgSeq {es : List Expr} {k m : Nat} {T : List S → List D → List S → Prop} (hs : Seq d ns) (hc : X.calm = true) (he : JE X W F0 H0 Γ e (.v d)) (hgs : JGs X F0 H0 es T) (hl : ns.length = m) (ht : T Γ (ns.map .int) Γ1) (hn : (assignEach es X.env).length = m := by rfl) (hst : (assignEach es X.env).findIdx? (·.1) = none := by rfl)
    (hs1 : swapsWithSole [.Tuple es k tp] e pos.line X.env = pure false := by rfl) (hw : swappedStores [.Tuple es k tp] e X.env = pure none := by rfl) (h1 : (assignEach [.Tuple es k tp] X.env).map (·.2) = [assign (.Tuple es k tp) X.env] := by rfl) :
    JS X W F0 H0 Γ (.Assign [.Tuple es k tp] e pos) (.nx Γ1) := by
  rcases hs with rfl | rfl
  · exact js_asg he (jg_tup hc hgs hn hst) ⟨_, rfl, by rw [List.length_map]; exact hl, ht⟩ hs1 hw h1
  · exact js_asg he (jg_lst hc hgs hn hst) ⟨_, rfl, by rw [List.length_map]; exact hl, ht⟩ hs1 hw h1
end
/-- the doubled parts of a number -/
def isNum (ns : List Int) : Bool := decide ((ns.length : Int) = 4) && decide (((cntR (ns.map (· % 2)).reverse : Nat) : Int) = 1)
def Par (a b c d : Int) : Prop := b % 2 = a % 2 ∧ c % 2 = a % 2 ∧ d % 2 = a % 2
theorem isNum4 (a b c d : Int) : isNum [a, b, c, d] = true ↔ Par a b c d := by
  have ha := Int.emod_two_eq a
  have hb := Int.emod_two_eq b
  have hc := Int.emod_two_eq c
  have hd := Int.emod_two_eq d
  unfold isNum Par
  simp only [List.map_cons, List.map_nil, List.reverse_cons, List.reverse_nil, List.nil_append, List.cons_append, List.length_cons, List.length_nil]
  rcases ha with ha | ha <;> rcases hb with hb | hb <;> rcases hc with hc | hc <;> rcases hd with hd | hd <;> rw [ha, hb, hc, hd] <;> simp [cntR]
theorem isNum_of {a b c d : Int} (h : Par a b c d) : isNum [a, b, c, d] = true := (isNum4 a b c d).mpr h
theorem num_cases {ns : List Int} (h : isNum ns = true) : ∃ a b c d, ns = [a, b, c, d] ∧ Par a b c d := by
  have hl : ns.length = 4 := by
    unfold isNum at h
    rw [Bool.and_eq_true, decide_eq_true_eq] at h
    omega
  match ns, hl with
  | [a, b, c, d], _ => exact ⟨a, b, c, d, rfl, (isNum4 a b c d).mp h⟩
/-- parts of up to half a million bits -/
def Sm (n : Nat) (ns : List Int) : Prop := ∀ x ∈ ns, Bt n x
theorem cm {x y : Int} {a b : Nat} (ha : Bt a x) (hb : Bt b y) (h0 : 0 < a := by decide) (h1 : 0 < b := by decide) (h : a + b ≤ 1000000 := by decide) : CMulW x y := wide_mul ha hb h0 h1 h
theorem Bt.mono {a b : Nat} {x : Int} (h : Bt a x) (l : a ≤ b) : Bt b x := Nat.lt_of_lt_of_le h (Nat.pow_le_pow_right (by decide) l)
theorem Bt.neg {a : Nat} {x : Int} (h : Bt a x) : Bt a (-x) := by
  unfold Bt at h ⊢
  rw [Int.natAbs_neg]
  exact h
theorem Bt.add {a b : Nat} {x y : Int} (h : Bt a x) (g : Bt b y) : Bt (max a b + 1) (x + y) := by
  have h' := h.mono (Nat.le_max_left a b)
  have g' := g.mono (Nat.le_max_right a b)
  unfold Bt at h' g' ⊢
  have := Int.natAbs_add_le x y
  rw [Nat.pow_succ]
  omega
theorem Bt.sub {a b : Nat} {x y : Int} (h : Bt a x) (g : Bt b y) : Bt (max a b + 1) (x - y) := by
  rw [Int.sub_eq_add_neg]
  exact h.add g.neg
theorem Bt.mul {a b : Nat} {x y : Int} (h : Bt a x) (g : Bt b y) : Bt (a + b) (x * y) := wide_lt h g
theorem Bt.half {a : Nat} {x : Int} (h : Bt a x) : Bt a (x / 2) := by
  unfold Bt at h ⊢
  omega
theorem Bt.zero : Bt 1 0 := by unfold Bt; decide
/-- promises of defs over numbers: c the class of what is raised for what is none -/
def R1 (c : Addr) (g : List Int → D) : List D → Out → Prop := fun ds o => ∃ d ns, ds = [d] ∧ Seq d ns ∧ ns.length < 1000 ∧ Sm 400000 ns ∧ o = if isNum ns = true then .v (g ns) else .x c
def R2 (c : Addr) (g : List Int → List Int → D) : List D → Out → Prop := fun ds o => ∃ d e ns ms, ds = [d, e] ∧ ((d = ti ns ∧ e = ti ms) ∨ (d = li ns ∧ e = li ms)) ∧ ns.length < 1000 ∧ ms.length < 1000 ∧ Sm 400000 ns ∧ Sm 400000 ms ∧ o = if isNum ns = true ∧ isNum ms = true then .v (g ns ms) else .x c
theorem r1_t {c : Addr} {g : List Int → D} {ns : List Int} (hl : ns.length < 1000) (hs : Sm 400000 ns) (h : isNum ns = true) : R1 c g [ti ns] (.v (g ns)) := ⟨_, ns, rfl, .inl rfl, hl, hs, by rw [if_pos h]⟩
/-- the law's draws -/
def absI (c : Int) : Int := if c < 0 then -c else c
def mixS (c : Int) : Nat → Int
  | 0 => (absI c * 48271 + 69621) % 2147483647
  | k + 1 => (mixS c k * 16807 + 271 * (0 + (k : Nat) + 3)) % 2147483629
def bigC (c : Int) : Bool := decide (10 ^ (18 : Int).toNat ≤ absI c)
def restS (c : Int) : Nat → Int
  | 0 => absI c
  | k + 1 => if bigC c = true then restS c k / 1009 else restS c k
def rowV (c : Int) (k : Nat) : Int := if bigC c = true then restS c k % 1009 else mixS c (k + 1) / 7 % 1009
def lawRow (c : Int) (m : Nat) : List Int := (List.range m).map (rowV c)
theorem rowV_in (c : Int) (k : Nat) : 0 ≤ rowV c k ∧ rowV c k < 1009 := by
  unfold rowV
  split <;> omega
/-- the cells' rows, filled up with zeros, cut -/
def lawNums (cells : List Int) (m : Nat) : List Int := ((cells.flatMap fun c => lawRow c (1 + m / (max 1 cells.length))) ++ List.replicate m 0).take m
def Drawn (m : Nat) (ns : List Int) : Prop := ns.length = m ∧ ∀ x ∈ ns, 0 ≤ x ∧ x < 1009
theorem lawNums_ok (cells : List Int) (m : Nat) : Drawn m (lawNums cells m) := by
  constructor
  · unfold lawNums
    rw [List.length_take, List.length_append, List.length_replicate]
    omega
  · intro x hx
    have := List.mem_of_mem_take hx
    rw [List.mem_append] at this
    rcases this with h | h
    · obtain ⟨c, _, h2⟩ := List.mem_flatMap.mp h
      unfold lawRow at h2
      obtain ⟨k, _, rfl⟩ := List.mem_map.mp h2
      exact rowV_in c k
    · rw [(List.mem_replicate.mp h).2]
      omega
end TB
namespace TB
open PySem L2
theorem at_ints {ns : List Int} {i : Nat} {z : Int} (hz : z = (i : Int)) (h : i < ns.length) : atI (ns.map PyData.int) z = some (.int (ns.getD i 0)) := by
  subst hz
  refine atI_nat ?_
  rw [List.getElem?_map, List.getElem?_eq_getElem h, List.getD_eq_getElem?_getD, List.getElem?_eq_getElem h]
  rfl
/-- a drawn part -/
def choiceV (ns : List Int) (p : Nat) : Nat := (ns.getD p 0 % 6).toNat
def stepV (ns : List Int) (p : Nat) : Nat → Int
  | 0 => ns.getD (p + 1) 0 % ([2, 4, 8, 40, 1009, 1009] : List Int).getD (choiceV ns p) 0
  | k + 1 => stepV ns p k * 1009 + ns.getD (p + 2 + k) 0
def partV (ns : List Int) (p : Nat) : Int :=
  if ns.getD p 0 / 6 % 2 = 1 then 0 - stepV ns p (([0, 0, 0, 0, 0, 8] : List Int).getD (choiceV ns p) 0).toNat else stepV ns p (([0, 0, 0, 0, 0, 8] : List Int).getD (choiceV ns p) 0).toNat
def In9 (ns : List Int) : Prop := ∀ x ∈ ns, (0 : Int) ≤ x ∧ x < 1009
theorem In9.get {ns : List Int} (h : In9 ns) (i : Nat) : 0 ≤ ns.getD i 0 ∧ ns.getD i 0 < 1009 := by
  rw [List.getD_eq_getElem?_getD]
  cases q : ns[i]? with
  | none => exact ⟨by decide, by decide⟩
  | some x => exact h x (List.mem_of_getElem? q)
theorem choice_lt {ns : List Int} (h : In9 ns) (p : Nat) : choiceV ns p < 6 := by
  unfold choiceV
  have := h.get p
  omega
theorem mod_pos6 : ∀ j, j < 6 → 0 < ([2, 4, 8, 40, 1009, 1009] : List Int).getD j 0 ∧ ([2, 4, 8, 40, 1009, 1009] : List Int).getD j 0 ≤ 1009 := by decide
theorem rep_6 : ∀ j, j < 6 → 0 ≤ ([0, 0, 0, 0, 0, 8] : List Int).getD j 0 ∧ ([0, 0, 0, 0, 0, 8] : List Int).getD j 0 ≤ 8 := by decide
theorem stepV_in {ns : List Int} (h : In9 ns) (p : Nat) : ∀ k, 0 ≤ stepV ns p k ∧ stepV ns p k < 1009 ^ (k + 1)
  | 0 => by
    have h1 := mod_pos6 _ (choice_lt h p)
    have h2 := Int.emod_nonneg (ns.getD (p + 1) 0) (show ([2, 4, 8, 40, 1009, 1009] : List Int).getD (choiceV ns p) 0 ≠ 0 by omega)
    have h3 := Int.emod_lt_of_pos (ns.getD (p + 1) 0) h1.1
    refine ⟨h2, ?_⟩
    show ns.getD (p + 1) 0 % _ < 1009 ^ 1
    omega
  | k + 1 => by
    have ih := stepV_in h p k
    have h1 := h.get (p + 2 + k)
    show 0 ≤ stepV ns p k * 1009 + _ ∧ stepV ns p k * 1009 + _ < 1009 ^ (k + 1 + 1)
    have e : (1009 : Int) ^ (k + 1 + 1) = 1009 ^ (k + 1) * 1009 := Int.pow_succ ..
    rw [e]
    omega
theorem partV_bt {ns : List Int} (h : In9 ns) (p : Nat) : Bt 91 (partV ns p) := by
  have key : ∀ j : Nat, j ≤ 8 → Bt 91 (stepV ns p j) := fun j hj => by
    have h1 := stepV_in h p j
    have h2 : (1009 : Int) ^ (j + 1) ≤ 1009 ^ 9 := by
      have : ∀ j : Fin 9, (1009 : Int) ^ (j.val + 1) ≤ 1009 ^ 9 := by decide
      exact this ⟨j, by omega⟩
    have h3 : (1009 : Int) ^ 9 < 2 ^ 91 := by decide
    unfold Bt
    omega
  have h2 := rep_6 _ (choice_lt h p)
  have h3 := key (([0, 0, 0, 0, 0, 8] : List Int).getD (choiceV ns p) 0).toNat (by omega)
  unfold partV
  split
  · rw [Int.zero_sub]
    exact h3.neg
  · exact h3
/-- a drawn number -/
def numV (ns : List Int) (p : Nat) : List Int := (List.range 4).map fun k => 2 * partV ns (p + 1 + 10 * k) + ns.getD p 0 % 2
theorem numV_num (ns : List Int) (p : Nat) : isNum (numV ns p) = true := by
  show isNum [_, _, _, _] = true
  refine isNum_of ⟨?_, ?_, ?_⟩ <;> (dsimp only; omega)
theorem numV_bt {ns : List Int} (h : In9 ns) (p : Nat) : Sm 100 (numV ns p) := by
  intro x hx
  unfold numV at hx
  obtain ⟨k, _, rfl⟩ := List.mem_map.mp hx
  have h1 := partV_bt h (p + 1 + 10 * k)
  unfold Bt at h1 ⊢
  omega
theorem Sm.mono {a b : Nat} {ns : List Int} (h : Sm a ns) (l : a ≤ b) : Sm b ns := fun x hx => (h x hx).mono l
/-! what the program's defs give, by lists of parts -/
def conjL : List Int → List Int
  | [a, b, c, d] => [a, -b, -c, -d]
  | _ => []
def mulL : List Int → List Int → List Int
  | [a, b, c, d], [e, f, g, h] => [(a * e - b * f - c * g - d * h) / 2, (a * f + b * e + c * h - d * g) / 2, (a * g - b * h + c * e + d * f) / 2, (a * h + b * g - c * f + d * e) / 2]
  | _, _ => []
def normL (ns : List Int) : Int := (ns.map fun p => p * p).sum / 4
def addL (ns ms : List Int) : List Int := (ns.zip ms).map fun p => p.1 + p.2
def subL (ns ms : List Int) : List Int := (ns.zip ms).map fun p => p.1 - p.2
def timesL (m : Int) (ns : List Int) : List Int := ns.map fun p => p * m
def R0 (c : Addr) : List D → Out → Prop := fun ds o => ∃ d ns, ds = [d] ∧ Seq d ns ∧ ns.length < 1000 ∧ o = if isNum ns = true then .v .none else .x c
def R_is_number : List D → Out → Prop := fun ds o => ∃ d ns, ds = [d] ∧ Seq d ns ∧ ns.length < 1000 ∧ o = .v (.bool (isNum ns))
/-- behind the check: four parts -/
def R4 (g : List Int → D) : List D → Out → Prop := fun ds o => ∃ d ns, ds = [d] ∧ Seq d ns ∧ ns.length = 4 ∧ Sm 400000 ns ∧ o = .v (g ns)
def R44 (g : List Int → List Int → D) : List D → Out → Prop := fun ds o => ∃ d e ns ms, ds = [d, e] ∧ Seq d ns ∧ Seq e ms ∧ ns.length = 4 ∧ ms.length = 4 ∧ Sm 400000 ns ∧ Sm 400000 ms ∧ o = .v (g ns ms)
theorem four {ns : List Int} (h : ns.length = 4) : ∃ a b c d, ns = [a, b, c, d] := by
  match ns, h with
  | [a, b, c, d], _ => exact ⟨a, b, c, d, rfl⟩
theorem num_len {ns : List Int} (h : isNum ns = true) : ns.length = 4 := by
  obtain ⟨a, b, c, d, rfl, _⟩ := num_cases h
  rfl
end TB

namespace TB
/-! ### the mathematics of products -/
/-- p is the product of x and y, told by twice its parts -/
def Pr (a b c d e f g h p q r s : Int) : Prop :=
  2 * p = a * e - b * f - c * g - d * h ∧ 2 * q = a * f + b * e + c * h - d * g ∧ 2 * r = a * g - b * h + c * e + d * f ∧ 2 * s = a * h + b * g - c * f + d * e
theorem mul_pr {a b c d e f g h : Int} (k : Par a b c d) (l : Par e f g h) : ∃ p q r s, Pr a b c d e f g h p q r s ∧ Par p q r s ∧ mulL [a, b, c, d] [e, f, g, h] = [p, q, r, s] := by
  obtain ⟨k1, k2, k3⟩ := k
  obtain ⟨l1, l2, l3⟩ := l
  have key : ∀ (A B C D' E F G H u v : Int), (u = 0 ∨ u = 1) → (v = 0 ∨ v = 1) → a = 2 * A + u → b = 2 * B + u → c = 2 * C + u → d = 2 * D' + u → e = 2 * E + v → f = 2 * F + v → g = 2 * G + v → h = 2 * H + v →
      ∃ p q r s, Pr a b c d e f g h p q r s ∧ Par p q r s := by
    intro A B C D' E F G H u v hu hv ha hb hc hd he hf hg hh
    subst ha hb hc hd he hf hg hh
    refine ⟨2 * (A * E - B * F - C * G - D' * H) + v * (A - B - C - D') + u * (E - F - G - H) - u * v, 2 * (A * F + B * E + C * H - D' * G) + v * (A + B + C - D') + u * (F + E + H - G) + u * v,
      2 * (A * G - B * H + C * E + D' * F) + v * (A - B + C + D') + u * (G - H + E + F) + u * v, 2 * (A * H + B * G - C * F + D' * E) + v * (A + B - C + D') + u * (H + G - F + E) + u * v, ⟨by grind, by grind, by grind, by grind⟩, ?_⟩
    unfold Par
    rcases hu with rfl | rfl <;> rcases hv with rfl | rfl <;> refine ⟨?_, ?_, ?_⟩ <;> omega
  obtain ⟨p, q, r, s, hp, hq⟩ := key (a / 2) (b / 2) (c / 2) (d / 2) (e / 2) (f / 2) (g / 2) (h / 2) (a % 2) (e % 2) (by omega) (by omega) (by omega) (by omega) (by omega) (by omega) (by omega) (by omega) (by omega) (by omega)
  refine ⟨p, q, r, s, hp, hq, ?_⟩
  obtain ⟨h1, h2, h3, h4⟩ := hp
  show [_, _, _, _] = [p, q, r, s]
  rw [← h1, ← h2, ← h3, ← h4]
  simp
theorem num_mul {x y : List Int} (hx : isNum x = true) (hy : isNum y = true) : isNum (mulL x y) = true := by
  obtain ⟨a, b, c, d, rfl, k⟩ := num_cases hx
  obtain ⟨e, f, g, h, rfl, l⟩ := num_cases hy
  obtain ⟨p, q, r, s, _, k2, e2⟩ := mul_pr k l
  rw [e2]
  exact isNum_of k2
theorem num_conj {x : List Int} (hx : isNum x = true) : isNum (conjL x) = true := by
  obtain ⟨a, b, c, d, rfl, k1, k2, k3⟩ := num_cases hx
  exact isNum_of ⟨by omega, by omega, by omega⟩
theorem num_add {x y : List Int} (hx : isNum x = true) (hy : isNum y = true) : isNum (addL x y) = true := by
  obtain ⟨a, b, c, d, rfl, k1, k2, k3⟩ := num_cases hx
  obtain ⟨e, f, g, h, rfl, l1, l2, l3⟩ := num_cases hy
  exact isNum_of (a := a + e) (b := b + f) (c := c + g) (d := d + h) ⟨by omega, by omega, by omega⟩
theorem num_int (m : Int) : isNum [2 * m, 0, 0, 0] = true := isNum_of ⟨by omega, by omega, by omega⟩
theorem num_len1000 {x : List Int} (hx : isNum x = true) : x.length < 1000 := by
  rw [num_len hx]
  decide
theorem sm_mul {x y : List Int} {m n : Nat} (hx : isNum x = true) (hy : isNum y = true) (h1 : Sm m x) (h2 : Sm n y) : Sm (m + n + 3) (mulL x y) := by
  obtain ⟨a, b, c, d, rfl, k⟩ := num_cases hx
  obtain ⟨e, f, g, h, rfl, l⟩ := num_cases hy
  have A := h1 a (by simp); have B := h1 b (by simp); have C := h1 c (by simp); have D' := h1 d (by simp)
  have E := h2 e (by simp); have F := h2 f (by simp); have G := h2 g (by simp); have H := h2 h (by simp)
  have mono : ∀ {k : Nat} {z : Int}, Bt k z → k ≤ m + n + 3 → Bt (m + n + 3) z := fun q w => q.mono w
  intro z hz
  have hz' : z = (a * e - b * f - c * g - d * h) / 2 ∨ z = (a * f + b * e + c * h - d * g) / 2 ∨ z = (a * g - b * h + c * e + d * f) / 2 ∨ z = (a * h + b * g - c * f + d * e) / 2 := by
    have : z ∈ [(a * e - b * f - c * g - d * h) / 2, (a * f + b * e + c * h - d * g) / 2, (a * g - b * h + c * e + d * f) / 2, (a * h + b * g - c * f + d * e) / 2] := hz
    simpa using this
  rcases hz' with rfl | rfl | rfl | rfl
  · exact mono (((((A.mul E).sub (B.mul F)).sub (C.mul G)).sub (D'.mul H)).half) (by omega)
  · exact mono (((((A.mul F).add (B.mul E)).add (C.mul H)).sub (D'.mul G)).half) (by omega)
  · exact mono (((((A.mul G).sub (B.mul H)).add (C.mul E)).add (D'.mul F)).half) (by omega)
  · exact mono (((((A.mul H).add (B.mul G)).sub (C.mul F)).add (D'.mul E)).half) (by omega)
theorem sm_conj {x : List Int} {m : Nat} (hx : isNum x = true) (h1 : Sm m x) : Sm m (conjL x) := by
  obtain ⟨a, b, c, d, rfl, k⟩ := num_cases hx
  have A := h1 a (by simp); have B := h1 b (by simp); have C := h1 c (by simp); have D' := h1 d (by simp)
  intro z hz
  have hz' : z = a ∨ z = -b ∨ z = -c ∨ z = -d := by
    have : z ∈ [a, -b, -c, -d] := hz
    simpa using this
  rcases hz' with rfl | rfl | rfl | rfl
  · exact A
  · exact B.neg
  · exact C.neg
  · exact D'.neg
theorem sm_add {x y : List Int} {m n : Nat} (hx : isNum x = true) (hy : isNum y = true) (h1 : Sm m x) (h2 : Sm n y) : Sm (max m n + 1) (addL x y) := by
  intro z hz
  unfold addL at hz
  obtain ⟨p, hp, rfl⟩ := List.mem_map.mp hz
  exact (h1 p.1 (List.of_mem_zip hp).1).add (h2 p.2 (List.of_mem_zip hp).2)
theorem asc_pure (a b c d e f g h i j k l : Int) :
    (a * e - b * f - c * g - d * h) * i - (a * f + b * e + c * h - d * g) * j - (a * g - b * h + c * e + d * f) * k - (a * h + b * g - c * f + d * e) * l = a * (e * i - f * j - g * k - h * l) - b * (e * j + f * i + g * l - h * k) - c * (e * k - f * l + g * i + h * j) - d * (e * l + f * k - g * j + h * i) ∧
    (a * e - b * f - c * g - d * h) * j + (a * f + b * e + c * h - d * g) * i + (a * g - b * h + c * e + d * f) * l - (a * h + b * g - c * f + d * e) * k = a * (e * j + f * i + g * l - h * k) + b * (e * i - f * j - g * k - h * l) + c * (e * l + f * k - g * j + h * i) - d * (e * k - f * l + g * i + h * j) ∧
    (a * e - b * f - c * g - d * h) * k - (a * f + b * e + c * h - d * g) * l + (a * g - b * h + c * e + d * f) * i + (a * h + b * g - c * f + d * e) * j = a * (e * k - f * l + g * i + h * j) - b * (e * l + f * k - g * j + h * i) + c * (e * i - f * j - g * k - h * l) + d * (e * j + f * i + g * l - h * k) ∧
    (a * e - b * f - c * g - d * h) * l + (a * f + b * e + c * h - d * g) * k - (a * g - b * h + c * e + d * f) * j + (a * h + b * g - c * f + d * e) * i = a * (e * l + f * k - g * j + h * i) + b * (e * k - f * l + g * i + h * j) - c * (e * j + f * i + g * l - h * k) + d * (e * i - f * j - g * k - h * l) := ⟨by grind, by grind, by grind, by grind⟩
theorem mul_asc {x y z : List Int} (hx : isNum x = true) (hy : isNum y = true) (hz : isNum z = true) : mulL (mulL x y) z = mulL x (mulL y z) := by
  obtain ⟨a, b, c, d, rfl, kx⟩ := num_cases hx
  obtain ⟨e, f, g, h, rfl, ky⟩ := num_cases hy
  obtain ⟨i, j, k, l, rfl, kz⟩ := num_cases hz
  obtain ⟨p, q, r, s, ⟨p1, p2, p3, p4⟩, kp, ep⟩ := mul_pr kx ky
  obtain ⟨t, u, v, w, ⟨t1, t2, t3, t4⟩, kt, et⟩ := mul_pr ky kz
  rw [ep, et]
  obtain ⟨A, B, C, D', ⟨a1, a2, a3, a4⟩, _, eA⟩ := mul_pr kp kz
  obtain ⟨E, F, G, H, ⟨b1, b2, b3, b4⟩, _, eB⟩ := mul_pr kx kt
  rw [eA, eB]
  obtain ⟨x1, x2, x3, x4⟩ := asc_pure a b c d e f g h i j k l
  rw [← p1, ← p2, ← p3, ← p4, ← t1, ← t2, ← t3, ← t4] at x1 x2 x3 x4
  have y1 : 2 * (2 * A) = 2 * (2 * E) := by rw [a1, b1]; grind
  have y2 : 2 * (2 * B) = 2 * (2 * F) := by rw [a2, b2]; grind
  have y3 : 2 * (2 * C) = 2 * (2 * G) := by rw [a3, b3]; grind
  have y4 : 2 * (2 * D') = 2 * (2 * H) := by rw [a4, b4]; grind
  have z1 : A = E := by omega
  have z2 : B = F := by omega
  have z3 : C = G := by omega
  have z4 : D' = H := by omega
  rw [z1, z2, z3, z4]
theorem mul_addr {x y z : List Int} (hx : isNum x = true) (hy : isNum y = true) (hz : isNum z = true) : mulL x (addL y z) = addL (mulL x y) (mulL x z) := by
  obtain ⟨a, b, c, d, rfl, kx⟩ := num_cases hx
  obtain ⟨e, f, g, h, rfl, ky⟩ := num_cases hy
  obtain ⟨i, j, k, l, rfl, kz⟩ := num_cases hz
  obtain ⟨p, q, r, s, ⟨p1, p2, p3, p4⟩, _, ep⟩ := mul_pr kx ky
  obtain ⟨t, u, v, w, ⟨t1, t2, t3, t4⟩, _, et⟩ := mul_pr kx kz
  have ka : Par (e + i) (f + j) (g + k) (h + l) := by
    obtain ⟨k1, k2, k3⟩ := ky
    obtain ⟨l1, l2, l3⟩ := kz
    exact ⟨by omega, by omega, by omega⟩
  obtain ⟨A, B, C, D', ⟨a1, a2, a3, a4⟩, _, eA⟩ := mul_pr kx ka
  rw [ep, et]
  show mulL [a, b, c, d] [e + i, f + j, g + k, h + l] = [p + t, q + u, r + v, s + w]
  rw [eA]
  have z1 : A = p + t := by grind
  have z2 : B = q + u := by grind
  have z3 : C = r + v := by grind
  have z4 : D' = s + w := by grind
  rw [z1, z2, z3, z4]
theorem mul_addl {x y z : List Int} (hx : isNum x = true) (hy : isNum y = true) (hz : isNum z = true) : mulL (addL x y) z = addL (mulL x z) (mulL y z) := by
  obtain ⟨a, b, c, d, rfl, kx⟩ := num_cases hx
  obtain ⟨e, f, g, h, rfl, ky⟩ := num_cases hy
  obtain ⟨i, j, k, l, rfl, kz⟩ := num_cases hz
  obtain ⟨p, q, r, s, ⟨p1, p2, p3, p4⟩, _, ep⟩ := mul_pr kx kz
  obtain ⟨t, u, v, w, ⟨t1, t2, t3, t4⟩, _, et⟩ := mul_pr ky kz
  have ka : Par (a + e) (b + f) (c + g) (d + h) := by
    obtain ⟨k1, k2, k3⟩ := kx
    obtain ⟨l1, l2, l3⟩ := ky
    exact ⟨by omega, by omega, by omega⟩
  obtain ⟨A, B, C, D', ⟨a1, a2, a3, a4⟩, _, eA⟩ := mul_pr ka kz
  rw [ep, et]
  show mulL [a + e, b + f, c + g, d + h] [i, j, k, l] = [p + t, q + u, r + v, s + w]
  rw [eA]
  have z1 : A = p + t := by grind
  have z2 : B = q + u := by grind
  have z3 : C = r + v := by grind
  have z4 : D' = s + w := by grind
  rw [z1, z2, z3, z4]
theorem norm_pr {a b c d : Int} (k : Par a b c d) : 4 * normL [a, b, c, d] = a * a + b * b + c * c + d * d := by
  have e : normL [a, b, c, d] = (a * a + b * b + c * c + d * d) / 4 := by
    unfold normL
    simp only [List.map_cons, List.map_nil, List.sum_cons, List.sum_nil]
    congr 1
    omega
  rw [e]
  obtain ⟨k1, k2, k3⟩ := k
  have key : ∀ (A B C D' u : Int), (u = 0 ∨ u = 1) → a = 2 * A + u → b = 2 * B + u → c = 2 * C + u → d = 2 * D' + u → ∃ n, a * a + b * b + c * c + d * d = 4 * n := by
    intro A B C D' u hu ha hb hc hd
    subst ha hb hc hd
    refine ⟨A * A + B * B + C * C + D' * D' + u * (A + B + C + D') + u, ?_⟩
    rcases hu with rfl | rfl <;> grind
  obtain ⟨n, hn⟩ := key (a / 2) (b / 2) (c / 2) (d / 2) (a % 2) (by omega) (by omega) (by omega) (by omega) (by omega)
  rw [hn]
  omega
theorem norm_mul {x y : List Int} (hx : isNum x = true) (hy : isNum y = true) : normL (mulL x y) = normL x * normL y := by
  obtain ⟨a, b, c, d, rfl, kx⟩ := num_cases hx
  obtain ⟨e, f, g, h, rfl, ky⟩ := num_cases hy
  obtain ⟨p, q, r, s, ⟨p1, p2, p3, p4⟩, kp, ep⟩ := mul_pr kx ky
  rw [ep]
  have n1 := norm_pr kx
  have n2 := norm_pr ky
  have n3 := norm_pr kp
  have e1 : 4 * (4 * normL [p, q, r, s]) = (2 * p) * (2 * p) + (2 * q) * (2 * q) + (2 * r) * (2 * r) + (2 * s) * (2 * s) := by rw [n3]; grind
  rw [p1, p2, p3, p4] at e1
  have e2 : 16 * (normL [a, b, c, d] * normL [e, f, g, h]) = (4 * normL [a, b, c, d]) * (4 * normL [e, f, g, h]) := by grind
  rw [n1, n2] at e2
  have e3 : (a * e - b * f - c * g - d * h) * (a * e - b * f - c * g - d * h) + (a * f + b * e + c * h - d * g) * (a * f + b * e + c * h - d * g) + (a * g - b * h + c * e + d * f) * (a * g - b * h + c * e + d * f) + (a * h + b * g - c * f + d * e) * (a * h + b * g - c * f + d * e) = (a * a + b * b + c * c + d * d) * (e * e + f * f + g * g + h * h) := by grind
  omega
theorem mul_conj {x : List Int} (hx : isNum x = true) : mulL x (conjL x) = [2 * normL x, 0, 0, 0] ∧ mulL (conjL x) x = [2 * normL x, 0, 0, 0] := by
  obtain ⟨a, b, c, d, rfl, kx⟩ := num_cases hx
  have kc : Par a (-b) (-c) (-d) := by obtain ⟨k1, k2, k3⟩ := kx; exact ⟨by omega, by omega, by omega⟩
  have n1 := norm_pr kx
  obtain ⟨p, q, r, s, ⟨p1, p2, p3, p4⟩, _, ep⟩ := mul_pr kx kc
  obtain ⟨A, B, C, D', ⟨a1, a2, a3, a4⟩, _, eA⟩ := mul_pr kc kx
  constructor
  · show mulL [a, b, c, d] [a, -b, -c, -d] = _
    rw [ep]
    have z1 : p = 2 * normL [a, b, c, d] := by grind
    have z2 : q = 0 := by grind
    have z3 : r = 0 := by grind
    have z4 : s = 0 := by grind
    rw [z1, z2, z3, z4]
  · show mulL [a, -b, -c, -d] [a, b, c, d] = _
    rw [eA]
    have z1 : A = 2 * normL [a, b, c, d] := by grind
    have z2 : B = 0 := by grind
    have z3 : C = 0 := by grind
    have z4 : D' = 0 := by grind
    rw [z1, z2, z3, z4]
theorem mul_int {x : List Int} (m : Int) (hx : isNum x = true) : mulL [2 * m, 0, 0, 0] x = timesL m x ∧ mulL x [2 * m, 0, 0, 0] = timesL m x := by
  obtain ⟨a, b, c, d, rfl, kx⟩ := num_cases hx
  have ki : Par (2 * m) 0 0 0 := ⟨by omega, by omega, by omega⟩
  obtain ⟨p, q, r, s, ⟨p1, p2, p3, p4⟩, _, ep⟩ := mul_pr ki kx
  obtain ⟨A, B, C, D', ⟨a1, a2, a3, a4⟩, _, eA⟩ := mul_pr kx ki
  constructor
  · show _ = [a * m, b * m, c * m, d * m]
    rw [ep]
    have z1 : p = a * m := by grind
    have z2 : q = b * m := by grind
    have z3 : r = c * m := by grind
    have z4 : s = d * m := by grind
    rw [z1, z2, z3, z4]
  · show _ = [a * m, b * m, c * m, d * m]
    rw [eA]
    have z1 : A = a * m := by grind
    have z2 : B = b * m := by grind
    have z3 : C = c * m := by grind
    have z4 : D' = d * m := by grind
    rw [z1, z2, z3, z4]
theorem mul_one' {x : List Int} (hx : isNum x = true) : mulL [2, 0, 0, 0] x = x := by
  have h := (mul_int 1 hx).1
  obtain ⟨a, b, c, d, rfl, kx⟩ := num_cases hx
  have e : timesL 1 [a, b, c, d] = [a, b, c, d] := by
    show [a * 1, b * 1, c * 1, d * 1] = _
    simp
  rw [e] at h
  exact h
theorem norm_nn {x : List Int} (hx : isNum x = true) : 0 ≤ normL x := by
  obtain ⟨a, b, c, d, rfl, kx⟩ := num_cases hx
  have n1 := norm_pr kx
  have sq : ∀ z : Int, 0 ≤ z * z := fun z => by
    rcases Int.le_total 0 z with h | h
    · exact Int.mul_nonneg h h
    · exact Int.mul_nonneg_of_nonpos_of_nonpos h h
  have h1 := sq a; have h2 := sq b; have h3 := sq c; have h4 := sq d
  omega
end TB
namespace TB
open PySem L2
/-- a number of at most n bits a part -/
structure G (n : Nat) (x : List Int) : Prop where
  num : isNum x = true
  sm : Sm n x
theorem G.mul {m n : Nat} {x y : List Int} (a : G m x) (b : G n y) : G (m + n + 3) (mulL x y) := ⟨num_mul a.num b.num, sm_mul a.num b.num a.sm b.sm⟩
theorem G.add {m n : Nat} {x y : List Int} (a : G m x) (b : G n y) : G (max m n + 1) (addL x y) := ⟨num_add a.num b.num, sm_add a.num b.num a.sm b.sm⟩
theorem G.conj {m : Nat} {x : List Int} (a : G m x) : G m (conjL x) := ⟨num_conj a.num, sm_conj a.num a.sm⟩
theorem G.drawn {ns : List Int} (h : In9 ns) (p : Nat) : G 100 (numV ns p) := ⟨numV_num ns p, numV_bt h p⟩
theorem r1g {c : Addr} {g : List Int → D} {m : Nat} {x : List Int} (a : G m x) (h1 : m ≤ 400000 := by decide) : R1 c g [ti x] (.v (g x)) := r1_t (num_len1000 a.num) (a.sm.mono h1) a.num
end TB

namespace TB
open PySem L2
section
variable {X : Cx} {W : WX} {F0 H0 : Hp} {Γ Γ1 : List S} {body suite : List Stmt} {b₀ : Stmt} {n x : Str} {i : Nat} {np pos pos' : Pos} {C c : Addr} {so : SO} {y : D}
/-- does an error leave -/
def SO.clean : SO → Prop
  | .x _ _ => False
  | .xf _ _ _ _ => False
  | _ => True
theorem pso_clean {K : PySem.W.Frag} {W W' : WX} {F : Hp} {D' : Ends} (h : so.clean) (q : PSo K W F0 H0 F D' so) : PSo K W' F0 H0 F D' so := by
  cases so with
  | x c g => exact h.elim
  | xf c f x g => exact h.elim
  | _ => exact q
end
section
variable {X : Cx} {W : WX} {F0 H0 : Hp} {Γ : List S} {a b e : Expr} {x y : D} {pos np : Pos} {p q : Bool} {ds : List D}
end
end TB
namespace TB
open PySem L2
section
variable {X : Cx} {W : WX} {F0 H0 : Hp} {Γ : List S} {a b e : Expr} {x y : D} {pos np : Pos} {p q : Bool} {ds : List D} {c : Addr} {op : CmpOp}
theorem eqv_refl : ∀ d : D, SeqAt.shaped d = true → PyData.eqv d d = true := fun d h => SeqAt.eqv_refl d (SeqAt.canLay_of_shaped h)
end
end TB

namespace TB
open PySem L2
def negL (ns : List Int) : List Int := ns.map fun p => -p
theorem par_mul {a b c d : Int} (m : Int) (k : Par a b c d) : Par (a * m) (b * m) (c * m) (d * m) := by
  obtain ⟨k1, k2, k3⟩ := k
  exact ⟨by rw [Int.mul_emod, k1, ← Int.mul_emod], by rw [Int.mul_emod, k2, ← Int.mul_emod], by rw [Int.mul_emod, k3, ← Int.mul_emod]⟩
theorem G.times {m n : Nat} {x : List Int} {z : Int} (a : G m x) (b : Bt n z) : G (m + n) (timesL z x) := by
  refine ⟨?_, fun y hy => ?_⟩
  · obtain ⟨p, q, r, s, rfl, k⟩ := num_cases a.num
    exact isNum_of (par_mul z k)
  · obtain ⟨p, hp, rfl⟩ := List.mem_map.mp hy
    exact (a.sm p hp).mul b
theorem G.neg {m : Nat} {x : List Int} (a : G m x) : G m (negL x) := by
  refine ⟨?_, fun y hy => ?_⟩
  · obtain ⟨p, q, r, s, rfl, k⟩ := num_cases a.num
    obtain ⟨k1, k2, k3⟩ := k
    exact isNum_of (a := -p) (b := -q) (c := -r) (d := -s) ⟨by omega, by omega, by omega⟩
  · obtain ⟨p, hp, rfl⟩ := List.mem_map.mp hy
    exact (a.sm p hp).neg
theorem sub_self {x : List Int} (h : isNum x = true) : subL x x = [0, 0, 0, 0] := by
  obtain ⟨p, q, r, s, rfl, k⟩ := num_cases h
  show [p - p, q - q, r - r, s - s] = _
  simp
theorem conj_conj {x : List Int} (h : isNum x = true) : conjL (conjL x) = x := by
  obtain ⟨p, q, r, s, rfl, k⟩ := num_cases h
  show [p, - -q, - -r, - -s] = _
  simp
theorem norm_sum {x : List Int} (h : isNum x = true) : normL x * 4 = (x.map fun p => p * p).sum := by
  obtain ⟨p, q, r, s, rfl, k⟩ := num_cases h
  have e1 := norm_pr k
  show normL [p, q, r, s] * 4 = p * p + (q * q + (r * r + (s * s + 0)))
  omega
end TB

namespace TB
open PySem L2
section
variable {X : Cx} {W : WX} {F0 H0 : Hp} {Γ : List S} {elt it : Expr} {n : Str} {py pos : Pos} {scope : Scope} {xs : List (List Int)}
theorem je_lcT (i : Nat) {f : List Int → D} (hc : X.calm = true) (hN : X.N.Nodup) (hi : JI X F0 H0 Γ (.Name n py) it (xs.map ti)) (ok : BlkOk X.N X.env.scope scope [(n, i)]) (hl : xs.length < 100000)
    (hg : ∀ (s : Shared) (H : Hp) (C : Addr) (cl : List (Str × Addr)) (fp : List Addr), PG (Bk X s H scope C cl fp) (.Name n py) (gName i))
    (he : ∀ x : List Int, x ∈ xs → ∀ (s : Shared) (H : Hp) (C : Addr) (cl : List (Str × Addr)) (fp : List Addr), JE (Bk X s H scope C cl fp) WF F0 H0 (Γ.set i (.d (ti x))) elt (.v (f x))) (hs : ∀ x, foldedSetIterable it X.env x = pure x := by intro _; rfl) :
    JE X W F0 H0 Γ (.ListComp elt [⟨.Name n py, it, [], 0⟩] scope pos) (.o (xs.map f)) := by
  let un : D → List Int := fun d => match d with | .tuple ds => ds.map ofI | _ => []
  have hun : ∀ x, un (ti x) = x := fun x => by
    show (x.map PyData.int).map ofI = x
    rw [List.map_map]
    exact List.map_id x
  have q := je_lc (W := W) (pos := pos) i (f := fun d => f (un d)) hc hN hi ok (by rw [List.length_map]; exact hl) hg (fun d hd s H C cl fp => by
    obtain ⟨x, hx, rfl⟩ := List.mem_map.mp hd
    rw [hun]
    exact he x hx s H C cl fp) hs
  rw [List.map_map] at q
  have e : ((fun d => f (un d)) ∘ ti) = f := funext fun x => by show f (un (ti x)) = f x; rw [hun]
  rw [e] at q
  exact q
end
theorem lay_ti (x : List Int) : PyData.canLay0 (ti x) = true ∧ PyData.depth (ti x) ≤ 2 := by
  have h := lay_ints x
  have h2 := h.2
  simp only [ti, PyData.canLay0, PyData.depth, h.1]
  exact ⟨trivial, by omega⟩
theorem lay_tis : ∀ xs : List (List Int), PyData.canLayAll0 (xs.map ti) = true ∧ PyData.depthAll (xs.map ti) ≤ 2
  | [] => by simp [PyData.canLayAll0, PyData.depthAll]
  | x :: xs => by
    have h := lay_tis xs
    have g := lay_ti x
    simp only [List.map_cons, PyData.canLayAll0, PyData.depthAll, h.1, g.1]
    refine ⟨rfl, ?_⟩
    have h2 := h.2
    have g2 := g.2
    omega
theorem sh_lti (xs : List (List Int)) : SeqAt.shaped (.list (xs.map ti)) = true := by
  have h := lay_tis xs
  have h2 := h.2
  simp only [SeqAt.shaped, PyData.canLay0, PyData.depth, h.1, Bool.true_and]
  exact decide_eq_true (by omega)
theorem dp_k4 {K : PySem.W.Frag} {a : Addr} {od : Option Addr} {x y z t : Int} {u1 u2 u3 u4 : Tok} {n : Nat} {sl : Array (Option Value)} (h : K.lookup a = some ⟨.type "tuple", od, .seq #[.int x u1, .int y u2, .int z u3, .int t u4] n, sl⟩) : ∀ F, Dp K F (.ref a) (ti [x, y, z, t]) := fun F =>
  .tup (xs := [.int x, .int y, .int z, .int t]) (.inr ⟨_, _, _, h, rfl, rfl, (by show 4 ≤ sizeLine; decide), .cons ⟨_, rfl⟩ (.cons ⟨_, rfl⟩ (.cons ⟨_, rfl⟩ (.cons ⟨_, rfl⟩ .nil)))⟩) (da_of_ints [x, y, z, t])
/-! a product by the table of the rules -/
/-! the product of a list -/
end TB
namespace TB
end TB

namespace TB
open PySem L2 PySem.Spec PyProof.Rows
/-- a suite that returns, or never ends -/
def onlyRt (D : Ends) : Ends := ⟨fun _ _ => False, D.rt, fun _ _ => False, fun _ _ => False⟩
abbrev Cl := Value × (Addr → Value → Option Addr → TS)
section
variable {X : Cx} {n : Str} {i : Nat} {body : List Stmt} {e₀ : ExceptHandler} {es : List ExceptHandler} {l : List Cl} {pos : Pos} {tb : WX → TS} {O : WX}
end
end TB

namespace TB
open PySem L2 PySem.Spec PyProof.Rows
/-! ### any of integers -/
theorem ints_at : ∀ {us : List Value} {ns : List Int} {i : Nat} {v : Value}, IntsAre us ns → us[i]? = some v → ∃ t, v = .int (ns.getD i 0) t
  | _, _, i, v, .nil, h => by simp at h
  | _, _, 0, v, .cons n t _, h => ⟨t, (Option.some.inj h).symm⟩
  | _, _, i + 1, v, .cons n t r, h => ints_at (i := i) r h
theorem ints_len : ∀ {us : List Value} {ns : List Int}, IntsAre us ns → us.length = ns.length
  | _, _, .nil => rfl
  | _, _, .cons n t r => congrArg (· + 1) (ints_len r)
theorem truth_ints {prog : Program} {w : World} {A : Around} {ns : List Int} {us : List Value} (e : IntsAre us ns) :
    TruthOf prog w A (fun i v => us.toArray[i]? = some v) (fun i => ns.getD i 0 != 0) := fun i v s Q E hv hq => by
  obtain ⟨t, rfl⟩ := ints_at e (by simpa using hv)
  exact PyProof.Rows.truthy_int hq
theorem any_ints : ∀ ns : List Int, (List.range ns.length).any (fun i => ns.getD i 0 != 0) = ns.any (· != 0)
  | [] => rfl
  | n :: ns => by
    rw [List.length_cons, List.range_succ_eq_map, List.any_cons, List.any_map, List.any_cons, ← any_ints ns]
    all_goals rfl
def rAnyI (K : PySem.W.Frag) : List V → Hp → VK → Prop := fun vs H Q => ∃ (a : Addr) (ns : List Int), vs = [V.ref a] ∧ (SqL K H a (ns.map V.int) ∨ SqT K H a (ns.map V.int)) ∧ Q (.bl (ns.any (· != 0))) H
theorem cr_anyI {X : Cx} (hc : X.calm = true) : CallR X (.builtin "any") (rAnyI X.K) := by
  intro pins s σ H vs us Q I r h
  obtain ⟨a, ns, rfl, sq, q⟩ := h
  rw [Vals.ref1 r]
  have fin : ∀ (its : List Value) (h' : Heap) (tk : Nat) (o : Obj), IntsAre its ns → (∀ b u, b ∉ [s.heap.objs.size] → (s.heap.push o).get? b = some u → h'.get? b = some u) →
      ∃ x H', Inv X pins σ H' { s with heap := h', toks := tk } ∧ RelV x (.bool ((List.range its.toArray.size).any fun i => ns.getD i 0 != 0)) ∧ Q x H' := fun its h' tk o e keep => by
    refine ⟨.bl (ns.any (· != 0)), H, I.kept fun b u eb => keep b u (fun m => ?_) (Heap.get?_push_of_some _ eb), ?_, q⟩
    · rcases List.mem_cons.mp m with z | z
      · exact absurd (z ▸ Heap.lt_size eb) (Nat.lt_irrefl _)
      · cases z
    · have e2 : its.toArray.size = ns.length := by
        rw [List.size_toArray]
        exact ints_len e
      rw [e2, any_ints]
      rfl
  rcases sq with sq | sq
  · obtain ⟨its, rv, hl, _⟩ := I.list sq
    have hi := rv.ints
    refine call_any_walk (iter_any hl.isList fun s₂ e2 st hne => ?_)
    subst e2
    exact ⟨_, _, _, _, _, _, _, rfl, Walks.list (A := X.A.in1) (I.ok.hd hc) _ a hne its.toArray, st, truth_ints hi, fun h' tk keep => fin its h' tk _ hi keep⟩
  · obtain ⟨its, rv, ht, _⟩ := I.tuple sq
    have hi := rv.ints
    have hne : a ≠ s.heap.objs.size := Nat.ne_of_lt ht.lt
    have ht' : (s.heap.push { cls := .type "tuple_iterator", data := .fields #[.ref a, .int 0 0] }).IsTuple a its.toArray := ht.push _
    refine call_any_walk (PyProof.Rows.iter_tuple ht ?_)
    exact ⟨_, _, _, _, _, _, _, rfl, Walks.tuple (A := X.A.in1) (I.ok.hd hc) _ a hne its.toArray, ⟨⟨_, Heap.get?_push_size _ rfl, rfl, rfl⟩, ht'⟩, truth_ints hi, fun h' tk keep => fin its h' tk _ hi keep⟩
theorem rc_anyI {K : PySem.W.Frag} {d : D} {ns : List Int} (sq : Seq d ns) : RC K (rAnyI K) [d] (.v (.bool (ns.any (· != 0)))) := rc1 fun v F H Q s dv q => by
  rcases sq with rfl | rfl
  · cases dv with
    | tup h1 h2 =>
      rw [da_ints h2] at h1
      exact ⟨_, ns, rfl, .inr (st_ex s h1), q _ F H (Fz.refl s) (.bl _)⟩
  · cases dv with
    | lst h1 h2 =>
      rw [da_ints h2] at h1
      exact ⟨_, ns, rfl, .inl (sl_ex s h1), q _ F H (Fz.refl s) (.bl _)⟩
section
variable {X : Cx} {W : WX} {F0 H0 : Hp} {Γ Γ1 : List S} {a b e : Expr} {d x : D} {ns : List Int} {pos np : Pos} {i : Int} {ds : List D}
theorem je_anyS (sq : Seq d ns) (hc : X.calm = true) (hm : X.mg "any" = none) (h : JE X W F0 H0 Γ e (.v d)) (hg : Gl X "any" := by rfl) (s1 : starEach [e] X.env = (false, eval e X.env) :: starEach [] X.env := by rfl) : JE X W F0 H0 Γ (.Call (.Name "any" np) [e] [] pos) (.v (.bool (ns.any (· != 0)))) :=
  je_cb (cr_anyI hc) (rc_anyI sq) (by first | trivial | exact (fun _ h => nomatch h)) hm (by decide +kernel) (ja_cons h ja_nil s1) hg (by decide) (by decide) s1
end
section
variable {X : Cx} {W : WX} {F0 H0 : Hp} {Γ Γ1 : List S} {body su1 su2 : List Stmt} {b1 b2 : Stmt} {n x1 x2 : Str} {i : Nat} {p1 p2 q1 q2 pos : Pos} {C1 C2 c : Addr} {so : SO} {y : D}
end
/-! ### k00 -/
def zeroB (ns : List Int) : Bool := !ns.any (· != 0)
end TB

namespace TB
open PySem L2 PySem.Spec PyProof.Rows
/-! ### list + list, the first one any list that is read -/
section
variable {X : Cx} {W : WX} {F0 H0 : Hp} {Γ : List S} {a b : Expr} {ds es : List D} {x y : D} {pos : Pos}
end
section
variable {X : Cx} {W : WX} {F0 H0 : Hp} {Γ : List S} {elt it : Expr} {n y : Str} {py py2 pos spos : Pos} {scope : Scope}
end
theorem zero_eq {ns : List Int} (h : isNum ns = true) : decide (ns = [0, 0, 0, 0]) = zeroB ns := by
  obtain ⟨p, q, r, s, rfl, _⟩ := num_cases h
  unfold zeroB
  by_cases h1 : p = 0 <;> by_cases h2 : q = 0 <;> by_cases h3 : r = 0 <;> by_cases h4 : s = 0 <;> simp [h1, h2, h3, h4]
end TB

namespace TB
open PySem L2 PySem.Spec PyProof.Rows
/-! ### sorted, of a list of tuples of integers -/
section
variable {X : Cx} {W : WX} {F0 H0 : Hp} {Γ : List S} {e : Expr} {pos np : Pos}
end
end TB

namespace TB
open PySem L2 PySem.Spec PyProof.Rows
/-! ### an own list: isinstance, !=, pop -/
section
variable {X : Cx} {W : WX} {F0 H0 : Hp} {Γ : List S} {b : Expr} {ds : List D} {y : D} {pos np : Pos} {n : Str}
end
end TB

namespace TB
open PySem L2 PySem.Spec PyProof.Rows
/-! ### the 24 units -/
def unitsL : List (List Int) := [[-2, 0, 0, 0], [-1, -1, -1, -1], [-1, -1, -1, 1], [-1, -1, 1, -1], [-1, -1, 1, 1], [-1, 1, -1, -1], [-1, 1, -1, 1], [-1, 1, 1, -1], [-1, 1, 1, 1], [0, -2, 0, 0], [0, 0, -2, 0], [0, 0, 0, -2],
  [0, 0, 0, 2], [0, 0, 2, 0], [0, 2, 0, 0], [1, -1, -1, -1], [1, -1, -1, 1], [1, -1, 1, -1], [1, -1, 1, 1], [1, 1, -1, -1], [1, 1, -1, 1], [1, 1, 1, -1], [1, 1, 1, 1], [2, 0, 0, 0]]
theorem at_tis {xs : List (List Int)} {i : Nat} {z : Int} (hz : z = (i : Int)) (h : i < xs.length) : atI (xs.map ti) z = some (ti (xs.getD i [])) := by
  subst hz
  refine atI_nat ?_
  rw [List.getElem?_map, List.getElem?_eq_getElem h, List.getD_eq_getElem?_getD, List.getElem?_eq_getElem h]
  rfl
theorem units_G : ∀ x ∈ unitsL, G 10 x := fun x hx => by
  have h : isNum x = true ∧ ∀ y ∈ x, y.natAbs < 2 ^ 2 := (by decide +kernel : ∀ x ∈ unitsL, isNum x = true ∧ ∀ y ∈ x, y.natAbs < 2 ^ 2) x hx
  exact ⟨h.1, fun y hy => (show Bt 2 y from h.2 y hy).mono (by decide)⟩
theorem units_permR : ∀ a ∈ unitsL, unitsL.Perm (unitsL.map fun u => mulL a u) := by decide +kernel
theorem small_sq {a s : Int} (h : a * a ≤ s) (hs : s ≤ 4) : -2 ≤ a ∧ a ≤ 2 := by
  constructor
  · by_cases z : -2 ≤ a
    · exact z
    · have := Int.mul_le_mul_of_nonneg_left (show 3 ≤ -a by omega) (show 0 ≤ -a by omega)
      have e : -a * -a = a * a := by grind
      omega
  · by_cases z : a ≤ 2
    · exact z
    · have := Int.mul_le_mul_of_nonneg_left (show 3 ≤ a by omega) (show 0 ≤ a by omega)
      omega
theorem units_box : ∀ a ∈ ([-2, -1, 0, 1, 2] : List Int), ∀ b ∈ ([-2, -1, 0, 1, 2] : List Int), ∀ c ∈ ([-2, -1, 0, 1, 2] : List Int), ∀ d ∈ ([-2, -1, 0, 1, 2] : List Int), isNum [a, b, c, d] = true → normL [a, b, c, d] = 1 → [a, b, c, d] ∈ unitsL := by decide +kernel
theorem sq_nn (a : Int) : 0 ≤ a * a := by
  by_cases z : 0 ≤ a
  · exact Int.mul_nonneg z z
  · have := Int.mul_nonneg (show 0 ≤ -a by omega) (show 0 ≤ -a by omega)
    have e : -a * -a = a * a := by grind
    omega
theorem unit_iff {x : List Int} (h : isNum x = true) : decide (normL x = 1) = decide (x ∈ unitsL) := by
  obtain ⟨a, b, c, d, rfl, k⟩ := num_cases h
  have key : normL [a, b, c, d] = 1 ↔ [a, b, c, d] ∈ unitsL := by
    constructor
    · intro e
      have n := norm_pr k
      rw [e] at n
      have pa := sq_nn a; have pb := sq_nn b; have pc := sq_nn c; have pd := sq_nn d
      have qa := small_sq (a := a) (s := 4) (by omega) (by decide)
      have qb := small_sq (a := b) (s := 4) (by omega) (by decide)
      have qc := small_sq (a := c) (s := 4) (by omega) (by decide)
      have qd := small_sq (a := d) (s := 4) (by omega) (by decide)
      have box : ∀ z : Int, -2 ≤ z ∧ z ≤ 2 → z ∈ ([-2, -1, 0, 1, 2] : List Int) := fun z hz => by
        have : z = -2 ∨ z = -1 ∨ z = 0 ∨ z = 1 ∨ z = 2 := by omega
        simpa using this
      exact units_box a (box a qa) b (box b qb) c (box c qc) d (box d qd) h e
    · intro m
      exact (by decide +kernel : ∀ x ∈ unitsL, normL x = 1) _ m
  by_cases e : normL [a, b, c, d] = 1
  · rw [decide_eq_true e, decide_eq_true (key.mp e)]
  · rw [decide_eq_false e, decide_eq_false fun z => e (key.mpr z)]
end TB

namespace TB
open PySem L2 PySem.Spec PyProof.Rows
/-! ### sorted of tuples of any integers; max of data -/
def leL (p q : List Int) : Bool := decide (p ≤ q)
def sortLL (ls : List (List Int)) : List (List Int) := ls.mergeSort leL
theorem alike_ti (x y : List Int) : PySem.W.alike (ti x) (ti y) = true := by
  show PySem.W.alike (.tuple _) (.tuple _) = true
  simp only [PySem.W.alike]
  exact PySem.W.alike_ints x y
theorem lt_ti (x y : List Int) : PySem.W.dataLt (ti x) (ti y) = decide (x < y) := by
  unfold ti
  rw [PySem.W.dataLt_tuple]
  exact PySem.W.dataLt_ints x y
theorem le_ti : PySem.W.dataLe false ti = leL := by
  funext p q
  show (!PySem.W.dataLt (ti q) (ti p)) = decide (p ≤ q)
  rw [lt_ti]
  by_cases h : q < p
  · have h' : ¬ p ≤ q := fun r => List.not_lt.mpr r h
    rw [decide_eq_true h, decide_eq_false h']
    rfl
  · rw [decide_eq_false h, decide_eq_true (List.not_lt.mp h)]
    rfl
def TR (K : PySem.W.Frag) (H : Hp) (u : Value) (l : List Int) : Prop := ∃ t, u = Value.ref t ∧ Dp K H (.ref t) (ti l)
theorem tr_of {K : PySem.W.Frag} {H : Hp} : ∀ {xs : List V} {its : List Value} {ls : List (List Int)}, Vals xs its → DpAll K H xs (ls.map ti) → PySem.W.EachIs (TR K H) its ls
  | _, _, [], r, d => by
    cases d
    cases r
    exact .nil
  | _, _, l :: ls, r, d => by
    cases d with
    | cons d1 d2 =>
      cases r with
      | cons r1 r2 =>
        refine .cons ?_ (tr_of r2 d2)
        cases d1 with
        | tup h1 h2 =>
          cases r1
          exact ⟨_, rfl, .tup h1 h2⟩
theorem tr_back {K : PySem.W.Frag} {H : Hp} : ∀ {out : List Value} {ls : List (List Int)}, PySem.W.EachIs (TR K H) out ls → Vals (out.map bkV) out ∧ DpAll K H (out.map bkV) (ls.map ti)
  | _, _, .nil => ⟨.nil, .nil⟩
  | _, _, .cons ⟨t, e, d⟩ r => by
    subst e
    obtain ⟨h1, h2⟩ := tr_back r
    exact ⟨.cons (show RelV (.ref t) (.ref t) from rfl) h1, .cons d h2⟩
def rSortTT (K : PySem.W.Frag) : List V → Hp → VK → Prop := fun vs H Q => ∃ (F : Hp) (a : Addr) (xs : List V) (ls : List (List Int)), Ex F H ∧ vs = [V.ref a] ∧ SqL K H a xs ∧ DpAll K F xs (ls.map ti) ∧ (∀ l ∈ ls, l ≠ []) ∧
  ∀ (ys : List V) (p : Addr), DpAll K F ys ((sortLL ls).map ti) → H p = none → Q (.ref p) (upd H p (.lst ys))
theorem cr_sortTT {X : Cx} (hu : X.A.units + 64 < cLine) : CallR X (.builtin "sorted") (rSortTT X.K) := by
  intro pins s σ H vs us Q I r h
  obtain ⟨F, a, xs, ls, ex, rfl, hs, hd, hne, q⟩ := h
  obtain ⟨its, rv, hL, hz⟩ := I.list hs
  rw [Vals.ref1 r]
  have hE := tr_of rv hd
  have hlen := hE.length
  have hxl := rv.length
  refine PySem.W.sorted_data (enc := ti) (R := TR X.K F) hL.isList hE (hE.mono fun u l ⟨t, e, d⟩ => by
    subst e
    exact Dp.reads I _ _ _ (dp_ex ex _ _ d) rfl) (PySem.W.AllAlike.of alike_ti) (.inl fun d hd => ?_) (by omega) (fun b _ => ?_) fun out ho e2 => ?_
  · obtain ⟨l, hl, rfl⟩ := List.mem_map.mp hd
    cases l with
    | nil => exact absurd rfl (hne _ hl)
    | cons x r => exact ⟨_, _, rfl⟩
  · have e1 : (ti b).depth = 1 := by
      show PyData.depth (.tuple _) = 1
      rw [PyData.depth, PySem.W.depth_ints]
    rw [e1]
    omega
  · rw [le_ti] at e2
    obtain ⟨b1, b2⟩ := tr_back e2
    obtain ⟨ep, he'⟩ := PyProof.Rows.sortedAll_at s.heap its (List.toArray out)
    have hlen2 : (out.map bkV).length ≤ sizeLine := by
      rw [List.length_map]
      omega
    exact ⟨.ref _, upd H (s.heap.objs.size + 1) (.lst (out.map bkV)), I.laid (t' := s.toks) (fun _ _ => PyProof.Rows.sortedAll_old) (Nat.le_succ _) ⟨hlen2, out, ep, b1, by simpa using he'⟩, rfl, q _ _ b2 (I.hok.fresh (Nat.le_succ _))⟩
section
variable {X : Cx} {W : WX} {F0 H0 : Hp} {Γ : List S} {e : Expr} {pos np : Pos}
theorem rc_sortTT {K : PySem.W.Frag} {ls : List (List Int)} (hne : ∀ l ∈ ls, l ≠ []) : RC K (rSortTT K) [.list (ls.map ti)] (.o ((sortLL ls).map ti)) := rc1 fun v F H Q s dv q => by
  cases dv with
  | lst h1 h2 => exact ⟨F, _, _, ls, s, rfl, sl_ex s h1, h2, hne, fun ys p d hp => po_lst s d q p hp⟩
theorem je_sortTT {ls : List (List Int)} (hu : X.A.units + 64 < cLine) (hne : ∀ l ∈ ls, l ≠ []) (hm : X.mg "sorted" = none) (h : JE X W F0 H0 Γ e (.v (.list (ls.map ti)))) (hg : Gl X "sorted" := by rfl) (s1 : starEach [e] X.env = (false, eval e X.env) :: starEach [] X.env := by rfl) : JE X W F0 H0 Γ (.Call (.Name "sorted" np) [e] [] pos) (.o ((sortLL ls).map ti)) :=
  pe_imp (pe_callB (cr_sortTT hu) hg hm (by decide +kernel) (ja_cons h ja_nil s1) (by decide) (by decide) s1 rfl) fun σ H Q h => by
    obtain ⟨F, ok, q⟩ := po_of (F := H) (by trivial) h
    exact ⟨F, ok, fun vs F1 H1 z1 d1 => rc_sortTT hne vs F1 H1 Q z1.s d1 (po_mono z1 q)⟩
end
/-! max of a list of data -/
theorem vals_at : ∀ {xs : List V} {us : List Value} {i : Nat} {u : Value}, Vals xs us → us[i]? = some u → ∃ x, xs[i]? = some x ∧ RelV x u := fun {xs us i u} r e => by
  cases q : xs[i]? with
  | none => rw [r.none_of q] at e; cases e
  | some x =>
    obtain ⟨u', h1, h2⟩ := r.get q
    rw [h1] at e
    cases e
    exact ⟨x, rfl, h2⟩
def rMaxDD (K : PySem.W.Frag) : List V → Hp → VK → Prop := fun vs H Q => ∃ (F : Hp) (a : Addr) (xs : List V) (d : D) (ds : List D), Ex F H ∧ vs = [V.ref a] ∧ SqL K H a xs ∧ DpAll K F xs (d :: ds) ∧ PySem.W.AlikeAll (d :: ds) ∧ PyData.depthAll (d :: ds) ≤ 60 ∧
  ∀ v : V, Dp K F v (PySem.W.maxD d ds) → Q v H
theorem cr_maxDD {X : Cx} (hc : X.calm = true) (hu : X.A.units + 64 < cLine) : CallR X (.builtin "max") (rMaxDD X.K) := by
  intro pins s σ H vs us Q I r h
  obtain ⟨F, a, xs, d, ds, ex, rfl, hs, hd, hal, hdp, q⟩ := h
  obtain ⟨its, rv, hL, hz⟩ := I.list hs
  rw [Vals.ref1 r]
  obtain ⟨as, hr⟩ := Dp.readsAll I (d :: ds) xs its (da_ex ex _ _ hd) rv
  refine PySem.W.max_list_data (I.ok.hd hc) hL.isList (by simpa using hr) hal (by omega) fun i v h' tk bs hv r' hk => ?_
  have hv' : its[i]? = some v := by simpa using hv
  obtain ⟨x, hx, rx⟩ := vals_at rv hv'
  obtain ⟨e, he, de⟩ := da_get' hd hx
  obtain ⟨cs, r1⟩ := Dp.reads I e x v (dp_ex ex _ _ de) rx
  have r2 := PyProof.Rows.reads_det (fun b o e _ => hk b o e) r1 r'
  rw [← r2.1] at de
  exact ⟨x, H, I.kept hk, rx, q x de⟩
section
variable {X : Cx} {W : WX} {F0 H0 : Hp} {Γ : List S} {e : Expr} {pos np : Pos}
theorem je_maxDD {d : D} {ds : List D} (hc : X.calm = true) (hu : X.A.units + 64 < cLine) (hal : PySem.W.AlikeAll (d :: ds)) (hdp : PyData.depthAll (d :: ds) ≤ 60) (hm : X.mg "max" = none) (h : JE X W F0 H0 Γ e (.v (.list (d :: ds)))) (hg : Gl X "max" := by rfl) (s1 : starEach [e] X.env = (false, eval e X.env) :: starEach [] X.env := by rfl) : JE X W F0 H0 Γ (.Call (.Name "max" np) [e] [] pos) (.v (PySem.W.maxD d ds)) :=
  pe_imp (pe_callB (cr_maxDD hc hu) hg hm (by decide +kernel) (ja_cons h ja_nil s1) (by decide) (by decide) s1 rfl) fun σ H Q ⟨F, ok, q⟩ => ⟨F, ok, fun vs F1 H1 z1 d1 => by
    cases d1 with
    | cons a1 a2 =>
      cases a2
      cases a1 with
      | lst h1 h2 => exact ⟨F1, _, _, d, ds, z1.s, rfl, sl_ex z1.s h1, h2, hal, hdp, fun v dv => q v F1 H1 z1 dv⟩⟩
end
end TB

namespace TB
open PySem L2 PySem.Spec PyProof.Rows
/-! ### the order of lists of integers; what sorted and max give -/
theorem ll_trans {a b c : List Int} (h : a ≤ b) (g : b ≤ c) : a ≤ c := List.le_trans h g
theorem ll_anti {a b : List Int} (h : a ≤ b) (g : b ≤ a) : a = b := List.le_antisymm h g
theorem ll_total (a b : List Int) : a ≤ b ∨ b ≤ a := List.le_total a b
theorem leL_tot : PySem.W.TotalLe leL := ⟨fun a b c h g => decide_eq_true (ll_trans (of_decide_eq_true h) (of_decide_eq_true g)), fun a b => (ll_total a b).imp (fun h => decide_eq_true h) fun h => decide_eq_true h⟩
theorem sort_pw (ls : List (List Int)) : (sortLL ls).Pairwise (fun a b => a ≤ b) := (PySem.W.sort_pairwise leL_tot ls).imp fun h => of_decide_eq_true h
theorem sort_perm (ls : List (List Int)) : (sortLL ls).Perm ls := List.mergeSort_perm ls leL
theorem asc_uniq : ∀ {xs ys : List (List Int)}, xs.Perm ys → xs.Pairwise (fun a b => a ≤ b) → ys.Pairwise (fun a b => a ≤ b) → xs = ys
  | [], _, p, _, _ => p.symm.eq_nil.symm
  | x :: xs, [], p, _, _ => absurd p.eq_nil (List.cons_ne_nil _ _)
  | x :: xs, y :: ys, p, .cons h1 h2, .cons g1 g2 => by
    have e : x = y := by
      rcases List.mem_cons.mp (p.mem_iff.mp List.mem_cons_self) with e | m
      · exact e
      · rcases List.mem_cons.mp (p.mem_iff.mpr List.mem_cons_self) with e | m2
        · exact e.symm
        · exact ll_anti (h1 y m2) (g1 x m)
    subst e
    rw [asc_uniq (List.Perm.cons_inv p) h2 g2]
theorem sort_congr {xs ys : List (List Int)} (p : xs.Perm ys) : sortLL xs = sortLL ys := asc_uniq ((sort_perm xs).trans (p.trans (sort_perm ys).symm)) (sort_pw xs) (sort_pw ys)
theorem sort_id {xs : List (List Int)} (h : xs.Pairwise (fun a b => a ≤ b)) : sortLL xs = xs := asc_uniq (sort_perm xs) (sort_pw xs) h
theorem sort_to {xs ys : List (List Int)} (p : ys.Perm xs) (h : ys.Pairwise (fun a b => a ≤ b)) : sortLL xs = ys := (sort_congr p.symm).trans (sort_id h)
/-- the greatest: m stands for it, none is greater -/
theorem max_spec {β : Type} (enc : β → D) (irr : ∀ a, PySem.W.dataLt (enc a) (enc a) = false) (asy : ∀ a b, PySem.W.dataLt (enc a) (enc b) = true → PySem.W.dataLt (enc b) (enc a) = false)
    (ntr : ∀ a b c, PySem.W.dataLt (enc a) (enc b) = false → PySem.W.dataLt (enc b) (enc c) = false → PySem.W.dataLt (enc a) (enc c) = false) :
    ∀ (xs : List β) (x : β), ∃ m ∈ x :: xs, PySem.W.maxD (enc x) (xs.map enc) = enc m ∧ ∀ y ∈ x :: xs, PySem.W.dataLt (enc m) (enc y) = false := by
  intro xs
  induction xs with
  | nil => exact fun x => ⟨x, List.mem_cons_self, rfl, fun y hy => by
      rw [List.mem_singleton] at hy
      subst hy
      exact irr _⟩
  | cons z zs ih =>
    intro x
    cases hb : PySem.W.dataLt (enc x) (enc z) with
    | true =>
      obtain ⟨m, h1, h2, h3⟩ := ih z
      refine ⟨m, List.mem_cons_of_mem _ h1, ?_, fun y hy => ?_⟩
      · rw [← h2]
        unfold PySem.W.maxD
        rw [List.map_cons, List.foldl_cons, hb]
        rfl
      · rcases List.mem_cons.mp hy with rfl | hy
        · exact ntr _ _ _ (h3 z List.mem_cons_self) (asy _ _ hb)
        · exact h3 y hy
    | false =>
      obtain ⟨m, h1, h2, h3⟩ := ih x
      refine ⟨m, ?_, ?_, fun y hy => ?_⟩
      · rcases List.mem_cons.mp h1 with rfl | h
        · exact List.mem_cons_self
        · exact List.mem_cons_of_mem _ (List.mem_cons_of_mem _ h)
      · rw [← h2]
        unfold PySem.W.maxD
        rw [List.map_cons, List.foldl_cons, hb]
        rfl
      · rcases List.mem_cons.mp hy with rfl | hy
        · exact h3 _ List.mem_cons_self
        · rcases List.mem_cons.mp hy with rfl | hy
          · exact ntr _ _ _ (h3 x List.mem_cons_self) hb
          · exact h3 y (List.mem_cons_of_mem _ hy)
theorem ll_asy {a b : List Int} (h : a < b) : ¬ b < a := List.lt_asymm h
theorem nlt_le {a b : List Int} (h : ¬ a < b) : b ≤ a := List.not_lt.mp h
theorem le_nlt {a b : List Int} (h : b ≤ a) : ¬ a < b := fun r => List.not_lt.mpr h r
/-- the greatest of some lists, by its properties -/
theorem max_ti (xs : List (List Int)) (x : List Int) : ∃ m ∈ x :: xs, PySem.W.maxD (ti x) (xs.map ti) = ti m ∧ ∀ y ∈ x :: xs, y ≤ m := by
  obtain ⟨m, h1, h2, h3⟩ := max_spec ti (fun a => by rw [lt_ti]; exact decide_eq_false (List.lt_irrefl _)) (fun a b h => by
    rw [lt_ti] at h ⊢
    exact decide_eq_false (ll_asy (of_decide_eq_true h))) (fun a b c h g => by
    rw [lt_ti] at h g ⊢
    exact decide_eq_false (le_nlt (ll_trans (nlt_le (of_decide_eq_false g)) (nlt_le (of_decide_eq_false h))))) xs x
  exact ⟨m, h1, h2, fun y hy => nlt_le (by
    have := h3 y hy
    rw [lt_ti] at this
    exact of_decide_eq_false this)⟩
/-- two tuples in a tuple -/
def pd (f : List Int → List Int) (u : List Int) : D := .tuple [ti (f u), ti u]
theorem eqv_ti' (x y : List Int) : PyData.eqv (ti x) (ti y) = decide (x = y) := eqv_ti x y
theorem lt_pd (f : List Int → List Int) (u v : List Int) : PySem.W.dataLt (pd f u) (pd f v) = if f u = f v then decide (u < v) else decide (f u < f v) := by
  unfold pd
  rw [PySem.W.dataLt_pair (alike_ti _ _) (alike_ti _ _), eqv_ti', eqv_ti', lt_ti, lt_ti]
  by_cases e : f u = f v
  · rw [if_pos (decide_eq_true e), if_pos e]
    by_cases e2 : u = v
    · subst e2
      rw [if_pos (decide_eq_true rfl)]
      exact (decide_eq_false (List.lt_irrefl _)).symm
    · rw [if_neg (by rw [decide_eq_false e2]; exact Bool.false_ne_true)]
  · rw [if_neg (by rw [decide_eq_false e]; exact Bool.false_ne_true), if_neg e]
theorem max_pd (f : List Int → List Int) (xs : List (List Int)) (x : List Int) : ∃ m ∈ x :: xs, PySem.W.maxD (pd f x) (xs.map (pd f)) = pd f m ∧ ∀ y ∈ x :: xs, f y ≤ f m := by
  have nl : ∀ a b, PySem.W.dataLt (pd f a) (pd f b) = false → f b ≤ f a ∧ (f a = f b → b ≤ a) := fun a b h => by
    rw [lt_pd] at h
    by_cases e : f a = f b
    · rw [if_pos e] at h
      exact ⟨by rw [e]; exact List.le_refl _, fun _ => nlt_le (of_decide_eq_false h)⟩
    · rw [if_neg e] at h
      exact ⟨nlt_le (of_decide_eq_false h), fun z => absurd z e⟩
  obtain ⟨m, h1, h2, h3⟩ := max_spec (pd f) (fun a => by rw [lt_pd, if_pos rfl]; exact decide_eq_false (List.lt_irrefl _)) (fun a b h => by
    rw [lt_pd] at h ⊢
    by_cases e : f a = f b
    · rw [if_pos e] at h
      rw [if_pos e.symm]
      exact decide_eq_false (ll_asy (of_decide_eq_true h))
    · rw [if_neg e] at h
      rw [if_neg fun z => e z.symm]
      exact decide_eq_false (ll_asy (of_decide_eq_true h))) (fun a b c h g => by
    obtain ⟨a1, a2⟩ := nl _ _ h
    obtain ⟨b1, b2⟩ := nl _ _ g
    rw [lt_pd]
    by_cases e : f a = f c
    · rw [if_pos e]
      have ab : f a = f b := ll_anti (by rw [e]; exact b1) a1
      have bc : f b = f c := by rw [← ab]; exact e
      exact decide_eq_false (le_nlt (ll_trans (b2 bc) (a2 ab)))
    · rw [if_neg e]
      exact decide_eq_false (le_nlt (ll_trans b1 a1))) xs x
  exact ⟨m, h1, h2, fun y hy => (nl _ _ (h3 y hy)).1⟩
theorem alike_all_ti (xs : List (List Int)) : PySem.W.AlikeAll (xs.map ti) := by
  constructor
  · intro x hx y hy
    obtain ⟨a, _, rfl⟩ := List.mem_map.mp hx
    obtain ⟨b, _, rfl⟩ := List.mem_map.mp hy
    exact alike_ti a b
  · intro x hx
    obtain ⟨a, _, rfl⟩ := List.mem_map.mp hx
    exact fun e => by cases e
theorem alike_all_pd (f : List Int → List Int) (xs : List (List Int)) : PySem.W.AlikeAll (xs.map (pd f)) := by
  constructor
  · intro x hx y hy
    obtain ⟨a, _, rfl⟩ := List.mem_map.mp hx
    obtain ⟨b, _, rfl⟩ := List.mem_map.mp hy
    show PySem.W.alike (.tuple [_, _]) (.tuple [_, _]) = true
    simp only [PySem.W.alike, PySem.W.alikeAll, PySem.W.alike_ints, Bool.and_self]
  · intro x hx
    obtain ⟨a, _, rfl⟩ := List.mem_map.mp hx
    exact fun e => by cases e
theorem dep_ti (x : List Int) : (ti x).depth = 1 := by
  show PyData.depth (.tuple _) = 1
  rw [PyData.depth, PySem.W.depth_ints]
theorem dep_all {enc : List Int → D} {n : Nat} (h : ∀ x, (enc x).depth ≤ n) : ∀ xs : List (List Int), PyData.depthAll (xs.map enc) ≤ n
  | [] => Nat.zero_le _
  | x :: xs => by
    rw [List.map_cons, PyData.depthAll]
    have := h x
    have := dep_all h xs
    omega
theorem dep_pd (f : List Int → List Int) (u : List Int) : (pd f u).depth ≤ 2 := by
  show PyData.depth (.tuple [_, _]) ≤ 2
  simp only [PyData.depth, PyData.depthAll, PySem.W.depth_ints]
  exact Nat.le_refl _
end TB

namespace TB
open PySem L2 PySem.Spec PyProof.Rows
section
variable {X : Cx} {W : WX} {F0 H0 : Hp} {Γ : List S} {a b : Expr} {ds : List D} {x : D} {pos : Pos}
end
/-! a constant of the module: a tuple of tuples of integers -/
inductive KAll (K : PySem.W.Frag) : List Addr → List (List Int) → Prop
  | nil : KAll K [] []
  | cons {a : Addr} {as : List Addr} {x : List Int} {xs : List (List Int)} : (∀ F, Dp K F (.ref a) (ti x)) → KAll K as xs → KAll K (a :: as) (x :: xs)
theorem kall_da {K : PySem.W.Frag} (F : Hp) : ∀ {as : List Addr} {xs : List (List Int)}, KAll K as xs → DpAll K F (as.map V.ref) (xs.map ti)
  | _, _, .nil => .nil
  | _, _, .cons h t => .cons (h F) (kall_da F t)
theorem vals_refs : ∀ as : List Addr, Vals (as.map V.ref) (as.map Value.ref)
  | [] => .nil
  | a :: as => .cons (show RelV (.ref a) (.ref a) from rfl) (vals_refs as)
theorem dp_kT {K : PySem.W.Frag} {a : Addr} {od : Option Addr} {as : List Addr} {xs : List (List Int)} {n : Nat} {sl : Array (Option Value)} (h : K.lookup a = some ⟨.type "tuple", od, .seq (as.map Value.ref).toArray n, sl⟩) (hl : as.length ≤ 100) (k : KAll K as xs) : ∀ F, Dp K F (.ref a) (.tuple (xs.map ti)) := fun F =>
  .tup (xs := as.map V.ref) (.inr ⟨_, _, _, h, rfl, rfl, (by
    have e : (as.map Value.ref).toArray.size = as.length := by simp
    have s : (100 : Nat) ≤ sizeLine := by decide
    omega), by simpa using vals_refs as⟩) (kall_da F k)
/-! lists of tuples of integers, compared -/
/-! the law's own units -/
/-! a small number that is drawn -/
end TB
namespace TB
theorem num_ne {x : List Int} (h : isNum x = true) : x ≠ [] := by
  obtain ⟨a, b, c, d, rfl, _⟩ := num_cases h
  exact List.cons_ne_nil _ _
end TB

namespace TB
open PySem L2 PySem.Spec PyProof.Rows
abbrev ClU := Bool × Value × (Addr → Value → Option Addr → TS)
/-- clauses with a name or without -/
def wMixed (K : PySem.W.Frag) (i : Nat) (O : WX) (D : Ends) : List ClU → WX
  | [] => O
  | q :: l => fun k d σ H => ∃ b, PySem.W.exmOne K k q.2.1 = some b
      ∧ (b = true → ∀ a, H a = none → q.2.2 a k d (onlyRt D) (match q.1 with | true => σ.set i (some (.ref a)) | false => σ) H)
      ∧ (b = false → wMixed K i O D l k d σ H)
inductive Mixed (X : Cx) (n : Str) : List ExceptHandler → List ClU → Prop
  | nil : Mixed X n [] []
  | cons {x : Str} {C : Value} {ts : Addr → Value → Option Addr → TS} {b₀ : Stmt} {suite : List Stmt} {p p' : Pos} {es : List ExceptHandler} {l : List ClU} (nm : Names X x C)
      (su : ∀ (a : Addr) (oe : Obj) (k : Value) (d : Option Addr) (pn : List (Addr × Obj)), Zc k d oe → (∃ vs, oe.data = .fields vs) →
        PSs (X.suite a ((a, oe) :: pn)) (b₀ :: suite) (ts a k d))
      (t : Mixed X n es l) : Mixed X n (.ExceptHandler (some (.Name x p)) (some n) (b₀ :: suite) p' :: es) ((true, C, ts) :: l)
  | bare {x : Str} {C : Value} {ts : Addr → Value → Option Addr → TS} {b₀ : Stmt} {suite : List Stmt} {p p' : Pos} {es : List ExceptHandler} {l : List ClU} (nm : Names X x C)
      (su : ∀ (a : Addr) (oe : Obj) (k : Value) (d : Option Addr) (pn : List (Addr × Obj)), Zc k d oe → (∃ vs, oe.data = .fields vs) →
        PSs (X.suite a ((a, oe) :: pn)) (b₀ :: suite) (ts a k d))
      (t : Mixed X n es l) : Mixed X n (.ExceptHandler (some (.Name x p)) none (b₀ :: suite) p' :: es) ((false, C, ts) :: l)
section
variable {X : Cx} {n : Str} {i : Nat} {body : List Stmt} {e₀ : ExceptHandler} {es : List ExceptHandler} {l : List ClU} {pos : Pos} {tb : WX → TS} {O : WX}
theorem ps_mixed (st : X.stack = X.env :: X.outer) (fr : X.env.frame = some X.env.locals) (nd : X.N.Nodup) (hi : X.N[i]? = some n) (kl : X.env.kindOf n = some .local) (tk : L2.Takes X O)
    (hb : ∀ (W : WX) (pn : List (Addr × Obj)) (xe : Value → Shared → Prop), L2.Takes (X.tr pn xe) W →
      PassesOwn (model X.prog X.w) X.A X.env xe → PSs (X.tr pn xe) body (tb W))
    (cl : Mixed X n (e₀ :: es) l) : PS X (.Try body (e₀ :: es) [] [] pos) (fun D σ H => tb (wMixed X.K i O D l) D σ H) := by
  refine ⟨fun pins s σ H D I wish => ?_⟩
  have ok := I.ok
  have loc : Loc X.env.scope n := .inl kl
  have hfr : X.A.frames = some (X.env :: X.outer) := by
    rw [ok.frames, st]
  refine wpAny_Try_except (wpAny_mono ((hb (wMixed X.K i O D l) (X.pn ++ pins) _
    (fun u s1 caught => ?_) PassesOwn.looking).run [] s σ H D (I.toTry _) wish) (fun fl s1 out => ?_) (fun _ _ left => left))
  · obtain ⟨a, B, s0, _, σ1, H1, k, d, rfl, J0, nb, up, sk, na, os, ag, wi⟩ := caught
    have J : Inv X pins σ1 H1 s0 := J0.ofTry ok
    have sk2 : Sky B (X.env :: X.outer) a (Zc k d) X.env.locals s1.heap := by
      rw [← st]
      exact sk
    show wpAny (model X.prog X.w) X.A (noteFrame (.ref a) X.env) _ _ _
    refine Sky.land Zc.steady hfr fr sk2 fun hA lA uA => ?_
    have JA : Inv X pins σ1 H1 { s1 with heap := hA } := J.landed nb lA.1 (up.trans uA) os ag
    obtain ⟨oA, vA, eA, zA, dA⟩ := lA.there
    have out : a ∉ frs (X.env :: X.outer) := fun m => by
      obtain ⟨_, o2, e2, no⟩ := lA.2.2.1.mem m
      cases eA.symm.trans e2
      exact no _ dA
    have nL : a ≠ X.env.locals := fun z =>
      out (List.mem_filterMap.mpr ⟨X.env, List.mem_cons_self, by rw [fr, z]⟩)
    have nF : a ∉ X.fs := fun m => by
      obtain ⟨e, he, w⟩ := List.mem_filterMap.mp m
      exact out (List.mem_filterMap.mpr ⟨e, List.mem_cons_of_mem _ he, w⟩)
    have SA := JA.suite eA dA na nL nF
    clear hb
    generalize e₀ :: es = hs at cl ⊢
    clear wish
    induction cl with
    | nil =>
      refine wpAny_handleBy_nil ?_
      obtain ⟨_, _, _, oe, vs, T, _, _, he, _, hd, h1, _⟩ := id lA
      unfold PySem.passOn
      refine wpAny_bind (wpAny_field he hd h1 ?_)
      rw [if_neg (show ¬ ((Value.ref T == Value.none) = true) from by simp)]
      have fin : wpAny (model X.prog X.w) X.A (setFlight (.ref a) X.env.frame)
          (fun _ s4 => wpAny (model X.prog X.w) X.A (throw (.ref a) : Sem Flow) (SP X pins D) X.xe s4) X.xe { s1 with heap := hA } := by
        rw [fr]
        refine HandSPX.setFlight_upZ lA fun h4 sk4 u4 => wpAny_throw (tk _ _ ?_)
        refine ⟨a, B, s0, pins, σ1, H1, k, d, rfl, J, nb, (up.trans uA).trans u4, ?_, na, os, ag, wi⟩
        exact .inr (.inr (by rw [st]; exact sk4))
      first
        | exact wpAny_bind (wpAny_pure (wpAny_bind fin))
        | exact wpAny_bind fin
    | @cons x C ts b₀ suite p p' es2 l2 nm su t ih =>
      obtain ⟨b, hx, yes, no⟩ := wi
      refine wpAny_handleBy_cons (codeAny_handlers_test ?_) (by intro z; cases z)
      have LT : PySem.W.Looks (model X.prog X.w) hA (typeOf (.ref a)) k := fun A Q E s keep fin =>
        wpAny_typeOf_ref (keep _ _ eA) (by rw [zA.1]; exact fin)
      have LM := PySem.W.exm_one (M := model X.prog X.w) JA.kIn LT hx
      have asks : ∀ {Q : Value → Shared → Prop} {E : Value → Shared → Prop}, Q C { s1 with heap := hA } →
          wpAny (model X.prog X.w) (X.A.mark (some (.ref a))) (eval (.Name x p) X.env) Q E { s1 with heap := hA } := fun fin => by
        obtain ⟨g, db, m | ⟨m, v, z⟩⟩ := nm
        · exact ld_glob (X := X.suite a ((a, oA) :: (X.pn ++ pins))) SA g m fin db
        · exact ld_blt (X := X.suite a ((a, oA) :: (X.pn ++ pins))) SA g m v fin z db
      refine asks (LM.here ?_)
      cases b with
      | false =>
        show wpAny _ X.A (handleBy (.ref a) X.env es2) _ _ _
        exact ih (no rfl)
      | true =>
        refine codeAny_handlers_suite_as (HandSPX.lands_againZ lA fun hB lB uB => ?_)
        have JB : Inv X pins σ1 H1 { s1 with heap := hB } := J.landed nb lB.1 ((up.trans uA).trans uB) os ag
        obtain ⟨oB, vB, eB, zB, dB⟩ := lB.there
        refine store_ok (X := X.suite a ((a, oB) :: (X.pn ++ pins))) (v := .ref a) (JB.suite eB dB na nL nF) nd hi loc rfl (fun s5 S5 => ?_) (.inr kl)
        refine wpAny_mono ((su a oB k d (X.pn ++ pins) zB ⟨_, dB⟩).run [] s5 _ H1 (onlyRt D) S5 (yes rfl a na)) (fun fl s6 end6 => ?_) (fun _ _ z => z.elim)
        cases fl with
        | next => exact (end6.choose_spec.choose_spec.2 : False).elim
        | brk => exact (end6.choose_spec.choose_spec.2 : False).elim
        | cont => exact (end6.choose_spec.choose_spec.2 : False).elim
        | ret u =>
          obtain ⟨v6, σ6, H6, S6, r6, w6⟩ := end6
          exact gone_ok (S6.unsuite ok) nd hi kl fun s7 J7 => ⟨_, _, _, J7, r6, w6⟩
    | @bare x C ts b₀ suite p p' es2 l2 nm su t ih =>
      obtain ⟨b, hx, yes, no⟩ := wi
      refine wpAny_handleBy_cons (codeAny_handlers_test ?_) (by intro z; cases z)
      have LT : PySem.W.Looks (model X.prog X.w) hA (typeOf (.ref a)) k := fun A Q E s keep fin =>
        wpAny_typeOf_ref (keep _ _ eA) (by rw [zA.1]; exact fin)
      have LM := PySem.W.exm_one (M := model X.prog X.w) JA.kIn LT hx
      have asks : ∀ {Q : Value → Shared → Prop} {E : Value → Shared → Prop}, Q C { s1 with heap := hA } →
          wpAny (model X.prog X.w) (X.A.mark (some (.ref a))) (eval (.Name x p) X.env) Q E { s1 with heap := hA } := fun fin => by
        obtain ⟨g, db, m | ⟨m, v, z⟩⟩ := nm
        · exact ld_glob (X := X.suite a ((a, oA) :: (X.pn ++ pins))) SA g m fin db
        · exact ld_blt (X := X.suite a ((a, oA) :: (X.pn ++ pins))) SA g m v fin z db
      refine asks (LM.here ?_)
      cases b with
      | false =>
        show wpAny _ X.A (handleBy (.ref a) X.env es2) _ _ _
        exact ih (no rfl)
      | true =>
        refine codeAny_handlers_suite (HandSPX.lands_againZ lA fun hB lB uB => ?_)
        have JB : Inv X pins σ1 H1 { s1 with heap := hB } := J.landed nb lB.1 ((up.trans uA).trans uB) os ag
        obtain ⟨oB, vB, eB, zB, dB⟩ := lB.there
        refine wpAny_mono ((su a oB k d (X.pn ++ pins) zB ⟨_, dB⟩).run [] _ _ H1 (onlyRt D) (JB.suite eB dB na nL nF) (yes rfl a na)) (fun fl s6 end6 => ?_) (fun _ _ z => z.elim)
        cases fl with
        | next => exact (end6.choose_spec.choose_spec.2 : False).elim
        | brk => exact (end6.choose_spec.choose_spec.2 : False).elim
        | cont => exact (end6.choose_spec.choose_spec.2 : False).elim
        | ret u =>
          obtain ⟨v6, σ6, H6, S6, r6, w6⟩ := end6
          exact ⟨_, _, _, S6.unsuite ok, r6, w6⟩
  · cases fl with
    | next =>
      obtain ⟨σ', H', J, w⟩ := out
      exact wpAny_execs_nil ⟨σ', H', J.ofTry ok, w⟩
    | brk => exact out.elim fun σ' z => z.elim fun H' z => ⟨σ', H', z.1.ofTry ok, z.2⟩
    | cont => exact out.elim fun σ' z => z.elim fun H' z => ⟨σ', H', z.1.ofTry ok, z.2⟩
    | ret u =>
      obtain ⟨v, σ', H', J, r, w⟩ := out
      exact ⟨v, σ', H', J.ofTry ok, r, w⟩
end
section
variable {X : Cx} {W : WX} {F0 H0 : Hp} {Γ Γ1 : List S} {body su1 su2 : List Stmt} {b1 b2 : Stmt} {n x1 x2 : Str} {i : Nat} {p1 p2 q1 q2 pos : Pos} {C1 C2 c : Addr} {so : SO} {y : D}
end
section
variable {X : Cx} {W : WX} {F0 H0 : Hp} {Γ : List S} {a b e : Expr} {x y : D} {pos np : Pos} {c : Addr}
end
end TB

namespace TB
open PySem L2 PySem.Spec PyProof.Rows
/-! ### associates -/
def assoL (x : List Int) : List (List Int) := unitsL.map (mulL x)
def canonL (x : List Int) : List Int := (sortLL (assoL x)).getD 23 []
def leadU (x : List Int) : List Int := (unitsL.find? fun u => decide (mulL x u = canonL x)).getD []
def behindL (x : List Int) : List Int := conjL (leadU x)
theorem u_num {u : List Int} (h : u ∈ unitsL) : isNum u = true := (units_G u h).num
theorem asso_len (x : List Int) : (sortLL (assoL x)).length = 24 := by
  rw [(sort_perm _).length_eq, assoL, List.length_map]
  rfl
theorem getD_in {xs : List (List Int)} {i : Nat} (h : i < xs.length) : xs.getD i [] ∈ xs := by
  rw [List.getD_eq_getElem?_getD, List.getElem?_eq_getElem h]
  exact List.getElem_mem h
theorem asc_last {xs : List (List Int)} {n : Nat} (hl : xs.length = n + 1) (hp : xs.Pairwise (fun a b => a ≤ b)) : ∀ y ∈ xs, y ≤ xs.getD n [] := fun y hy => by
  obtain ⟨i, hi, rfl⟩ := List.getElem_of_mem hy
  rw [List.getD_eq_getElem?_getD, List.getElem?_eq_getElem (by omega)]
  show xs[i] ≤ xs[n]
  by_cases e : i = n
  · subst e
    exact List.le_refl _
  · exact (List.pairwise_iff_getElem.mp hp) i n hi (by omega) (by omega)
theorem canon_in (x : List Int) : canonL x ∈ assoL x := (sort_perm _).mem_iff.mp (getD_in (by rw [asso_len]; decide))
theorem canon_ge (x : List Int) : ∀ y ∈ assoL x, y ≤ canonL x := fun y hy => asc_last (asso_len x) (sort_pw _) y ((sort_perm _).mem_iff.mpr hy)
theorem canon_eq {x m : List Int} (h1 : m ∈ assoL x) (h2 : ∀ y ∈ assoL x, y ≤ m) : m = canonL x := ll_anti (canon_ge x m h1) (h2 _ (canon_in x))
/-- a number other than 0 may be taken away ahead -/
theorem norm0 {x : List Int} (h : isNum x = true) (h0 : normL x = 0) : zeroB x = true := by
  obtain ⟨a, b, c, d, rfl, k⟩ := num_cases h
  have n := norm_pr k
  rw [h0] at n
  have pa := sq_nn a; have pb := sq_nn b; have pc := sq_nn c; have pd := sq_nn d
  have z : ∀ y : Int, y * y = 0 → y = 0 := fun y hy => (Int.mul_eq_zero.mp hy).elim id id
  have ea := z a (by omega)
  have eb := z b (by omega)
  have ec := z c (by omega)
  have ed := z d (by omega)
  subst ea eb ec ed
  rfl
theorem times_inj {m : Int} (h : m ≠ 0) : ∀ {x y : List Int}, timesL m x = timesL m y → x = y
  | [], [], _ => rfl
  | [], _ :: _, e => by cases e
  | _ :: _, [], e => by cases e
  | a :: x, b :: y, e => by
    unfold timesL at e
    rw [List.map_cons, List.map_cons] at e
    injection e with e1 e2
    rw [Int.eq_of_mul_eq_mul_right h e1, times_inj h e2]
theorem mul_cancel {x u v : List Int} (hx : isNum x = true) (h0 : zeroB x = false) (hu : isNum u = true) (hv : isNum v = true) (e : mulL x u = mulL x v) : u = v := by
  have hc := num_conj hx
  have e1 := congrArg (mulL (conjL x)) e
  rw [← mul_asc hc hx hu, ← mul_asc hc hx hv, (mul_conj hx).2, (mul_int _ hu).1, (mul_int _ hv).1] at e1
  refine times_inj (fun z => ?_) e1
  rw [norm0 hx z] at h0
  cases h0
theorem lead_ok (x : List Int) : leadU x ∈ unitsL ∧ mulL x (leadU x) = canonL x := by
  obtain ⟨u, hu, e⟩ := List.mem_map.mp (canon_in x)
  unfold leadU
  cases q : unitsL.find? fun u => decide (mulL x u = canonL x) with
  | none => exact absurd (decide_eq_true e) (List.find?_eq_none.mp q u hu)
  | some v => exact ⟨List.mem_of_find?_eq_some q, of_decide_eq_true (List.find?_some (p := fun u => decide (mulL x u = canonL x)) q)⟩
theorem lead_eq {x u : List Int} (hx : isNum x = true) (h0 : zeroB x = false) (hu : u ∈ unitsL) (e : mulL x u = canonL x) : u = leadU x :=
  mul_cancel hx h0 (u_num hu) (u_num (lead_ok x).1) (e.trans (lead_ok x).2.symm)
theorem units_cj : ∀ a ∈ unitsL, conjL a ∈ unitsL ∧ mulL a (conjL a) = [2, 0, 0, 0] ∧ mulL (conjL a) a = [2, 0, 0, 0] := by decide +kernel
theorem behind_u (x : List Int) : behindL x ∈ unitsL := (units_cj _ (lead_ok x).1).1
theorem mul_oneR {x : List Int} (hx : isNum x = true) : mulL x [2, 0, 0, 0] = x := by
  rw [show ([2, 0, 0, 0] : List Int) = [2 * 1, 0, 0, 0] from rfl, (mul_int 1 hx).2]
  unfold timesL
  simp
theorem behind_mul {x : List Int} (hx : isNum x = true) : mulL (canonL x) (behindL x) = x := by
  obtain ⟨h1, h2⟩ := lead_ok x
  rw [← h2, behindL, mul_asc hx (u_num h1) (u_num (units_cj _ h1).1), (units_cj _ h1).2.1, mul_oneR hx]
/-- the associates of an associate -/
theorem asso_perm {x u : List Int} (hx : isNum x = true) (hu : u ∈ unitsL) : (assoL (mulL x u)).Perm (assoL x) := by
  have e : assoL (mulL x u) = (unitsL.map (mulL u)).map (mulL x) := by
    unfold assoL
    rw [List.map_map]
    refine List.map_congr_left fun v hv => ?_
    exact mul_asc hx (u_num hu) (u_num hv)
  rw [e]
  exact ((units_permR u hu).symm).map _
theorem canon_asso {x u : List Int} (hx : isNum x = true) (hu : u ∈ unitsL) : canonL (mulL x u) = canonL x := by
  unfold canonL
  rw [sort_congr (asso_perm hx hu)]
theorem G.behind (x : List Int) : G 10 (behindL x) := units_G _ (behind_u x)
/-- promises of defs over a number that is not 0 -/
def RZ (c q : Addr) (g : List Int → Out) : List D → Out → Prop := fun ds o => ∃ d ns, ds = [d] ∧ Seq d ns ∧ ns.length < 1000 ∧ Sm 300000 ns ∧ o = if isNum ns = true then (if zeroB ns = true then .x q else g ns) else .x c
theorem rzg {c q : Addr} {g : List Int → Out} {m : Nat} {x : List Int} (a : G m x) (h0 : zeroB x = false) (h1 : m ≤ 300000 := by decide) : RZ c q g [ti x] (g x) := ⟨_, x, rfl, .inl rfl, num_len1000 a.num, a.sm.mono h1, by rw [if_pos a.num, if_neg (by rw [h0]; exact Bool.false_ne_true)]⟩
end TB

namespace TB
open PySem L2 PySem.Spec PyProof.Rows
section
variable {X : Cx} {W : WX} {F0 H0 : Hp} {Γ : List S} {a b e : Expr} {ds es : List D} {pos : Pos}
theorem cut_whole {l u : Option Int} (h : HT.sIx ds.length 0 l = 0 ∧ HT.sIx ds.length ds.length u = ds.length) : cutD ds l u = ds := by
  unfold cutD
  rw [h.1, h.2, List.drop_zero, Nat.sub_zero, List.take_length]
/-- t[lo:hi], also the whole of it -/
theorem je_slTA {lo hi : Option Expr} {l u : Option Int} {p2 : Pos} (he : JE X W F0 H0 Γ e (.v (.tuple ds))) (hl : JO X F0 H0 Γ lo l) (hu : JO X F0 H0 Γ hi u) : JE X W F0 H0 Γ (.Subscript e (.Slice lo hi none p2) pos) (.v (.tuple (cutD ds l u))) :=
  pe_imp (pe_slice sl_tupA he hl hu) fun σ H Q ⟨F, ok, q⟩ => ⟨F, ok, fun v F1 H1 z1 d1 => ⟨F1, ok.mono z1, fun F2 H2 z2 => ⟨F2, (ok.mono z1).mono z2, fun F3 H3 z3 => by
    cases d1 with
    | tup g1 g2 =>
      have zz := (z1.trans z2).trans z3
      have g1' := st_ex (z2.f.trans z3.f) g1
      have g2' := da_ex (z2.f.trans z3.f) _ _ g2
      refine ⟨_, _, rfl, st_ex z3.s g1', fun hw => ?_, fun hw => po_tup z3.s (cut_da g2') fun v F' H' z d => q v F' H' (zz.trans z) d⟩
      rw [da_len g2] at hw
      refine q _ F3 H3 zz ?_
      rw [cut_whole hw]
      exact .tup g1' g2'⟩⟩⟩
/-- t + u of tuples, also empty ones -/
theorem rd_catTA {K : PySem.W.Frag} (hl : ds.length + es.length ≤ 100000) : RD K (rCatA K) (.tuple ds) (.tuple es) (.tuple (ds ++ es)) := fun v u F H Q s d1 d2 q => by
  cases d1 with
  | tup a1 a2 =>
    cases d2 with
    | tup b1 b2 =>
      have l1 := da_len a2
      have l2 := da_len b2
      refine ⟨_, _, _, _, rfl, rfl, st_ex s a1, st_ex s b1, by rw [l1, l2]; exact Nat.le_trans hl (by decide), fun z => ?_, fun _ z => ?_, fun _ _ => po_tup s (da_app a2 b2) q⟩
      · subst z
        cases a2
        exact q _ F H (Fz.refl s) (.tup b1 b2)
      · subst z
        cases b2
        refine q _ F H (Fz.refl s) ?_
        rw [List.append_nil]
        exact .tup a1 a2
theorem je_catTA (hl : ds.length + es.length ≤ 100000) (ha : JE X W F0 H0 Γ a (.v (.tuple ds))) (hb : JE X W F0 H0 Γ b (.v (.tuple es))) : JE X W F0 H0 Γ (.BinOp a .Add b pos) (.v (.tuple (ds ++ es))) := je_bin op_catA (rd_catTA hl) ha hb
end
/-! ### k05 -/
/-- not 0: by the norm -/
theorem zero_norm {x : List Int} (h : isNum x = true) : zeroB x = false ↔ normL x ≠ 0 := by
  constructor
  · intro z e
    rw [norm0 h e] at z
    cases z
  · intro z
    cases q : zeroB x with
    | false => rfl
    | true =>
      refine absurd ?_ z
      have e := zero_eq h
      rw [q, decide_eq_true_eq] at e
      rw [e]
      decide
theorem mul_nz {x y : List Int} (hx : isNum x = true) (hy : isNum y = true) (h0 : zeroB x = false) (h1 : zeroB y = false) : zeroB (mulL x y) = false := by
  rw [zero_norm (num_mul hx hy), norm_mul hx hy]
  intro e
  rcases Int.mul_eq_zero.mp e with e | e
  · exact (zero_norm hx).mp h0 e
  · exact (zero_norm hy).mp h1 e
theorem units_nz : ∀ u ∈ unitsL, zeroB u = false := by decide +kernel
/-- three times a number -/
theorem num_times {x : List Int} (m : Int) (h : isNum x = true) : isNum (timesL m x) = true := by
  obtain ⟨a, b, c, d, rfl, k⟩ := num_cases h
  exact isNum_of (par_mul m k)
theorem norm_timesL {x : List Int} (m : Int) (h : isNum x = true) : normL (timesL m x) = m * m * normL x := by
  rw [← (mul_int m h).1, norm_mul (num_int m) h]
  have : normL [2 * m, 0, 0, 0] = m * m := by
    have n := norm_pr (a := 2 * m) (b := 0) (c := 0) (d := 0) ⟨by omega, by omega, by omega⟩
    have e : 2 * m * (2 * m) = 4 * (m * m) := by grind
    omega
  rw [this]
theorem times_mul {x y : List Int} (m : Int) (hx : isNum x = true) (hy : isNum y = true) : mulL (timesL m x) y = timesL m (mulL x y) := by
  rw [← (mul_int m hx).1, mul_asc (num_int m) hx hy, (mul_int m (num_mul hx hy)).1]
theorem canon_norm {x : List Int} (hx : isNum x = true) : normL (canonL x) = normL x := by
  obtain ⟨h1, h2⟩ := lead_ok x
  have n1 : ∀ u ∈ unitsL, normL u = 1 := by decide +kernel
  rw [← h2, norm_mul hx (u_num h1), n1 _ h1, Int.mul_one]
end TB
namespace TB
end TB
namespace TB
end TB

namespace TB
open PySem L2 PySem.Spec PyProof.Rows PySem.Calls
/-! ### gcd of four -/
def gcd4 (a b c d : Int) : Nat := (((Nat.gcd 0 a.natAbs).gcd b.natAbs).gcd c.natAbs).gcd d.natAbs
section
variable {X : Cx} {W : WX} {F0 H0 : Hp} {Γ : List S} {e1 e2 e3 e4 : Expr} {a b c d : Int} {pos np : Pos}
end
/-! ### content -/
theorem par_of_even {a b c d : Int} (h1 : ∃ z, a = 2 * z) (h2 : ∃ z, b = 2 * z) (h3 : ∃ z, c = 2 * z) (h4 : ∃ z, d = 2 * z) : Par a b c d := by
  obtain ⟨p, rfl⟩ := h1
  obtain ⟨q, rfl⟩ := h2
  obtain ⟨r, rfl⟩ := h3
  obtain ⟨s, rfl⟩ := h4
  exact ⟨by omega, by omega, by omega⟩
theorem gcd4_dvd (a b c d : Int) : ((gcd4 a b c d : Nat) : Int) ∣ a ∧ ((gcd4 a b c d : Nat) : Int) ∣ b ∧ ((gcd4 a b c d : Nat) : Int) ∣ c ∧ ((gcd4 a b c d : Nat) : Int) ∣ d := by
  unfold gcd4
  rw [Nat.gcd_zero_left]
  have up : ∀ {m : Nat} {z : Int}, m ∣ z.natAbs → (m : Int) ∣ z := fun h => Int.natAbs_dvd_natAbs.mp h
  have h1 := Nat.gcd_dvd_left a.natAbs b.natAbs
  have h2 := Nat.gcd_dvd_right a.natAbs b.natAbs
  have h3 := Nat.gcd_dvd_left (a.natAbs.gcd b.natAbs) c.natAbs
  have h4 := Nat.gcd_dvd_right (a.natAbs.gcd b.natAbs) c.natAbs
  have h5 := Nat.gcd_dvd_left ((a.natAbs.gcd b.natAbs).gcd c.natAbs) d.natAbs
  have h6 := Nat.gcd_dvd_right ((a.natAbs.gcd b.natAbs).gcd c.natAbs) d.natAbs
  exact ⟨up (Nat.dvd_trans h5 (Nat.dvd_trans h3 h1)), up (Nat.dvd_trans h5 (Nat.dvd_trans h3 h2)), up (Nat.dvd_trans h5 h4), up h6⟩
theorem gcd4_great {a b c d m : Int} (h1 : m ∣ a) (h2 : m ∣ b) (h3 : m ∣ c) (h4 : m ∣ d) : m ∣ ((gcd4 a b c d : Nat) : Int) := by
  unfold gcd4
  rw [Nat.gcd_zero_left]
  refine Int.natAbs_dvd_natAbs.mp ?_
  exact Nat.dvd_gcd (Nat.dvd_gcd (Nat.dvd_gcd (Int.natAbs_dvd_natAbs.mpr h1) (Int.natAbs_dvd_natAbs.mpr h2)) (Int.natAbs_dvd_natAbs.mpr h3)) (Int.natAbs_dvd_natAbs.mpr h4)
theorem gcd4_pos {a b c d : Int} (h : zeroB [a, b, c, d] = false) : 0 < ((gcd4 a b c d : Nat) : Int) := by
  by_cases z : ((gcd4 a b c d : Nat) : Int) = 0
  · obtain ⟨h1, h2, h3, h4⟩ := gcd4_dvd a b c d
    rw [z] at h1 h2 h3 h4
    have e1 := Int.zero_dvd.mp h1
    have e2 := Int.zero_dvd.mp h2
    have e3 := Int.zero_dvd.mp h3
    have e4 := Int.zero_dvd.mp h4
    subst e1 e2 e3 e4
    cases h
  · omega
def gcdL (x : List Int) : Int := match x with
  | [a, b, c, d] => ((gcd4 a b c d : Nat) : Int)
  | _ => 0
def contL (x : List Int) : Int := if isNum (x.map fun p => p / gcdL x) = true then gcdL x else gcdL x / 2
/-- m divides the number -/
def Div (m : Int) (x : List Int) : Prop := ∃ y, isNum y = true ∧ x = timesL m y
theorem div_iff {x : List Int} (hx : isNum x = true) (h0 : zeroB x = false) {m : Int} (hm : 0 < m) : 0 < contL x ∧ (Div m x ↔ m ∣ contL x) := by
  obtain ⟨a, b, c, d, rfl, k⟩ := num_cases hx
  have hg := gcd4_pos h0
  obtain ⟨⟨a', ea⟩, ⟨b', eb⟩, ⟨c', ec⟩, ⟨d', ed⟩⟩ := gcd4_dvd a b c d
  have great : ∀ m : Int, m ∣ a → m ∣ b → m ∣ c → m ∣ d → m ∣ ((gcd4 a b c d : Nat) : Int) := fun m h1 h2 h3 h4 => gcd4_great h1 h2 h3 h4
  have hgl : gcdL [a, b, c, d] = ((gcd4 a b c d : Nat) : Int) := rfl
  unfold contL
  rw [hgl]
  generalize ((gcd4 a b c d : Nat) : Int) = g at *
  have g0 : g ≠ 0 := by omega
  have em : ([a, b, c, d] : List Int).map (fun p => p / g) = [a', b', c', d'] := by
    show [a / g, b / g, c / g, d / g] = _
    rw [ea, eb, ec, ed, Int.mul_ediv_cancel_left _ g0, Int.mul_ediv_cancel_left _ g0, Int.mul_ediv_cancel_left _ g0, Int.mul_ediv_cancel_left _ g0]
  rw [em]
  have dv : ∀ {y : List Int}, isNum y = true → [a, b, c, d] = timesL m y → ∃ n, g = m * n ∧ y = timesL n [a', b', c', d'] := fun {y} hy e => by
    obtain ⟨p, q, r, s, rfl, _⟩ := num_cases hy
    have e' : [a, b, c, d] = [p * m, q * m, r * m, s * m] := e
    injection e' with e1 e'
    injection e' with e2 e'
    injection e' with e3 e'
    injection e' with e4 _
    obtain ⟨n, hn⟩ := great m ⟨p, by rw [e1, Int.mul_comm]⟩ ⟨q, by rw [e2, Int.mul_comm]⟩ ⟨r, by rw [e3, Int.mul_comm]⟩ ⟨s, by rw [e4, Int.mul_comm]⟩
    refine ⟨n, hn, ?_⟩
    have one : ∀ {p z z' : Int}, z = p * m → z = g * z' → p = z' * n := fun {p z z'} h1 h2 => by
      refine Int.eq_of_mul_eq_mul_right (show m ≠ 0 by omega) ?_
      rw [← h1, h2, hn]
      grind
    show [p, q, r, s] = [a' * n, b' * n, c' * n, d' * n]
    rw [one e1 ea, one e2 eb, one e3 ec, one e4 ed]
  by_cases hn : isNum [a', b', c', d'] = true
  · rw [if_pos hn]
    refine ⟨hg, fun ⟨y, hy, e⟩ => ?_, fun ⟨n, e⟩ => ⟨timesL n [a', b', c', d'], num_times n hn, ?_⟩⟩
    · obtain ⟨n, h1, _⟩ := dv hy e
      exact ⟨n, h1⟩
    · show _ = [a' * n * m, b' * n * m, c' * n * m, d' * n * m]
      have sw : ∀ z : Int, g * z = z * n * m := fun z => by rw [e]; grind
      rw [ea, eb, ec, ed, sw, sw, sw, sw]
  · rw [if_neg hn]
    have nk : ¬ Par a' b' c' d' := fun h => hn (isNum_of h)
    obtain ⟨k1, k2, k3⟩ := k
    have hev : g % 2 = 0 := by
      rcases Int.emod_two_eq g with h | h
      · exact h
      · refine absurd ?_ nk
        have od : ∀ {z z' : Int}, z = g * z' → z % 2 = z' % 2 := fun {z z'} e => by
          rw [e, Int.mul_emod, h, Int.one_mul, Int.emod_emod]
        rw [od ea, od eb] at k1
        rw [od ea, od ec] at k2
        rw [od ea, od ed] at k3
        exact ⟨k1, k2, k3⟩
    obtain ⟨h, eh⟩ : ∃ h, g = 2 * h := ⟨g / 2, by omega⟩
    have e2 : g / 2 = h := by omega
    rw [e2]
    refine ⟨by omega, fun ⟨y, hy, e⟩ => ?_, fun ⟨n, e⟩ => ⟨timesL (2 * n) [a', b', c', d'], ?_, ?_⟩⟩
    · obtain ⟨n, h1, h2⟩ := dv hy e
      have hne : n % 2 = 0 := by
        rcases Int.emod_two_eq n with h | h
        · exact h
        · refine absurd ?_ nk
          rw [h2] at hy
          obtain ⟨p1, p2, p3⟩ := (isNum4 (a' * n) (b' * n) (c' * n) (d' * n)).mp hy
          have od : ∀ z : Int, (z * n) % 2 = z % 2 := fun z => by rw [Int.mul_emod, h, Int.mul_one, Int.emod_emod]
          rw [od, od] at p1 p2 p3
          exact ⟨p1, p2, p3⟩
      obtain ⟨n', en⟩ : ∃ n', n = 2 * n' := ⟨n / 2, by omega⟩
      refine ⟨n', ?_⟩
      have : 2 * h = 2 * (m * n') := by rw [← eh, h1, en]; grind
      omega
    · show isNum [a' * (2 * n), b' * (2 * n), c' * (2 * n), d' * (2 * n)] = true
      exact isNum_of (par_of_even ⟨a' * n, by grind⟩ ⟨b' * n, by grind⟩ ⟨c' * n, by grind⟩ ⟨d' * n, by grind⟩)
    · show _ = [a' * (2 * n) * m, b' * (2 * n) * m, c' * (2 * n) * m, d' * (2 * n) * m]
      have sw : ∀ z : Int, g * z = z * (2 * n) * m := fun z => by rw [eh, e]; grind
      rw [ea, eb, ec, ed, sw, sw, sw, sw]
end TB
namespace TB
open PySem L2 PySem.Spec PyProof.Rows
section
variable {X : Cx} {W : WX} {F0 H0 : Hp} {Γ : List S} {a b : Expr} {i j : Int} {pos : Pos}
end
theorem cont_pos {x : List Int} (hx : isNum x = true) (h0 : zeroB x = false) : 0 < contL x := (div_iff hx h0 (m := 1) (by decide)).1
theorem cont_div {x : List Int} (hx : isNum x = true) (h0 : zeroB x = false) : Div (contL x) x := (div_iff hx h0 (cont_pos hx h0)).2.mpr (Int.dvd_refl _)
theorem div_mul {m : Int} {x u : List Int} (hu : isNum u = true) (h : Div m x) : Div m (mulL x u) := by
  obtain ⟨y, hy, rfl⟩ := h
  exact ⟨mulL y u, num_mul hy hu, times_mul m hy hu⟩
theorem asso_nz {x u : List Int} (hx : isNum x = true) (h0 : zeroB x = false) (hu : u ∈ unitsL) : zeroB (mulL x u) = false := mul_nz hx (u_num hu) h0 (units_nz u hu)
end TB

namespace TB
open PySem L2 PySem.Spec PyProof.Rows
section
variable {X : Cx} {W : WX} {F0 H0 : Hp} {Γ : List S} {elt it c : Expr} {n : Str} {py pos : Pos} {scope : Scope} {xs : List (List Int)}
end
/-! ### k10 -/
theorem units_n1 : ∀ u ∈ unitsL, normL u = 1 := by decide +kernel
theorem canon_canon {x : List Int} (hx : isNum x = true) : canonL (canonL x) = canonL x := by
  obtain ⟨h1, h2⟩ := lead_ok x
  rw [← h2, canon_asso hx h1, h2]
theorem canon_nz {x : List Int} (hx : isNum x = true) (h0 : zeroB x = false) : zeroB (canonL x) = false := by
  obtain ⟨h1, h2⟩ := lead_ok x
  rw [← h2]
  exact asso_nz hx h0 h1
end TB

namespace TB
open PySem L2 PySem.Spec PyProof.Rows
/-! ### k06 -/
def quoL (m : Int) (x : List Int) : List Int := x.map fun p => p / m
theorem quo_of_times {m : Int} (hm : 0 < m) (y : List Int) : quoL m (timesL m y) = y := by
  unfold timesL quoL
  rw [List.map_map]
  conv => rhs; rw [← List.map_id y]
  refine List.map_congr_left fun p _ => ?_
  exact Int.mul_ediv_cancel p (by omega)
theorem times_times (m n : Int) (x : List Int) : timesL m (timesL n x) = timesL (n * m) x := by
  unfold timesL
  rw [List.map_map]
  refine List.map_congr_left fun p _ => ?_
  show p * n * m = p * (n * m)
  rw [Int.mul_assoc]
theorem Div.le {x : List Int} (hx : isNum x = true) (h0 : zeroB x = false) {m : Int} (hm : 0 < m) (h : Div m x) : m ≤ contL x ∧ contL x % m = 0 := by
  have d := (div_iff hx h0 hm).2.mp h
  exact ⟨Int.le_of_dvd (cont_pos hx h0) d, Int.emod_eq_zero_of_dvd d⟩
end TB

namespace TB
open PySem L2 PySem.Spec PyProof.Rows
/-! ### max(a, b) of data -/
section
variable {prog : Program} {w : World} {A : Around} {E : Value → Shared → Prop} {s : Shared}
end
section
variable {X : Cx} {W : WX} {F0 H0 : Hp} {Γ : List S} {a b : Expr} {pos np : Pos}
end
end TB

namespace TB
open PySem L2 PySem.Spec PyProof.Rows
/-! ### dividing -/
def evenL (n : Int) (p : List Int) : List Int := p.map fun z => 2 * ((z + n) / (2 * n))
def oddL (n : Int) (p : List Int) : List Int := p.map fun z => 2 * (z / (2 * n)) + 1
def farL (n : Int) (p q : List Int) : Int := ((p.zip q).map fun z => (z.1 - z.2 * n) * (z.1 - z.2 * n)).sum
def nearL (n : Int) (p : List Int) : List Int :=
  if farL n p (evenL n p) = farL n p (oddL n p) then (if evenL n p < oddL n p then oddL n p else evenL n p)
  else if farL n p (evenL n p) < farL n p (oddL n p) then evenL n p else oddL n p
theorem even_num {n : Int} {p : List Int} (h : p.length = 4) : isNum (evenL n p) = true := by
  obtain ⟨a, b, c, d, rfl⟩ := four h
  exact isNum_of (par_of_even ⟨_, rfl⟩ ⟨_, rfl⟩ ⟨_, rfl⟩ ⟨_, rfl⟩)
theorem odd_num {n : Int} {p : List Int} (h : p.length = 4) : isNum (oddL n p) = true := by
  obtain ⟨a, b, c, d, rfl⟩ := four h
  exact isNum_of ⟨by dsimp only; omega, by dsimp only; omega, by dsimp only; omega⟩
theorem near_or (n : Int) (p : List Int) : (nearL n p = evenL n p ∧ farL n p (evenL n p) ≤ farL n p (oddL n p)) ∨ (nearL n p = oddL n p ∧ farL n p (oddL n p) ≤ farL n p (evenL n p)) := by
  unfold nearL
  by_cases e : farL n p (evenL n p) = farL n p (oddL n p)
  · rw [if_pos e]
    by_cases l : evenL n p < oddL n p
    · rw [if_pos l]; exact .inr ⟨rfl, by omega⟩
    · rw [if_neg l]; exact .inl ⟨rfl, by omega⟩
  · rw [if_neg e]
    by_cases l : farL n p (evenL n p) < farL n p (oddL n p)
    · rw [if_pos l]; exact .inl ⟨rfl, by omega⟩
    · rw [if_neg l]; exact .inr ⟨rfl, by omega⟩
theorem near_num {n : Int} {p : List Int} (h : p.length = 4) : isNum (nearL n p) = true := by
  rcases near_or n p with ⟨e, _⟩ | ⟨e, _⟩
  · rw [e]; exact even_num h
  · rw [e]; exact odd_num h
/-- one part: the two distances come to at most n * n -/
theorem part_far {n z : Int} (hn : 0 < n) : (z - 2 * ((z + n) / (2 * n)) * n) * (z - 2 * ((z + n) / (2 * n)) * n) + (z - (2 * (z / (2 * n)) + 1) * n) * (z - (2 * (z / (2 * n)) + 1) * n) ≤ n * n := by
  have e1 := Int.mul_ediv_add_emod z (2 * n)
  have r1 := Int.emod_nonneg z (show 2 * n ≠ 0 by omega)
  have r2 := Int.emod_lt_of_pos z (show 0 < 2 * n by omega)
  have e2 := Int.mul_ediv_add_emod (z + n) (2 * n)
  have s1 := Int.emod_nonneg (z + n) (show 2 * n ≠ 0 by omega)
  have s2 := Int.emod_lt_of_pos (z + n) (show 0 < 2 * n by omega)
  generalize z % (2 * n) = t at *
  generalize (z + n) % (2 * n) = u at *
  generalize hA : z / (2 * n) = A at *
  generalize hB : (z + n) / (2 * n) = B at *
  have x1 : z - 2 * B * n = u - n := by
    have : 2 * n * B = 2 * B * n := by grind
    omega
  have x2 : z - (2 * A + 1) * n = t - n := by
    have : 2 * n * A = (2 * A + 1) * n - n := by grind
    omega
  rw [x1, x2]
  -- t and u differ by n
  have dif : u = t + n ∨ u = t - n := by
    have h1 : 2 * n * (B - A) = n + t - u := by
      have : 2 * n * (B - A) = 2 * n * B - 2 * n * A := by grind
      omega
    have hBA : B - A = 0 ∨ B - A = 1 := by
      by_cases c0 : B - A ≤ -1
      · have : 2 * n * (B - A) ≤ 2 * n * (-1) := Int.mul_le_mul_of_nonneg_left c0 (by omega)
        omega
      · by_cases c1 : 2 ≤ B - A
        · have : 2 * n * 2 ≤ 2 * n * (B - A) := Int.mul_le_mul_of_nonneg_left c1 (by omega)
          omega
        · omega
    rcases hBA with h | h
    · rw [h] at h1; omega
    · rw [h] at h1; omega
  have sq : ∀ y : Int, 0 ≤ y → y ≤ n → y * y + (n - y) * (n - y) ≤ n * n := fun y h0 h1 => by
    have : 0 ≤ y * (n - y) := Int.mul_nonneg h0 (by omega)
    have e : y * y + (n - y) * (n - y) = n * n - 2 * (y * (n - y)) := by grind
    omega
  rcases dif with h | h
  · have := sq t r1 (by omega)
    have e : (u - n) * (u - n) + (t - n) * (t - n) = t * t + (n - t) * (n - t) := by rw [h]; grind
    omega
  · have := sq (t - n) (by omega) (by omega)
    have e : (u - n) * (u - n) + (t - n) * (t - n) = (t - n) * (t - n) + (n - (t - n)) * (n - (t - n)) := by rw [h]; grind
    omega
theorem near_far {n : Int} (hn : 0 < n) {p : List Int} (h : p.length = 4) : farL n p (nearL n p) ≤ 2 * (n * n) := by
  have key : farL n p (evenL n p) + farL n p (oddL n p) ≤ 4 * (n * n) := by
    obtain ⟨a, b, c, d, rfl⟩ := four h
    have ha := part_far (z := a) hn
    have hb := part_far (z := b) hn
    have hc := part_far (z := c) hn
    have hd := part_far (z := d) hn
    unfold farL evenL oddL
    simp only [List.map_cons, List.map_nil, List.zip_cons_cons, List.zip_nil_right, List.sum_cons, List.sum_nil]
    omega
  rcases near_or n p with ⟨e, l⟩ | ⟨e, l⟩
  · rw [e]; omega
  · rw [e]; omega
def quoLft (a b : List Int) : List Int := nearL (normL b) (mulL (conjL b) a)
def remLft (a b : List Int) : List Int := subL a (mulL b (quoLft a b))
theorem num_sub {x y : List Int} (hx : isNum x = true) (hy : isNum y = true) : isNum (subL x y) = true := by
  obtain ⟨a, b, c, d, rfl, k1, k2, k3⟩ := num_cases hx
  obtain ⟨e, f, g, h, rfl, l1, l2, l3⟩ := num_cases hy
  exact isNum_of (a := a - e) (b := b - f) (c := c - g) (d := d - h) ⟨by omega, by omega, by omega⟩
theorem mul_subr {x y z : List Int} (hx : isNum x = true) (hy : isNum y = true) (hz : isNum z = true) : mulL x (subL y z) = subL (mulL x y) (mulL x z) := by
  obtain ⟨a, b, c, d, rfl, kx⟩ := num_cases hx
  obtain ⟨e, f, g, h, rfl, ky⟩ := num_cases hy
  obtain ⟨i, j, k, l, rfl, kz⟩ := num_cases hz
  obtain ⟨p, q, r, s, ⟨p1, p2, p3, p4⟩, _, ep⟩ := mul_pr kx ky
  obtain ⟨P, Q, R, S', ⟨q1, q2, q3, q4⟩, _, eq⟩ := mul_pr kx kz
  have kd : Par (e - i) (f - j) (g - k) (h - l) := by
    obtain ⟨k1, k2, k3⟩ := ky
    obtain ⟨l1, l2, l3⟩ := kz
    exact ⟨by omega, by omega, by omega⟩
  obtain ⟨A, B, C, E, ⟨r1, r2, r3, r4⟩, _, er⟩ := mul_pr kx kd
  show mulL [a, b, c, d] [e - i, f - j, g - k, h - l] = _
  rw [er, ep, eq]
  show [A, B, C, E] = [p - P, q - Q, r - R, s - S']
  have z1 : A = p - P := by grind
  have z2 : B = q - Q := by grind
  have z3 : C = r - R := by grind
  have z4 : E = s - S' := by grind
  rw [z1, z2, z3, z4]
theorem mul_subl {x y z : List Int} (hx : isNum x = true) (hy : isNum y = true) (hz : isNum z = true) : mulL (subL x y) z = subL (mulL x z) (mulL y z) := by
  obtain ⟨a, b, c, d, rfl, kx⟩ := num_cases hx
  obtain ⟨e, f, g, h, rfl, ky⟩ := num_cases hy
  obtain ⟨i, j, k, l, rfl, kz⟩ := num_cases hz
  obtain ⟨p, q, r, s, ⟨p1, p2, p3, p4⟩, _, ep⟩ := mul_pr kx kz
  obtain ⟨P, Q, R, S', ⟨q1, q2, q3, q4⟩, _, eq⟩ := mul_pr ky kz
  have kd : Par (a - e) (b - f) (c - g) (d - h) := by
    obtain ⟨k1, k2, k3⟩ := kx
    obtain ⟨l1, l2, l3⟩ := ky
    exact ⟨by omega, by omega, by omega⟩
  obtain ⟨A, B, C, E, ⟨r1, r2, r3, r4⟩, _, er⟩ := mul_pr kd kz
  show mulL [a - e, b - f, c - g, d - h] [i, j, k, l] = _
  rw [er, ep, eq]
  show [A, B, C, E] = [p - P, q - Q, r - R, s - S']
  have z1 : A = p - P := by grind
  have z2 : B = q - Q := by grind
  have z3 : C = r - R := by grind
  have z4 : E = s - S' := by grind
  rw [z1, z2, z3, z4]
theorem norm_conj {x : List Int} (hx : isNum x = true) : normL (conjL x) = normL x := by
  obtain ⟨a, b, c, d, rfl, k⟩ := num_cases hx
  have kc : Par a (-b) (-c) (-d) := by obtain ⟨k1, k2, k3⟩ := k; exact ⟨by omega, by omega, by omega⟩
  have n1 := norm_pr k
  have n2 := norm_pr kc
  show normL [a, -b, -c, -d] = _
  have : -b * -b = b * b := by grind
  have : -c * -c = c * c := by grind
  have : -d * -d = d * d := by grind
  omega
theorem norm_pos {x : List Int} (hx : isNum x = true) (h : zeroB x = false) : 0 < normL x := by
  have := norm_nn hx
  have := (zero_norm hx).mp h
  omega
theorem norm_far {n : Int} {p q : List Int} (hp : isNum p = true) (hq : isNum q = true) : 4 * normL (subL p (timesL n q)) = farL n p q := by
  obtain ⟨a, b, c, d, rfl, k1, k2, k3⟩ := num_cases hp
  obtain ⟨e, f, g, h, rfl, l⟩ := num_cases hq
  have kn := par_mul n l
  obtain ⟨l1, l2, l3⟩ := kn
  have := norm_pr (a := a - e * n) (b := b - f * n) (c := c - g * n) (d := d - h * n) ⟨by omega, by omega, by omega⟩
  show 4 * normL [a - e * n, b - f * n, c - g * n, d - h * n] = _
  rw [this]
  unfold farL
  simp only [List.map_cons, List.map_nil, List.zip_cons_cons, List.zip_nil_right, List.sum_cons, List.sum_nil]
  omega
/-- the norm of the remainder is at most half of the divisor's -/
theorem rem_lft {a b : List Int} (ha : isNum a = true) (hb : isNum b = true) (h0 : zeroB b = false) : isNum (quoLft a b) = true ∧ isNum (remLft a b) = true ∧ 2 * normL (remLft a b) ≤ normL b := by
  have n0 := norm_pos hb h0
  have hc := num_conj hb
  have hp := num_mul hc ha
  have hq : isNum (quoLft a b) = true := near_num (num_len hp)
  have hr : isNum (remLft a b) = true := num_sub ha (num_mul hb hq)
  refine ⟨hq, hr, ?_⟩
  have e : mulL (conjL b) (remLft a b) = subL (mulL (conjL b) a) (timesL (normL b) (quoLft a b)) := by
    unfold remLft
    rw [mul_subr hc ha (num_mul hb hq), ← mul_asc hc hb hq, (mul_conj hb).2, (mul_int _ hq).1]
  have f := near_far n0 (p := mulL (conjL b) a) (num_len hp)
  have g := norm_far (n := normL b) hp hq
  rw [← e, norm_mul hc hr, norm_conj hb] at g
  have f' : farL (normL b) (mulL (conjL b) a) (quoLft a b) ≤ 2 * (normL b * normL b) := f
  generalize normL (remLft a b) = r at *
  generalize normL b = n at *
  by_cases z : 2 * r ≤ n
  · exact z
  · have : n * (n + 1) ≤ n * (2 * r) := Int.mul_le_mul_of_nonneg_left (by omega) (by omega)
    have e1 : n * (2 * r) = 2 * (n * r) := by grind
    have e2 : n * (n + 1) = n * n + n := by grind
    omega
/-! left divisors -/
def LDiv (b a : List Int) : Prop := ∃ y, isNum y = true ∧ a = mulL b y
theorem sub_zero {x y : List Int} (hx : isNum x = true) (hy : isNum y = true) (h : zeroB (subL x y) = true) : x = y := by
  have e := zero_eq (num_sub hx hy)
  rw [h, decide_eq_true_eq] at e
  obtain ⟨a, b, c, d, rfl, _⟩ := num_cases hx
  obtain ⟨p, q, r, s, rfl, _⟩ := num_cases hy
  have e' : [a - p, b - q, c - r, d - s] = [0, 0, 0, 0] := e
  injection e' with e1 e'
  injection e' with e2 e'
  injection e' with e3 e'
  injection e' with e4 _
  rw [show a = p by omega, show b = q by omega, show c = r by omega, show d = s by omega]
end TB

namespace TB
open PySem L2 PySem.Spec PyProof.Rows
/-! ### errors on the way -/
section
variable {X : Cx} {W : WX} {F0 H0 : Hp} {Γ : List S} {a b e tg : Expr} {es : List Expr} {x : D} {pos np : Pos} {c : Addr}
end
/-! ### greatest common left divisors -/
def LGcd (a b g : List Int) : Prop := isNum g = true ∧ zeroB g = false ∧ LDiv g a ∧ LDiv g b ∧ ∃ x y, isNum x = true ∧ isNum y = true ∧ g = addL (mulL a x) (mulL b y)
theorem LDiv.mul {d a y : List Int} (hd : isNum d = true) (hy : isNum y = true) (h : LDiv d a) : LDiv d (mulL a y) := by
  obtain ⟨z, hz, rfl⟩ := h
  exact ⟨mulL z y, num_mul hz hy, mul_asc hd hz hy⟩
theorem LDiv.add {d a b : List Int} (hd : isNum d = true) (h : LDiv d a) (g : LDiv d b) : LDiv d (addL a b) := by
  obtain ⟨y, hy, rfl⟩ := h
  obtain ⟨z, hz, rfl⟩ := g
  exact ⟨addL y z, num_add hy hz, (mul_addr hd hy hz).symm⟩
theorem LDiv.trans {d e a : List Int} (hd : isNum d = true) (h : LDiv d e) (g : LDiv e a) : LDiv d a := by
  obtain ⟨y, hy, rfl⟩ := g
  exact h.mul hd hy
theorem gcd_great {a b g d : List Int} (h : LGcd a b g) (hd : isNum d = true) (ha : LDiv d a) (hb : LDiv d b) : LDiv d g := by
  obtain ⟨_, _, _, _, x, y, hx, hy, e⟩ := h
  rw [e]
  exact (ha.mul hd hx).add hd (hb.mul hd hy)
/-- two numbers that divide one another on the left have one canonical associate -/
theorem div_canon {g h : List Int} (hg : isNum g = true) (hh : isNum h = true) (g0 : zeroB g = false) (h1 : LDiv g h) (h2 : LDiv h g) : canonL g = canonL h := by
  obtain ⟨y, hy, e1⟩ := h1
  obtain ⟨z, hz, e2⟩ := h2
  have n1 : normL g * (normL y * normL z) = normL g := by
    have := congrArg normL e2
    rw [norm_mul hh hz, e1, norm_mul hg hy] at this
    rw [← Int.mul_assoc]
    exact this.symm
  have ng := norm_pos hg g0
  have n2 : normL y * normL z = 1 := by
    have : normL g * (normL y * normL z) = normL g * 1 := by rw [n1, Int.mul_one]
    exact Int.eq_of_mul_eq_mul_left (by omega) this
  have n3 : normL y = 1 := by
    have a1 := norm_nn hy
    have a2 := norm_nn hz
    exact Int.eq_one_of_mul_eq_one_right a1 n2
  have hu : y ∈ unitsL := by
    have := unit_iff hy
    rw [n3, decide_eq_true rfl] at this
    exact of_decide_eq_true this.symm
  rw [e1, canon_asso hg hu]
theorem gcd_canon {a b g h : List Int} (h1 : LGcd a b g) (h2 : LGcd a b h) : canonL g = canonL h :=
  div_canon h1.1 h2.1 h1.2.1 (gcd_great h2 h1.1 h1.2.2.1 h1.2.2.2.1) (gcd_great h1 h2.1 h2.2.2.1 h2.2.2.2.1)
theorem sub_addL {x y : List Int} (hx : isNum x = true) (hy : isNum y = true) : addL (subL x y) y = x := by
  obtain ⟨a, b, c, d, rfl, _⟩ := num_cases hx
  obtain ⟨e, f, g, h, rfl, _⟩ := num_cases hy
  show [a - e + e, b - f + f, c - g + g, d - h + h] = _
  rw [Int.sub_add_cancel, Int.sub_add_cancel, Int.sub_add_cancel, Int.sub_add_cancel]
/-- one step of the algorithm -/
theorem gcd_step {a b g : List Int} (ha : isNum a = true) (hb : isNum b = true) (h0 : zeroB b = false) (h : LGcd b (remLft a b) g) : LGcd a b g := by
  obtain ⟨hq, hr, _⟩ := rem_lft ha hb h0
  obtain ⟨g1, g2, g3, g4, x, y, hx, hy, e⟩ := h
  have hbq := num_mul hb hq
  have ea : a = addL (remLft a b) (mulL b (quoLft a b)) := (sub_addL ha hbq).symm
  refine ⟨g1, g2, by rw [ea]; exact g4.add g1 (g3.mul g1 hq), g3, y, subL x (mulL (quoLft a b) y), hy, num_sub hx (num_mul hq hy), ?_⟩
  have e1 : mulL (remLft a b) y = subL (mulL a y) (mulL b (mulL (quoLft a b) y)) := by
    unfold remLft
    rw [mul_subl ha hbq hy, mul_asc hb hq hy]
  have e2 := mul_subr hb hx (num_mul hq hy)
  rw [e, e1, e2]
  have n1 := num_mul hb hx
  have n2 := num_mul ha hy
  have n3 := num_mul hb (num_mul hq hy)
  generalize mulL b x = p at *
  generalize mulL a y = q at *
  generalize mulL b (mulL (quoLft a b) y) = r at *
  obtain ⟨p1, p2, p3, p4, rfl, _⟩ := num_cases n1
  obtain ⟨q1, q2, q3, q4, rfl, _⟩ := num_cases n2
  obtain ⟨r1, r2, r3, r4, rfl, _⟩ := num_cases n3
  show [p1 + (q1 - r1), p2 + (q2 - r2), p3 + (q3 - r3), p4 + (q4 - r4)] = [q1 + (p1 - r1), q2 + (p2 - r2), q3 + (p3 - r3), q4 + (p4 - r4)]
  rw [show p1 + (q1 - r1) = q1 + (p1 - r1) by omega, show p2 + (q2 - r2) = q2 + (p2 - r2) by omega, show p3 + (q3 - r3) = q3 + (p3 - r3) by omega, show p4 + (q4 - r4) = q4 + (p4 - r4) by omega]
theorem mul_zeroR {a : List Int} (ha : isNum a = true) : mulL a [0, 0, 0, 0] = [0, 0, 0, 0] := by
  obtain ⟨p, q, r, s, rfl, _⟩ := num_cases ha
  show [(p * 0 - q * 0 - r * 0 - s * 0) / 2, (p * 0 + q * 0 + r * 0 - s * 0) / 2, (p * 0 - q * 0 + r * 0 + s * 0) / 2, (p * 0 + q * 0 - r * 0 + s * 0) / 2] = _
  simp
theorem zero_is {b : List Int} (hb : isNum b = true) (h : zeroB b = true) : b = [0, 0, 0, 0] := by
  have e := zero_eq hb
  rw [h, decide_eq_true_eq] at e
  exact e
theorem gcd_end {a b : List Int} (ha : isNum a = true) (hb : isNum b = true) (h0 : zeroB a = false) (h : zeroB b = true) : LGcd a b a := by
  have e := zero_is hb h
  subst e
  refine ⟨ha, h0, ⟨[2, 0, 0, 0], by decide, (mul_oneR ha).symm⟩, ⟨[0, 0, 0, 0], by decide, (mul_zeroR ha).symm⟩, [2, 0, 0, 0], [0, 0, 0, 0], by decide, by decide, ?_⟩
  rw [mul_oneR ha]
  obtain ⟨p, q, r, s, rfl, _⟩ := num_cases ha
  show _ = [p + 0, q + 0, r + 0, s + 0]
  simp
/-- the rows of the algorithm -/
def euL : Nat → List Int → List Int → List Int × List Int
  | 0, a, b => (a, b)
  | k + 1, a, b => euL k b (remLft a b)
theorem eu_stop : ∀ (n : Nat) (a b : List Int), isNum a = true → isNum b = true → normL b ≤ (n : Int) → (zeroB a = false ∨ zeroB b = false) →
    ∃ m, zeroB (euL m a b).2 = true ∧ (∀ k, k < m → zeroB (euL k a b).2 = false) ∧ zeroB (euL m a b).1 = false ∧ (∀ k, k ≤ m → isNum (euL k a b).1 = true ∧ isNum (euL k a b).2 = true ∧ normL (euL k a b).1 ≤ max (normL a) (normL b) ∧ normL (euL k a b).2 ≤ normL b) ∧ LGcd a b (euL m a b).1 := by
  intro n
  induction n with
  | zero =>
    intro a b ha hb hn h0
    have z : zeroB b = true := norm0 hb (by have := norm_nn hb; omega)
    have za : zeroB a = false := by rcases h0 with h | h; exact h; rw [z] at h; cases h
    exact ⟨0, z, fun k h => absurd h (by omega), za, fun k hk => by
      have : k = 0 := by omega
      subst this
      exact ⟨ha, hb, Int.le_max_left _ _, Int.le_refl _⟩, gcd_end ha hb za z⟩
  | succ n ih =>
    intro a b ha hb hn h0
    cases z : zeroB b with
    | true =>
      have za : zeroB a = false := by rcases h0 with h | h; exact h; rw [z] at h; cases h
      exact ⟨0, z, fun k h => absurd h (by omega), za, fun k hk => by
        have : k = 0 := by omega
        subst this
        exact ⟨ha, hb, Int.le_max_left _ _, Int.le_refl _⟩, gcd_end ha hb za z⟩
    | false =>
      obtain ⟨hq, hr, hn2⟩ := rem_lft ha hb z
      have np := norm_pos hb z
      have nr := norm_nn hr
      obtain ⟨m, m1, m2, m3, m4, m5⟩ := ih b (remLft a b) hb hr (by omega) (.inl z)
      refine ⟨m + 1, m1, fun k hk => ?_, m3, fun k hk => ?_, gcd_step ha hb z m5⟩
      · cases k with
        | zero => exact z
        | succ k => exact m2 k (by omega)
      · cases k with
        | zero => exact ⟨ha, hb, Int.le_max_left _ _, Int.le_refl _⟩
        | succ k =>
          obtain ⟨q1, q2, q3, q4⟩ := m4 k (by omega)
          refine ⟨q1, q2, ?_, ?_⟩
          · show normL (euL k b (remLft a b)).1 ≤ _
            omega
          · show normL (euL k b (remLft a b)).2 ≤ _
            omega
noncomputable def lgcd (a b : List Int) : List Int := canonL (Classical.epsilon fun g => LGcd a b g)
theorem lgcd_eq {a b g : List Int} (h : LGcd a b g) : canonL g = lgcd a b := gcd_canon h (Classical.epsilon_spec ⟨g, h⟩)
/-- parts of numbers with a norm -/
theorem norm_G {x : List Int} {n : Nat} (hx : isNum x = true) (h : normL x < 2 ^ (2 * n)) : G (n + 1) x := by
  refine ⟨hx, ?_⟩
  obtain ⟨a, b, c, d, rfl, k⟩ := num_cases hx
  have e := norm_pr k
  have pa := sq_nn a; have pb := sq_nn b; have pc := sq_nn c; have pd := sq_nn d
  have e2 : (2 : Int) ^ (n + 1) * 2 ^ (n + 1) = 4 * 2 ^ (2 * n) := by
    rw [← Int.pow_add, show n + 1 + (n + 1) = 2 * n + 2 by omega, Int.pow_add]
    omega
  have key : ∀ z : Int, z * z ≤ 4 * normL [a, b, c, d] → Bt (n + 1) z := fun z hz => by
    unfold Bt
    refine Classical.byContradiction fun c => ?_
    have c' : (2 : Int) ^ (n + 1) ≤ (z.natAbs : Int) := by
      have : 2 ^ (n + 1) ≤ z.natAbs := by omega
      exact_mod_cast this
    have p2 : (0 : Int) ≤ 2 ^ (n + 1) := Int.le_of_lt (Int.pow_pos (by decide))
    have := Int.mul_le_mul c' c' p2 (by omega)
    have e3 : (z.natAbs : Int) * (z.natAbs : Int) = z * z := Int.natAbs_mul_self
    omega
  intro y hy
  have hy' : y = a ∨ y = b ∨ y = c ∨ y = d := by simpa using hy
  rcases hy' with rfl | rfl | rfl | rfl
  · exact key _ (by omega)
  · exact key _ (by omega)
  · exact key _ (by omega)
  · exact key _ (by omega)
end TB

namespace TB
open PySem L2 PySem.Spec PyProof.Rows
end TB
namespace TB
open PySem L2 PySem.Spec PyProof.Rows
/-! ### the draws of stage 2 -/
end TB

namespace TB
open PySem L2 PySem.Spec PyProof.Rows
/-! ### from the other side -/
/-- the law's own units, in another order -/
def signsL : List Int := [-1, 1]
def lu3 (a b c : Int) : List (List Int) := [[a, b, c, -1], [a, b, c, 1]]
def lu2 (a b : Int) : List (List Int) := signsL.flatMap (lu3 a b)
def lu1 (a : Int) : List (List Int) := signsL.flatMap (lu2 a)
def twosL : List Int := [-2, 2]
def axP (k : Nat) (p : Int) : List Int := ([0, 0, 0, 0] : List Int).set k p
def lx (k : Nat) : List (List Int) := twosL.map (axP k)
def lunits : List (List Int) := signsL.flatMap lu1 ++ (List.range 4).flatMap lx
theorem take_fm {α β : Type} {f : α → List β} {xs : List α} {k : Nat} {x : α} (h : xs[k]? = some x) : (xs.take (k + 1)).flatMap f = (xs.take k).flatMap f ++ f x := by
  rw [List.take_succ, h, List.flatMap_append]
  simp
theorem take_mp {α β : Type} {f : α → β} {xs : List α} {k : Nat} {x : α} (h : xs[k]? = some x) : (xs.take (k + 1)).map f = (xs.take k).map f ++ [f x] := by
  rw [List.take_succ, h, List.map_append]
  rfl
theorem axP_eq {k : Nat} (hk : k < 4) (p : Int) : ((List.range 4).map fun (j : Nat) => PyData.int (p * (if decide ((0 : Int) + (j : Nat) = 0 + (k : Nat)) = true then 1 else 0))) = (axP k p).map .int := by
  have : k = 0 ∨ k = 1 ∨ k = 2 ∨ k = 3 := by omega
  unfold axP
  rcases this with rfl | rfl | rfl | rfl <;> simp [List.range_succ, List.range_zero]
theorem signs_get {i : Nat} {d : D} (h : (signsL.map PyData.int)[i]? = some d) : ∃ z, signsL[i]? = some z ∧ d = .int z := by
  rw [List.getElem?_map] at h
  cases q : signsL[i]? with
  | none => rw [q] at h; cases h
  | some z => rw [q] at h; exact ⟨z, rfl, (Option.some.inj h).symm⟩
theorem twos_get {i : Nat} {d : D} (h : (twosL.map PyData.int)[i]? = some d) : ∃ z, twosL[i]? = some z ∧ d = .int z := by
  rw [List.getElem?_map] at h
  cases q : twosL[i]? with
  | none => rw [q] at h; cases h
  | some z => rw [q] at h; exact ⟨z, rfl, (Option.some.inj h).symm⟩
theorem fm_len {α β : Type} {f : α → List β} {n : Nat} : ∀ (xs : List α), (∀ x, (f x).length ≤ n) → (xs.flatMap f).length ≤ xs.length * n
  | [], _ => by simp
  | x :: xs, h => by
    rw [List.flatMap_cons, List.length_append, List.length_cons, Nat.succ_mul]
    have := h x
    have := fm_len xs h
    omega
theorem lu_len (a b : Int) (k : Nat) : ((signsL.take k).flatMap (lu3 a b)).length ≤ 4 := Nat.le_trans (fm_len (n := 2) _ fun c => Nat.le_refl _) (by rw [List.length_take]; show min k 2 * 2 ≤ 4; omega)
theorem lu2_len (a : Int) (k : Nat) : ((signsL.take k).flatMap (lu2 a)).length ≤ 8 := Nat.le_trans (fm_len (n := 4) _ fun c => by show ((signsL.take 2).flatMap (lu3 a c)).length ≤ 4; exact lu_len a c 2) (by rw [List.length_take]; show min k 2 * 4 ≤ 8; omega)
theorem lu1_len (k : Nat) : ((signsL.take k).flatMap lu1).length ≤ 16 := Nat.le_trans (fm_len (n := 8) _ fun c => by show ((signsL.take 2).flatMap (lu2 c)).length ≤ 8; exact lu2_len c 2) (by rw [List.length_take]; show min k 2 * 8 ≤ 16; omega)
theorem lx_len (k : Nat) (h : k ≤ 4) : ((List.range k).flatMap lx).length ≤ 8 := Nat.le_trans (fm_len (n := 2) _ fun c => Nat.le_refl _) (by rw [List.length_range]; omega)
def R_lunits : List D → Out → Prop := fun ds o => ds = [] ∧ o = .o (lunits.map ti)
theorem lunits_perm : lunits.Perm unitsL := by decide +kernel
/-! facts about the greatest common left divisor -/
theorem gcd_ex {a b : List Int} (ha : isNum a = true) (hb : isNum b = true) (h0 : ¬ (zeroB a = true ∧ zeroB b = true)) : ∃ g, LGcd a b g := by
  have h : zeroB a = false ∨ zeroB b = false := by
    cases h1 : zeroB a with
    | false => exact .inl rfl
    | true =>
      cases h2 : zeroB b with
      | false => exact .inr rfl
      | true => exact absurd ⟨h1, h2⟩ h0
  obtain ⟨m, _, _, _, _, h5⟩ := eu_stop (normL b).toNat a b ha hb (by omega) h
  exact ⟨_, h5⟩
theorem LDiv.refl {a : List Int} (ha : isNum a = true) : LDiv a a := ⟨[2, 0, 0, 0], by decide, (mul_oneR ha).symm⟩
theorem canon_num {x : List Int} (hx : isNum x = true) : isNum (canonL x) = true := by rw [← (lead_ok x).2]; exact num_mul hx (u_num (lead_ok x).1)
theorem canon_ldiv {x : List Int} (hx : isNum x = true) : LDiv (canonL x) x ∧ LDiv x (canonL x) := by
  obtain ⟨h1, h2⟩ := lead_ok x
  exact ⟨⟨behindL x, u_num (behind_u x), (behind_mul hx).symm⟩, ⟨leadU x, u_num h1, h2.symm⟩⟩
/-- the canonical one is itself a greatest common one -/
theorem gcd_self {a b g : List Int} (h : LGcd a b g) : LGcd a b (canonL g) := by
  obtain ⟨g1, g2, g3, g4, x, y, hx, hy, e⟩ := h
  obtain ⟨l1, l2⟩ := lead_ok g
  have d := canon_ldiv g1
  refine ⟨canon_num g1, canon_nz g1 g2, d.1.trans (canon_num g1) g3, d.1.trans (canon_num g1) g4, ?_⟩
  obtain ⟨k1, k2⟩ := lead_ok g
  obtain ⟨ya, hya, ea⟩ := g3
  obtain ⟨yb, hyb, eb⟩ := g4
  have hua := u_num l1
  have ha : isNum a = true := by rw [ea]; exact num_mul g1 hya
  have hb : isNum b = true := by rw [eb]; exact num_mul g1 hyb
  refine ⟨mulL x (leadU g), mulL y (leadU g), num_mul hx hua, num_mul hy hua, ?_⟩
  rw [← mul_asc ha hx hua, ← mul_asc hb hy hua, ← mul_addl (num_mul ha hx) (num_mul hb hy) hua, ← e, l2]
theorem lgcd_spec {a b : List Int} (ha : isNum a = true) (hb : isNum b = true) (h0 : ¬ (zeroB a = true ∧ zeroB b = true)) : LGcd a b (lgcd a b) := by
  obtain ⟨g, h⟩ := gcd_ex ha hb h0
  rw [← lgcd_eq h]
  exact gcd_self h
theorem lgcd_canon {a b : List Int} (ha : isNum a = true) (hb : isNum b = true) (h0 : ¬ (zeroB a = true ∧ zeroB b = true)) : canonL (lgcd a b) = lgcd a b := by
  obtain ⟨g, h⟩ := gcd_ex ha hb h0
  rw [← lgcd_eq h, canon_canon h.1]
theorem LGcd.symm {a b g : List Int} (ha : isNum a = true) (hb : isNum b = true) (h : LGcd a b g) : LGcd b a g := by
  obtain ⟨g1, g2, g3, g4, x, y, hx, hy, e⟩ := h
  refine ⟨g1, g2, g4, g3, y, x, hy, hx, ?_⟩
  rw [e]
  have n1 := num_mul ha hx
  have n2 := num_mul hb hy
  generalize mulL a x = p at *
  generalize mulL b y = q at *
  obtain ⟨p1, p2, p3, p4, rfl, _⟩ := num_cases n1
  obtain ⟨q1, q2, q3, q4, rfl, _⟩ := num_cases n2
  show [p1 + q1, p2 + q2, p3 + q3, p4 + q4] = [q1 + p1, q2 + p2, q3 + p3, q4 + p4]
  rw [Int.add_comm p1, Int.add_comm p2, Int.add_comm p3, Int.add_comm p4]
end TB
namespace TB
open PySem L2 PySem.Spec PyProof.Rows
theorem max_canon2 (x : List Int) : PySem.W.maxD (ti (mulL x [-1, -1, -1, -1])) (((lunits.drop 1).map (mulL x)).map ti) = ti (canonL x) := by
  obtain ⟨m, h1, h2, h3⟩ := max_ti ((lunits.drop 1).map (mulL x)) (mulL x [-1, -1, -1, -1])
  have pm : ((mulL x [-1, -1, -1, -1]) :: (lunits.drop 1).map (mulL x)).Perm (assoL x) := lunits_perm.map (mulL x)
  rw [h2, canon_eq (x := x) (pm.mem_iff.mp h1) fun y hy => h3 y (pm.mem_iff.mpr hy)]
def R_law_turned : List D → Out → Prop := fun ds o => ∃ ns, ds = [ti ns] ∧ ns.length = 4 ∧ o = .v (ti (conjL ns))
def R_law_greatest : List D → Out → Prop := fun ds o => ∃ ns, ds = [ti ns] ∧ isNum ns = true ∧ Sm 300000 ns ∧ o = .v (ti (canonL ns))
def R_law_times : List D → Out → Prop := fun ds o => ∃ ns ms : List Int, ds = [ti ns, ti ms] ∧ ns.length = 4 ∧ ms.length = 4 ∧ Sm 400000 ns ∧ Sm 400000 ms ∧ o = .v (ti (mulL ns ms))
end TB
namespace TB
open PySem L2 PySem.Spec PyProof.Rows
section
variable {X : Cx} {W : WX} {F0 H0 : Hp} {Γ : List S} {a b : Expr} {x y : D} {n1 n2 : Str} {px py pt pos pt2 : Pos} {kt k2 : Nat}
/-- a, b = x, y: two names -/
theorem js_par (i j : Nat) (hc : X.calm = true) (hN : X.N.Nodup) (ha : JE X WF F0 H0 Γ a (.v x)) (hb : JE X WF F0 H0 Γ b (.v y)) (hi : X.N[i]? = some n1 := by rfl) (hj : X.N[j]? = some n2 := by rfl) (hij : i ≠ j := by decide) (hx : X.env.scope.names.lookup n1 = some .local := by rfl) (hy : X.env.scope.names.lookup n2 = some .local := by rfl)
    (hw : swappedStores [.Tuple [.Name n1 px, .Name n2 py] kt pt] (.Tuple [a, b] k2 pt2) X.env = pure (some [n1, n2]) := by rfl) (hs : swapsWithSole [.Tuple [.Name n1 px, .Name n2 py] kt pt] (.Tuple [a, b] k2 pt2) pos.line X.env = pure false := by rfl)
    (s2 : starEach [a, b] X.env = (false, eval a X.env) :: starEach [b] X.env := by rfl) (s1 : starEach [b] X.env = (false, eval b X.env) :: starEach [] X.env := by rfl) :
    JS X W F0 H0 Γ (.Assign [.Tuple [.Name n1 px, .Name n2 py] kt pt] (.Tuple [a, b] k2 pt2) pos) (.nx ((Γ.set i (.d x)).set j (.d y))) :=
  ps_imp (ps_par hc hN hi hj hij hx hy (ja_cons ha (ja_cons hb ja_nil s1) s2) hw hs) fun D' σ H ⟨F, ok, q⟩ => ⟨F, ok, fun vs F1 H1 z1 d1 => by
    cases d1 with
    | cons a1 d1 =>
      cases d1 with
      | cons a2 d1 =>
        cases d1
        exact ⟨_, _, rfl, q _ F1 H1 z1.f (((ok.mono z1).set i a1).set j a2)⟩⟩
end
end TB
namespace TB
end TB

namespace TB
open PySem L2 PySem.Spec PyProof.Rows
/-! ### zip of a tuple and a list, either way round -/
theorem nin2 {x p q : Nat} (h1 : x ≠ p) (h2 : x ≠ q) : x ∉ [p, q] := by simp [h1, h2]
theorem zsep {n a b : Nat} (la : a < n) (lb : b < n) : ZipSep2 (n + 4 : Nat) (n + 2 : Nat) (n + 3 : Nat) n (n + 1 : Nat) [n, a] [(n + 1 : Nat), b] where
  TIz := by show (n + 2 : Nat) ≠ n + 4; omega
  TOz := by show (n + 3 : Nat) ≠ n + 4; omega
  TITO := by show (n + 2 : Nat) ≠ n + 3; omega
  TIi1 := by show (n + 2 : Nat) ≠ n; omega
  mem1 := List.mem_cons_self
  zf1 := nin2 (by omega) (by omega)
  Tf1 := nin2 (by omega) (by omega)
  TIi2 := by show (n + 2 : Nat) ≠ n + 1; omega
  mem2 := List.mem_cons_self
  zf2 := nin2 (by omega) (by omega)
  Tf2 := nin2 (by omega) (by omega)
  sep1_2 := nin2 (by omega) (by omega)
  sep2_1 := nin2 (by omega) (by omega)
theorem five_le {n c : Nat} (h : c = n + 4 ∨ c = n + 2 ∨ c = n + 3 ∨ c = n ∨ c = n + 1) : n ≤ c := by omega
/-- what zip draws of two rows of unlike kinds -/
def ItzTL (K : PySem.W.Frag) (a b : Addr) : It where
  go := fun i H => ∃ (xs ys : List V) (x y : V), SqT K H a xs ∧ SqL K H b ys ∧ xs[i]? = some x ∧ ys[i]? = some y
  yld := fun i H v H' => ∃ T x y, v = .ref T ∧ H T = none ∧ H' = upd H T (.tup [x, y])
    ∧ (∀ xs, SqT K H a xs → xs[i]? = some x) ∧ ∀ ys, SqL K H b ys → ys[i]? = some y
  stop := fun i H => ∃ xs ys : List V, SqT K H a xs ∧ SqL K H b ys ∧ i = min xs.length ys.length
theorem turnTL {P : Program} {w : World} {K : PySem.W.Frag} {es : List Expr} {kq : Nat} {tq : Pos} {a b z p q c1 c2 : Addr}
    (S : ZipSep2 z p q c1 c2 [c1, a] [c2, b]) (na : a ≠ c1) (nb : b ≠ c2) :
    Turn P w K (.Tuple es kq tq) (ItzTL K a b) [z, p, q, c1, c2] z
      (fun i h => IsZip h z p q .none ∧ IsTupOf2 h p (.ref c1) (.ref c2) ∧ (∃ x y, IsTupOf2 h q x y) ∧ h.IsTupleIter c1 a i ∧ h.IsListIter c2 b i) where
  mem := List.mem_cons_self
  obj := fun i h st c hc => by
    obtain ⟨g1, g2, ⟨x, y, g3⟩, ⟨o1, k1, _, l1⟩, ⟨o2, k2, _, l2⟩⟩ := st
    have cs : c = z ∨ c = p ∨ c = q ∨ c = c1 ∨ c = c2 := by simpa using hc
    rcases cs with e | e | e | e | e
    · subst e; exact ⟨_, g1, fun v r => nomatch r⟩
    · subst e; exact ⟨_, g2, fun v r => nomatch r⟩
    · subst e; exact ⟨_, g3, fun v r => nomatch r⟩
    · subst e; exact ⟨o1, k1, fun v r => by rw [l1] at r; cases r⟩
    · subst e; exact ⟨o2, k2, fun v r => by rw [l2] at r; cases r⟩
  keep := fun i h h' st k => by
    obtain ⟨g1, g2, ⟨x, y, g3⟩, g4, g5⟩ := st
    refine ⟨k z (by simp) _ g1, k p (by simp) _ g2, ⟨x, y, k q (by simp) _ g3⟩, ?_, ?_⟩
    · exact g4.at fun o r => k c1 (by simp) o r
    · exact g5.at fun o r => k c2 (by simp) o r
  item := by
    intro X hP hw hK hc i pins s σ H E I fr st go
    subst hP hw hK
    obtain ⟨g1, g2, ⟨x0, y0, g3⟩, g4, g5⟩ := st
    obtain ⟨xs, ys, x, y, qx, qy, hx, hy⟩ := go
    obtain ⟨us, rx, px, _⟩ := I.tuple qx
    obtain ⟨vs, ry, py, _⟩ := I.list qy
    obtain ⟨u, hu, ru⟩ := rx.get hx
    obtain ⟨v, hv, rv⟩ := ry.get hy
    have zl : z < s.heap.objs.size := Heap.lt_size g1
    have D1 := Draws.tuple (prog := X.prog) (w := X.w) (A := X.A.in1) (I.ok.hd hc) c1 a na us.toArray
    have D2 := Draws.list (prog := X.prog) (w := X.w) (A := X.A.in1) (I.ok.hd hc) c2 b nb vs.toArray
    have li : i < us.toArray.size := by simpa using (List.getElem?_eq_some_iff.mp hu).1
    have lj : i < vs.toArray.size := by simpa using (List.getElem?_eq_some_iff.mp hv).1
    refine wpAny_pyNext_zipD2_item S D1 D2 g1 g2 g3 ⟨g4, px⟩ ⟨g5, py.isList⟩ li lj fun x1 x2 h' tk w1 w2 z' q' s1 s2 hT hs hk => ?_
    have e1 : u = x1 := by simpa [hu] using w1
    have e2 : v = x2 := by simpa [hv] using w2
    subst e1 e2
    refine ⟨_, rfl, wpAny_letOwnedTupleGo_zip (s := { s with heap := h', toks := tk }) z' fun h2 z2 sb => ?_⟩
    have far : ∀ c, c ∈ [z, p, q, c1, c2] → c < s.heap.objs.size := fun c hcm => by
      have cs : c = z ∨ c = p ∨ c = q ∨ c = c1 ∨ c = c2 := by simpa using hcm
      rcases cs with e | e | e | e | e
      · rw [e]; exact zl
      · rw [e]; exact Heap.lt_size g2
      · rw [e]; exact Heap.lt_size g3
      · rw [e]; obtain ⟨_, r, _⟩ := g4; exact Heap.lt_size r
      · rw [e]; obtain ⟨_, r, _⟩ := g5; exact Heap.lt_size r
    have hN : h2.get? s.heap.objs.size = some { cls := .type "tuple", data := .seq #[u, v] } :=
      (sb.2 _ (Nat.ne_of_gt zl)).trans hT
    have made : ObjOk X.prog X.w (upd H s.heap.objs.size (.tup [x, y])) h2 s.heap.objs.size (.tup [x, y]) :=
      ⟨(by show 2 ≤ sizeLine; decide), [u, v], .cons ru (.cons rv .nil), ⟨_, hN, rfl, _, rfl⟩⟩
    have kept : ∀ c o, c ∉ [z, p, q, c1, c2] → s.heap.get? c = some o → h2.get? c = some o := fun c o hb r => by
      have n : c ≠ z ∧ c ≠ p ∧ c ≠ q ∧ c ≠ c1 ∧ c ≠ c2 := by simpa using hb
      exact (sb.2 c n.1).trans (hk c o n.1 n.2.2.1 n.2.2.2.1 n.2.2.2.2 r)
    have J : Inv X pins σ (upd H s.heap.objs.size (.tup [x, y])) { s with heap := h2, toks := tk } :=
      I.turnedNew (t' := tk) (ch := [z, p, q, c1, c2]) kept fr (Nat.le_refl _) made
    refine ⟨.ref s.heap.objs.size, _, J, rfl, ⟨_, x, y, rfl, I.hok.fresh (Nat.le_refl _), rfl, fun l hl => ?_, fun l hl => ?_⟩, ⟨z2, ?_, ⟨u, v, ?_⟩, ?_, ?_⟩, fun c hcm => ?_⟩
    · rw [I.tuple_inj hl qx]; exact hx
    · rw [I.list_inj hl qy]; exact hy
    · exact (sb.2 _ S.TIz).trans (hk _ _ S.TIz S.TITO S.TIi1 S.TIi2 g2)
    · exact (sb.2 _ S.TOz).trans q'
    · exact s1.1.at fun o r => (sb.2 _ (Ne.symm S.zi1)).trans r
    · exact s2.1.at fun o r => (sb.2 _ (Ne.symm S.zi2)).trans r
    · rw [upd_ne (Nat.ne_of_lt (far c hcm))]
      exact (fr c hcm).1
  done := by
    intro X hP hw hK hc i pins s σ H E I fr st go
    subst hP hw hK
    obtain ⟨g1, g2, ⟨x0, y0, g3⟩, g4, g5⟩ := st
    obtain ⟨xs, ys, qx, qy, fin⟩ := go
    obtain ⟨us, rx, px, _⟩ := I.tuple qx
    obtain ⟨vs, ry, py, _⟩ := I.list qy
    have n1 := rx.length
    have n2 := ry.length
    have D1 := Draws.tuple (prog := X.prog) (w := X.w) (A := X.A.in1) (I.ok.hd hc) c1 a na us.toArray
    have D2 := Draws.list (prog := X.prog) (w := X.w) (A := X.A.in1) (I.ok.hd hc) c2 b nb vs.toArray
    have m1 : us.toArray.size = xs.length := by rw [List.size_toArray]; omega
    have m2 : vs.toArray.size = ys.length := by rw [List.size_toArray]; omega
    refine wpAny_pyNext_zipD2_end S D1 D2 g1 g2 g3 ⟨g4, px⟩ ⟨g5, py.isList⟩ (by omega) (by omega) (by omega) fun h' tk hk => ⟨rfl, ?_⟩
    refine I.turnedL (t' := tk) (ch := [z, p, q, c1, c2]) (fun c o hb r => ?_) fr
    have n : c ≠ z ∧ c ≠ p ∧ c ≠ q ∧ c ≠ c1 ∧ c ≠ c2 := by simpa using hb
    exact hk c o n.1 n.2.2.1 n.2.2.2.1 n.2.2.2.2 r
  self := fun A i s Q E st h => wpAny_pyIter_zip st.1 h
theorem pi_zipTL {X : Cx} {e e2 : Expr} {ta : TA} {p pos tpos : Pos} {es : List Expr} {kk : Nat} (hg : Gl X "zip") (hm : X.mg "zip" = none) (ha : PA X [e, e2] ta)
    (hs : starEach [e, e2] X.env = (false, eval e X.env) :: starEach [e2] X.env) (hpl : (backTo pos (starEach [e2] X.env)).any (·.1) = false) :
    PI X (.Tuple es kk tpos) (.Call (.Name "zip" p) [e, e2] [] pos) (fun σ H R => ta σ H fun vs H1 => ∃ a b xs ys, vs = [.ref a, .ref b] ∧ SqT X.K H1 a xs ∧ SqL X.K H1 b ys ∧ R (ItzTL X.K a b) H1) := by
  refine ⟨fun pins s σ H R I h => ?_⟩
  refine Call_ (ld_blt I hg hm PyProof.Rows.boot_zip (PyProof.Rows.callWith_type1 (thn (ha.run pos pins s σ H _ I h) fun us s1 ⟨vs, H1, I1, r1, q1⟩ => ?_) hs hpl))
  obtain ⟨a, b, xs, ys, ex, qx, qy, q⟩ := q1
  subst ex
  obtain ⟨ua, ub, rfl, ra, rb⟩ := Vals.two r1
  cases ra
  cases rb
  obtain ⟨us, rx, px, _⟩ := I1.tuple qx
  obtain ⟨vs, ry, py, _⟩ := I1.list qy
  have la : a < s1.heap.objs.size := (by obtain ⟨_, r, _⟩ := px; exact Heap.lt_size r)
  have lb : b < s1.heap.objs.size := py.lt
  refine zip_begins2 (begins_tuple a us.toArray) (begins_list b vs.toArray) px py.isList fun h' hz hp hq h1 h2 hsz hk => wpAny_pyIter_zip hz ?_
  have J : Inv X pins σ H1 { s1 with heap := h' } := I1.kept (t' := s1.toks) hk
  refine ⟨s1.heap.objs.size + 4, [s1.heap.objs.size + 4, s1.heap.objs.size + 2, s1.heap.objs.size + 3, s1.heap.objs.size, s1.heap.objs.size + 1], _, _, H1, rfl, J,
    turnTL (K := X.K) (a := a) (b := b) (zsep la lb) (Nat.ne_of_lt la) (Nat.ne_of_lt (Nat.lt_succ_of_lt lb)), ⟨hz, hp, ⟨_, _, hq⟩, ⟨_, h1, rfl, rfl⟩, ⟨_, h2, rfl, rfl⟩⟩, fun c hcm => ?_, q⟩
  have hle : s1.heap.objs.size ≤ c := by
    have cs : c = s1.heap.objs.size + 4 ∨ c = s1.heap.objs.size + 2 ∨ c = s1.heap.objs.size + 3 ∨ c = s1.heap.objs.size ∨ c = s1.heap.objs.size + 1 := by simpa using hcm
    exact five_le cs
  exact I1.fpOk hle (I1.hok.fresh hle)
theorem ji_zipTL {X : Cx} {F0 H0 : Hp} {Γ : List S} {a b : Expr} {es : List Expr} {np pos tp : Pos} {kk : Nat} {xs ys : List D} (hm : X.mg "zip" = none) (ha : JE X WF F0 H0 Γ a (.v (.tuple xs))) (hb : JE X WF F0 H0 Γ b (.v (.list ys))) (hg : Gl X "zip" := by rfl)
    (hs : starEach [a, b] X.env = (false, eval a X.env) :: starEach [b] X.env := by rfl) (hs2 : starEach [b] X.env = (false, eval b X.env) :: starEach [] X.env := by rfl) (hpl : (backTo pos (starEach [b] X.env)).any (·.1) = false := by rfl) :
    JI X F0 H0 Γ (.Tuple es kk tp) (.Call (.Name "zip" np) [a, b] [] pos) ((xs.zip ys).map prD) :=
  pi_imp (pi_zipTL hg hm (ja_cons ha (ja_cons hb ja_nil hs2) hs) hs hpl) fun σ H R ⟨F, ok, q⟩ => ⟨F, ok, fun vs F1 H1 z1 d1 => by
    cases d1 with
    | cons k1 k2 =>
      cases k2 with
      | cons k2 k3 =>
        cases k3
        cases k1 with
        | tup a1 a2 =>
          cases k2 with
          | lst b1 b2 =>
            refine ⟨_, _, _, _, rfl, st_ex z1.s a1, sl_ex z1.s b1, q _ F1 H1 z1 fun F2 H2 i e1 e2 => ?_⟩
            have g1 := st_ex (e1.trans e2) a1
            have g2 := sl_ex (e1.trans e2) b1
            refine ⟨fun d e => ?_, fun e => ⟨_, _, g1, g2, ?_⟩⟩
            · obtain ⟨x, y, m1, m2, rfl⟩ := zip_get e
              obtain ⟨v, v1, v2⟩ := da_get a2 m1
              obtain ⟨u, u1, u2⟩ := da_get b2 m2
              refine ⟨⟨_, _, v, u, g1, g2, v1, u1⟩, fun x' H' y' => ?_⟩
              obtain ⟨T, x2, y2, w1, w2, w3, w4, w5⟩ := y'
              subst w1 w3
              have q1 := w4 _ g1
              have q2 := w5 _ g2
              rw [v1] at q1; rw [u1] at q2
              cases q1; cases q2
              exact ⟨_, Fz.new e2 w2, .tup (SqT.of upd_same) (.cons (dp_ex (e1.trans (Fz.new e2 w2).f) _ _ v2) (.cons (dp_ex (e1.trans (Fz.new e2 w2).f) _ _ u2) .nil))⟩
            · rw [List.length_map, List.length_zip] at e
              rw [da_len a2, da_len b2]
              exact e⟩
/-- what zip draws of two rows of unlike kinds -/
def ItzLT (K : PySem.W.Frag) (a b : Addr) : It where
  go := fun i H => ∃ (xs ys : List V) (x y : V), SqL K H a xs ∧ SqT K H b ys ∧ xs[i]? = some x ∧ ys[i]? = some y
  yld := fun i H v H' => ∃ T x y, v = .ref T ∧ H T = none ∧ H' = upd H T (.tup [x, y])
    ∧ (∀ xs, SqL K H a xs → xs[i]? = some x) ∧ ∀ ys, SqT K H b ys → ys[i]? = some y
  stop := fun i H => ∃ xs ys : List V, SqL K H a xs ∧ SqT K H b ys ∧ i = min xs.length ys.length
theorem turnLT {P : Program} {w : World} {K : PySem.W.Frag} {es : List Expr} {kq : Nat} {tq : Pos} {a b z p q c1 c2 : Addr}
    (S : ZipSep2 z p q c1 c2 [c1, a] [c2, b]) (na : a ≠ c1) (nb : b ≠ c2) :
    Turn P w K (.Tuple es kq tq) (ItzLT K a b) [z, p, q, c1, c2] z
      (fun i h => IsZip h z p q .none ∧ IsTupOf2 h p (.ref c1) (.ref c2) ∧ (∃ x y, IsTupOf2 h q x y) ∧ h.IsListIter c1 a i ∧ h.IsTupleIter c2 b i) where
  mem := List.mem_cons_self
  obj := fun i h st c hc => by
    obtain ⟨g1, g2, ⟨x, y, g3⟩, ⟨o1, k1, _, l1⟩, ⟨o2, k2, _, l2⟩⟩ := st
    have cs : c = z ∨ c = p ∨ c = q ∨ c = c1 ∨ c = c2 := by simpa using hc
    rcases cs with e | e | e | e | e
    · subst e; exact ⟨_, g1, fun v r => nomatch r⟩
    · subst e; exact ⟨_, g2, fun v r => nomatch r⟩
    · subst e; exact ⟨_, g3, fun v r => nomatch r⟩
    · subst e; exact ⟨o1, k1, fun v r => by rw [l1] at r; cases r⟩
    · subst e; exact ⟨o2, k2, fun v r => by rw [l2] at r; cases r⟩
  keep := fun i h h' st k => by
    obtain ⟨g1, g2, ⟨x, y, g3⟩, g4, g5⟩ := st
    refine ⟨k z (by simp) _ g1, k p (by simp) _ g2, ⟨x, y, k q (by simp) _ g3⟩, ?_, ?_⟩
    · exact g4.at fun o r => k c1 (by simp) o r
    · exact g5.at fun o r => k c2 (by simp) o r
  item := by
    intro X hP hw hK hc i pins s σ H E I fr st go
    subst hP hw hK
    obtain ⟨g1, g2, ⟨x0, y0, g3⟩, g4, g5⟩ := st
    obtain ⟨xs, ys, x, y, qx, qy, hx, hy⟩ := go
    obtain ⟨us, rx, px, _⟩ := I.list qx
    obtain ⟨vs, ry, py, _⟩ := I.tuple qy
    obtain ⟨u, hu, ru⟩ := rx.get hx
    obtain ⟨v, hv, rv⟩ := ry.get hy
    have zl : z < s.heap.objs.size := Heap.lt_size g1
    have D1 := Draws.list (prog := X.prog) (w := X.w) (A := X.A.in1) (I.ok.hd hc) c1 a na us.toArray
    have D2 := Draws.tuple (prog := X.prog) (w := X.w) (A := X.A.in1) (I.ok.hd hc) c2 b nb vs.toArray
    have li : i < us.toArray.size := by simpa using (List.getElem?_eq_some_iff.mp hu).1
    have lj : i < vs.toArray.size := by simpa using (List.getElem?_eq_some_iff.mp hv).1
    refine wpAny_pyNext_zipD2_item S D1 D2 g1 g2 g3 ⟨g4, px.isList⟩ ⟨g5, py⟩ li lj fun x1 x2 h' tk w1 w2 z' q' s1 s2 hT hs hk => ?_
    have e1 : u = x1 := by simpa [hu] using w1
    have e2 : v = x2 := by simpa [hv] using w2
    subst e1 e2
    refine ⟨_, rfl, wpAny_letOwnedTupleGo_zip (s := { s with heap := h', toks := tk }) z' fun h2 z2 sb => ?_⟩
    have far : ∀ c, c ∈ [z, p, q, c1, c2] → c < s.heap.objs.size := fun c hcm => by
      have cs : c = z ∨ c = p ∨ c = q ∨ c = c1 ∨ c = c2 := by simpa using hcm
      rcases cs with e | e | e | e | e
      · rw [e]; exact zl
      · rw [e]; exact Heap.lt_size g2
      · rw [e]; exact Heap.lt_size g3
      · rw [e]; obtain ⟨_, r, _⟩ := g4; exact Heap.lt_size r
      · rw [e]; obtain ⟨_, r, _⟩ := g5; exact Heap.lt_size r
    have hN : h2.get? s.heap.objs.size = some { cls := .type "tuple", data := .seq #[u, v] } :=
      (sb.2 _ (Nat.ne_of_gt zl)).trans hT
    have made : ObjOk X.prog X.w (upd H s.heap.objs.size (.tup [x, y])) h2 s.heap.objs.size (.tup [x, y]) :=
      ⟨(by show 2 ≤ sizeLine; decide), [u, v], .cons ru (.cons rv .nil), ⟨_, hN, rfl, _, rfl⟩⟩
    have kept : ∀ c o, c ∉ [z, p, q, c1, c2] → s.heap.get? c = some o → h2.get? c = some o := fun c o hb r => by
      have n : c ≠ z ∧ c ≠ p ∧ c ≠ q ∧ c ≠ c1 ∧ c ≠ c2 := by simpa using hb
      exact (sb.2 c n.1).trans (hk c o n.1 n.2.2.1 n.2.2.2.1 n.2.2.2.2 r)
    have J : Inv X pins σ (upd H s.heap.objs.size (.tup [x, y])) { s with heap := h2, toks := tk } :=
      I.turnedNew (t' := tk) (ch := [z, p, q, c1, c2]) kept fr (Nat.le_refl _) made
    refine ⟨.ref s.heap.objs.size, _, J, rfl, ⟨_, x, y, rfl, I.hok.fresh (Nat.le_refl _), rfl, fun l hl => ?_, fun l hl => ?_⟩, ⟨z2, ?_, ⟨u, v, ?_⟩, ?_, ?_⟩, fun c hcm => ?_⟩
    · rw [I.list_inj hl qx]; exact hx
    · rw [I.tuple_inj hl qy]; exact hy
    · exact (sb.2 _ S.TIz).trans (hk _ _ S.TIz S.TITO S.TIi1 S.TIi2 g2)
    · exact (sb.2 _ S.TOz).trans q'
    · exact s1.1.at fun o r => (sb.2 _ (Ne.symm S.zi1)).trans r
    · exact s2.1.at fun o r => (sb.2 _ (Ne.symm S.zi2)).trans r
    · rw [upd_ne (Nat.ne_of_lt (far c hcm))]
      exact (fr c hcm).1
  done := by
    intro X hP hw hK hc i pins s σ H E I fr st go
    subst hP hw hK
    obtain ⟨g1, g2, ⟨x0, y0, g3⟩, g4, g5⟩ := st
    obtain ⟨xs, ys, qx, qy, fin⟩ := go
    obtain ⟨us, rx, px, _⟩ := I.list qx
    obtain ⟨vs, ry, py, _⟩ := I.tuple qy
    have n1 := rx.length
    have n2 := ry.length
    have D1 := Draws.list (prog := X.prog) (w := X.w) (A := X.A.in1) (I.ok.hd hc) c1 a na us.toArray
    have D2 := Draws.tuple (prog := X.prog) (w := X.w) (A := X.A.in1) (I.ok.hd hc) c2 b nb vs.toArray
    have m1 : us.toArray.size = xs.length := by rw [List.size_toArray]; omega
    have m2 : vs.toArray.size = ys.length := by rw [List.size_toArray]; omega
    refine wpAny_pyNext_zipD2_end S D1 D2 g1 g2 g3 ⟨g4, px.isList⟩ ⟨g5, py⟩ (by omega) (by omega) (by omega) fun h' tk hk => ⟨rfl, ?_⟩
    refine I.turnedL (t' := tk) (ch := [z, p, q, c1, c2]) (fun c o hb r => ?_) fr
    have n : c ≠ z ∧ c ≠ p ∧ c ≠ q ∧ c ≠ c1 ∧ c ≠ c2 := by simpa using hb
    exact hk c o n.1 n.2.2.1 n.2.2.2.1 n.2.2.2.2 r
  self := fun A i s Q E st h => wpAny_pyIter_zip st.1 h
theorem pi_zipLT {X : Cx} {e e2 : Expr} {ta : TA} {p pos tpos : Pos} {es : List Expr} {kk : Nat} (hg : Gl X "zip") (hm : X.mg "zip" = none) (ha : PA X [e, e2] ta)
    (hs : starEach [e, e2] X.env = (false, eval e X.env) :: starEach [e2] X.env) (hpl : (backTo pos (starEach [e2] X.env)).any (·.1) = false) :
    PI X (.Tuple es kk tpos) (.Call (.Name "zip" p) [e, e2] [] pos) (fun σ H R => ta σ H fun vs H1 => ∃ a b xs ys, vs = [.ref a, .ref b] ∧ SqL X.K H1 a xs ∧ SqT X.K H1 b ys ∧ R (ItzLT X.K a b) H1) := by
  refine ⟨fun pins s σ H R I h => ?_⟩
  refine Call_ (ld_blt I hg hm PyProof.Rows.boot_zip (PyProof.Rows.callWith_type1 (thn (ha.run pos pins s σ H _ I h) fun us s1 ⟨vs, H1, I1, r1, q1⟩ => ?_) hs hpl))
  obtain ⟨a, b, xs, ys, ex, qx, qy, q⟩ := q1
  subst ex
  obtain ⟨ua, ub, rfl, ra, rb⟩ := Vals.two r1
  cases ra
  cases rb
  obtain ⟨us, rx, px, _⟩ := I1.list qx
  obtain ⟨vs, ry, py, _⟩ := I1.tuple qy
  have la : a < s1.heap.objs.size := px.lt
  have lb : b < s1.heap.objs.size := (by obtain ⟨_, r, _⟩ := py; exact Heap.lt_size r)
  refine zip_begins2 (begins_list a us.toArray) (begins_tuple b vs.toArray) px.isList py fun h' hz hp hq h1 h2 hsz hk => wpAny_pyIter_zip hz ?_
  have J : Inv X pins σ H1 { s1 with heap := h' } := I1.kept (t' := s1.toks) hk
  refine ⟨s1.heap.objs.size + 4, [s1.heap.objs.size + 4, s1.heap.objs.size + 2, s1.heap.objs.size + 3, s1.heap.objs.size, s1.heap.objs.size + 1], _, _, H1, rfl, J,
    turnLT (K := X.K) (a := a) (b := b) (zsep la lb) (Nat.ne_of_lt la) (Nat.ne_of_lt (Nat.lt_succ_of_lt lb)), ⟨hz, hp, ⟨_, _, hq⟩, ⟨_, h1, rfl, rfl⟩, ⟨_, h2, rfl, rfl⟩⟩, fun c hcm => ?_, q⟩
  have hle : s1.heap.objs.size ≤ c := by
    have cs : c = s1.heap.objs.size + 4 ∨ c = s1.heap.objs.size + 2 ∨ c = s1.heap.objs.size + 3 ∨ c = s1.heap.objs.size ∨ c = s1.heap.objs.size + 1 := by simpa using hcm
    exact five_le cs
  exact I1.fpOk hle (I1.hok.fresh hle)
theorem ji_zipLT {X : Cx} {F0 H0 : Hp} {Γ : List S} {a b : Expr} {es : List Expr} {np pos tp : Pos} {kk : Nat} {xs ys : List D} (hm : X.mg "zip" = none) (ha : JE X WF F0 H0 Γ a (.v (.list xs))) (hb : JE X WF F0 H0 Γ b (.v (.tuple ys))) (hg : Gl X "zip" := by rfl)
    (hs : starEach [a, b] X.env = (false, eval a X.env) :: starEach [b] X.env := by rfl) (hs2 : starEach [b] X.env = (false, eval b X.env) :: starEach [] X.env := by rfl) (hpl : (backTo pos (starEach [b] X.env)).any (·.1) = false := by rfl) :
    JI X F0 H0 Γ (.Tuple es kk tp) (.Call (.Name "zip" np) [a, b] [] pos) ((xs.zip ys).map prD) :=
  pi_imp (pi_zipLT hg hm (ja_cons ha (ja_cons hb ja_nil hs2) hs) hs hpl) fun σ H R ⟨F, ok, q⟩ => ⟨F, ok, fun vs F1 H1 z1 d1 => by
    cases d1 with
    | cons k1 k2 =>
      cases k2 with
      | cons k2 k3 =>
        cases k3
        cases k1 with
        | lst a1 a2 =>
          cases k2 with
          | tup b1 b2 =>
            refine ⟨_, _, _, _, rfl, sl_ex z1.s a1, st_ex z1.s b1, q _ F1 H1 z1 fun F2 H2 i e1 e2 => ?_⟩
            have g1 := sl_ex (e1.trans e2) a1
            have g2 := st_ex (e1.trans e2) b1
            refine ⟨fun d e => ?_, fun e => ⟨_, _, g1, g2, ?_⟩⟩
            · obtain ⟨x, y, m1, m2, rfl⟩ := zip_get e
              obtain ⟨v, v1, v2⟩ := da_get a2 m1
              obtain ⟨u, u1, u2⟩ := da_get b2 m2
              refine ⟨⟨_, _, v, u, g1, g2, v1, u1⟩, fun x' H' y' => ?_⟩
              obtain ⟨T, x2, y2, w1, w2, w3, w4, w5⟩ := y'
              subst w1 w3
              have q1 := w4 _ g1
              have q2 := w5 _ g2
              rw [v1] at q1; rw [u1] at q2
              cases q1; cases q2
              exact ⟨_, Fz.new e2 w2, .tup (SqT.of upd_same) (.cons (dp_ex (e1.trans (Fz.new e2 w2).f) _ _ v2) (.cons (dp_ex (e1.trans (Fz.new e2 w2).f) _ _ u2) .nil))⟩
            · rw [List.length_map, List.length_zip] at e
              rw [da_len a2, da_len b2]
              exact e⟩
end TB

namespace TB
open PySem L2 PySem.Spec PyProof.Rows
/-! ### the rows of the algorithm, with their makers -/
structure Row where
  x : List Int
  s : List Int
  t : List Int
def Row.l (r : Row) : List (List Int) := [r.x, r.s, r.t]
theorem G.sub {m n : Nat} {x y : List Int} (a : G m x) (b : G n y) : G (max m n + 1) (subL x y) := by
  refine ⟨num_sub a.num b.num, fun z hz => ?_⟩
  obtain ⟨⟨p, q⟩, hpq, rfl⟩ := List.mem_map.mp hz
  have h := List.of_mem_zip hpq
  exact (a.sm p h.1).sub (b.sm q h.2)
end TB

namespace TB
open PySem L2 PySem.Spec PyProof.Rows
section
variable {X : Cx} {W : WX} {F0 H0 : Hp} {Γ : List S} {e elt it a b : Expr} {pos py pz tp : Pos} {n n2 : Str} {scope : Scope} {i j kk : Nat} {ps : List (D × D)}
end
end TB

namespace TB
open PySem L2 PySem.Spec PyProof.Rows
/-! ### rows as values: tuples first, lists from the third on -/
section
variable {X : Cx} {W : WX} {F0 H0 : Hp} {Γ : List S} {a b e : Expr} {es : List Expr} {np pos tp : Pos} {kk k : Nat} {p q : Row}
end
end TB

namespace TB
open PySem L2 PySem.Spec PyProof.Rows
/-! ### the makers of a row are not both 0 -/
end TB

namespace TB
open PySem L2 PySem.Spec PyProof.Rows
/-! ### the common divisor of a list -/
/-! ### whatever is returned or raised -/
/-! ### the calls of the law on errors -/
def qz (k : Nat) (a b : List Int) : Bool := (decide (k < 6) && zeroB b) || ((decide (5 < k) && (zeroB a && zeroB b)) || (decide (k = 10) && (zeroB a || zeroB b)))
end TB

namespace TB
open PySem L2 PySem.Spec PyProof.Rows
/-! ### isinstance(a tuple, tuple) -/
section
variable {X : Cx} {W : WX} {F0 H0 : Hp} {Γ : List S} {a b e : Expr} {ds : List D} {pos np np2 : Pos} {n : Str}
end
end TB

namespace TB
open PySem L2 PySem.Spec PyProof.Rows
/-! ### tuples and lists mixed -/
theorem G.up {m n : Nat} {x : List Int} (g : G m x) (h : m ≤ n) : G n x := ⟨g.num, g.sm.mono h⟩
/-! ### the law's own tests -/
end TB

namespace TB
open PySem L2 PySem.Spec PyProof.Rows
/-! ### the inner product of two numbers -/
/-! ### the norm of a matrix: it stays in a step -/
end TB

namespace TB
open PySem L2 PySem.Spec PyProof.Rows
/-! ### the least multiple -/
end TB

namespace TB
open PySem L2 PySem.Spec PyProof.Rows
end TB

namespace TB
open PySem L2 PySem.Spec PyProof.Rows
/-! ### the common divisor of a list does not ask for its order -/
end TB

namespace TB
open PySem L2 PySem.Spec PyProof.Rows
/-! ### comprehensions with any names, any tests, one walk or two -/
/-- a name, some names -/
inductive Tgt where
  | one (i : Nat)
  | many (is : List Nat)
  | manyS (is : List Nat)
def Tgt.vs : Tgt → List Nat
  | .one i => [i]
  | .many is => is
  | .manyS is => is
def gNs : List Nat → TGs
  | [] => gNil
  | i :: is => gCons (gName i) (gNs is)
/-- the parts of a row, be it a tuple or a list -/
def gSq (K : PySem.W.Frag) (n : Nat) (t : TGs) : TG := fun v σ H Q => ∃ a xs, v = .ref a ∧ (SqT K H a xs ∨ SqL K H a xs) ∧ xs.length = n ∧ t xs σ H Q
def Tgt.g (K : PySem.W.Frag) : Tgt → TG
  | .one i => gName i
  | .many is => gTup K is.length (gNs is)
  | .manyS is => gSq K is.length (gNs is)
def setG : List Nat → List D → List S → List S
  | i :: is, d :: ds, g => setG is ds (g.set i (.d d))
  | _, _, g => g
def Tgt.put : Tgt → D → List S → List S
  | .one i, d, g => g.set i (.d d)
  | .many is, .tuple ds, g => setG is ds g
  | .many _, _, g => g
  | .manyS is, .tuple ds, g => setG is ds g
  | .manyS is, .list ds, g => setG is ds g
  | .manyS _, _, g => g
def Tgt.fits : Tgt → D → Prop
  | .one _, _ => True
  | .many is, d => ∃ ds, d = .tuple ds ∧ ds.length = is.length
  | .manyS is, d => ∃ ds, (d = .tuple ds ∨ d = .list ds) ∧ ds.length = is.length
def wipeG (g : List S) : List Nat → List S
  | [] => g
  | v :: vs => (wipeG g vs).set v .u
def putV : List Nat → List V → L2.St → L2.St
  | i :: is, v :: vs, σ => putV is vs (σ.set i (some v))
  | _, _, σ => σ
theorem wipe_len (σ : L2.St) : ∀ vs : List Nat, (wipe σ vs).length = σ.length
  | [] => rfl
  | v :: vs => by rw [wipe, List.length_set, wipe_len σ vs]
theorem wipe_get (σ : L2.St) (k : Nat) : ∀ vs : List Nat, (wipe σ vs)[k]? = if k ∈ vs then (σ[k]?).map (fun _ => none) else σ[k]?
  | [] => by simp [wipe]
  | v :: vs => by
    rw [wipe, List.getElem?_set, wipe_len, wipe_get σ k vs]
    by_cases h : v = k
    · subst h
      rw [if_pos rfl, if_pos List.mem_cons_self]
      by_cases hl : v < σ.length
      · rw [if_pos hl, List.getElem?_eq_getElem hl]
        rfl
      · rw [if_neg hl, List.getElem?_eq_none (by omega)]
        rfl
    · rw [if_neg h]
      by_cases h2 : k ∈ vs
      · rw [if_pos h2, if_pos (List.mem_cons_of_mem _ h2)]
      · rw [if_neg h2, if_neg (fun q => by rcases List.mem_cons.mp q with q | q; exact h q.symm; exact h2 q)]
theorem putV_len : ∀ (is : List Nat) (vs : List V) (σ : L2.St), (putV is vs σ).length = σ.length
  | [], _, _ => rfl
  | i :: is, [], _ => rfl
  | i :: is, v :: vs, σ => by rw [putV, putV_len is vs, List.length_set]
theorem putV_get (k : Nat) : ∀ (is : List Nat) (vs : List V) (σ : L2.St), k ∉ is → (putV is vs σ)[k]? = σ[k]?
  | [], _, _, _ => rfl
  | i :: is, [], _, _ => rfl
  | i :: is, v :: vs, σ, h => by
    rw [putV, putV_get k is vs _ (fun q => h (List.mem_cons_of_mem _ q)), List.getElem?_set_ne (fun q => h (by rw [q]; exact List.mem_cons_self))]
theorem wipe_eq {σ τ : L2.St} {vs : List Nat} (hl : σ.length = τ.length) (h : ∀ k, k ∉ vs → σ[k]? = τ[k]?) : wipe σ vs = wipe τ vs := by
  apply List.ext_getElem?
  intro k
  rw [wipe_get, wipe_get]
  by_cases hk : k ∈ vs
  · rw [if_pos hk, if_pos hk]
    by_cases h2 : k < σ.length
    · rw [List.getElem?_eq_getElem h2, List.getElem?_eq_getElem (by omega)]
      rfl
    · rw [List.getElem?_eq_none (by omega), List.getElem?_eq_none (by omega)]
  · rw [if_neg hk, if_neg hk, h k hk]
section
variable {K : PySem.W.Frag} {F0 H0 F H : Hp} {σ : L2.St} {Γ : List S}
theorem Ok.wipe (ok : Ok K F0 H0 F σ H Γ) : ∀ vs : List Nat, Ok K F0 H0 F (L2.wipe σ vs) H (wipeG Γ vs)
  | [] => ok
  | v :: vs => (ok.wipe vs).forget v none
theorem Ok.puts : ∀ (is : List Nat) {vs : List V} {ds : List D} {σ : L2.St} {Γ : List S}, Ok K F0 H0 F σ H Γ → DpAll K F vs ds → Ok K F0 H0 F (putV is vs σ) H (setG is ds Γ)
  | [], _, _, _, _, ok, _ => by
    unfold putV setG
    exact ok
  | i :: is, _, _, _, _, ok, .nil => by
    unfold putV setG
    exact ok
  | i :: is, _, _, _, _, ok, .cons h1 h2 => by
    unfold putV setG
    exact Ok.puts is (ok.set i h1) h2
theorem gNs_run : ∀ (is : List Nat) (vs : List V) (σ : L2.St) (H : Hp) (Q : L2.St → Hp → Prop), vs.length = is.length → Q (putV is vs σ) H → gNs is vs σ H Q
  | [], [], σ, H, Q, _, q => ⟨rfl, q⟩
  | i :: is, v :: vs, σ, H, Q, hl, q => ⟨v, vs, rfl, gNs_run is vs _ H Q (by simpa using hl) q⟩
  | [], _ :: _, _, _, _, hl, _ => by simp at hl
  | _ :: _, [], _, _, _, hl, _ => by simp at hl
theorem tgt_run {t : Tgt} {ws : List Nat} {v : V} {d : D} {Q : L2.St → Hp → Prop} (hs : ∀ i ∈ t.vs, i ∈ ws) (hf : t.fits d) (ex : Ex F H) (dp : Dp K F v d)
    (q : ∀ σ', L2.wipe σ' ws = L2.wipe σ ws → (∀ F' H', Ex F F' → Ok K F0 H0 F' σ H' Γ → Ok K F0 H0 F' σ' H' (t.put d (wipeG Γ ws))) → Q σ' H) : t.g K v (L2.wipe σ ws) H Q := by
  cases t with
  | one i =>
    refine q _ ?_ fun F' H' e ok => (ok.wipe ws).set i (dp_ex e _ _ dp)
    refine wipe_eq (by rw [List.length_set, wipe_len]) fun k hk => ?_
    rw [List.getElem?_set_ne (fun e => hk (by rw [← e]; exact hs i (by simp [Tgt.vs]))), wipe_get, if_neg hk]
  | many is =>
    obtain ⟨ds, e, hl⟩ := hf
    subst e
    cases dp with
    | tup h1 h2 =>
      have hl2 := (da_len h2).trans hl
      refine ⟨_, _, rfl, st_ex ex h1, hl2, gNs_run is _ _ H Q hl2 (q _ ?_ fun F' H' e ok => Ok.puts is (ok.wipe ws) (da_ex e _ _ h2))⟩
      refine wipe_eq (by rw [putV_len, wipe_len]) fun k hk => ?_
      rw [putV_get k is _ _ (fun e => hk (hs k e)), wipe_get, if_neg hk]
  | manyS is =>
    obtain ⟨ds, e, hl⟩ := hf
    rcases e with e | e
    · subst e
      cases dp with
      | tup h1 h2 =>
        have hl2 := (da_len h2).trans hl
        refine ⟨_, _, rfl, .inl (st_ex ex h1), hl2, gNs_run is _ _ H Q hl2 (q _ ?_ fun F' H' e ok => Ok.puts is (ok.wipe ws) (da_ex e _ _ h2))⟩
        refine wipe_eq (by rw [putV_len, wipe_len]) fun k hk => ?_
        rw [putV_get k is _ _ (fun e => hk (hs k e)), wipe_get, if_neg hk]
    · subst e
      cases dp with
      | lst h1 h2 =>
        have hl2 := (da_len h2).trans hl
        refine ⟨_, _, rfl, .inr (sl_ex ex h1), hl2, gNs_run is _ _ H Q hl2 (q _ ?_ fun F' H' e ok => Ok.puts is (ok.wipe ws) (da_ex e _ _ h2))⟩
        refine wipe_eq (by rw [putV_len, wipe_len]) fun k hk => ?_
        rw [putV_get k is _ _ (fun e => hk (hs k e)), wipe_get, if_neg hk]
/-- one walk: what is asked of it -/
theorem lcA_red {W : WX} {α : Type} {xs : List α} {enc : α → D} {t : Tgt} {f : α → D} {p : α → Bool} {tt : TT} (hf : ∀ a ∈ xs, t.fits (enc a)) (ht : ∀ a, a ∈ xs → ∀ σ H Q, tT K F0 H0 (t.put (enc a) (wipeG Γ t.vs)) (p a) σ H Q → tt σ H Q) (hl : xs.length < 100000) :
    ∀ σ H Q, tE K W F0 H0 Γ (.o ((xs.filter p).map f)) σ H Q → tLc (tI K F0 H0 Γ (xs.map enc)) (t.g K) tt (fun σ H Q => ∃ a, a ∈ xs ∧ p a = true ∧ tE K WF F0 H0 (t.put (enc a) (wipeG Γ t.vs)) (.v (f a)) σ H Q) t.vs σ H Q := by
  rintro σ H Q ⟨F, ok, q⟩
  refine ⟨F, ok, fun J F1 H1 z1 it1 D nD => ?_⟩
  have ok1 := ok.mono z1
  have nD1 : F1 D = none := z1.s.none nD
  refine ⟨fun k m H2 => m = xs.length - k ∧ k ≤ xs.length ∧ ∃ F2 acc, Fz F1 H1 F2 H2 ∧ H2 D = some (.lst acc) ∧ F2 D = none ∧ DpAll K F2 acc (((xs.take k).filter p).map f), ⟨xs.length, by simp, Nat.zero_le _, F1, [], Fz.fresh z1.s nD, upd_same, nD1, by simp; exact .nil⟩, ?_⟩
  rintro k m H2 ⟨rfl, hk, F2, acc, z2, a1, a2, a3⟩
  obtain ⟨go, stop⟩ := it1 F2 H2 k z2.f z2.s
  by_cases hlt : k < xs.length
  · have hd : xs[k]? = some xs[k] := List.getElem?_eq_getElem hlt
    have hmem : xs[k] ∈ xs := List.getElem_mem hlt
    have hdm : (xs.map enc)[k]? = some (enc xs[k]) := by rw [List.getElem?_map, hd]; rfl
    obtain ⟨g1, g2⟩ := go _ hdm
    have htk : xs.take (k + 1) = xs.take k ++ [xs[k]] := by rw [List.take_succ, hd]; rfl
    refine .inr ⟨g1, fun H' => ∃ F3 acc', Fz F1 H1 F3 H' ∧ H' D = some (.lst acc') ∧ F3 D = none ∧ DpAll K F3 acc' (((xs.take (k + 1)).filter p).map f), fun H' h' => ⟨xs.length - (k + 1), by omega, rfl, hlt, h'⟩, fun x H' y => ?_⟩
    obtain ⟨F3, z3, d3⟩ := g2 x H' y
    have a1' := z3.h D _ a1
    have a2' := z3.n D _ a2 a1
    refine tgt_run (Γ := Γ) (F0 := F0) (H0 := H0) (fun i h => h) (hf _ hmem) z3.s d3 fun σ' hw tr => ?_
    have o2 := tr _ _ (Ex.refl _) ((ok1.mono z2).mono z3)
    refine ⟨hw, ht _ hmem _ _ _ ⟨F3, o2, fun F4 H4 z4 => ?_⟩⟩
    have b1 := z4.h D _ a1'
    have b2 := z4.n D _ a2' a1'
    cases hp : p xs[k] with
    | false =>
      refine iteF ⟨F4, acc, (z2.trans z3).trans z4, b1, b2, ?_⟩
      rw [htk, List.filter_append, List.filter_cons_of_neg (by rw [hp]; exact Bool.false_ne_true), List.filter_nil, List.append_nil]
      exact da_ex (z3.f.trans z4.f) _ _ a3
    | true =>
      refine iteT ⟨xs[k], hmem, hp, F4, o2.mono z4, fun v F5 H5 z5 d5 => ⟨acc, z5.h D _ b1, ?_, F5, acc ++ [v], ?_, upd_same, z5.n D _ b2 b1, ?_⟩⟩
      · rw [da_len a3, List.length_map]
        have h1 := List.length_filter_le p (xs.take k)
        rw [List.length_take] at h1
        exact Nat.lt_of_lt_of_le (by omega : _ < 100000) (by decide)
      · have zz := ((z2.trans z3).trans z4).trans z5
        refine ⟨zz.f, fun c o hc => ?_, fun c o hc => ?_, zz.n⟩
        · rw [upd_ne (ne_of_none hc nD)]
          exact zz.h c o hc
        · rw [upd_ne (ne_of_none hc (z5.n D _ b2 b1))]
          exact zz.s c o hc
      · rw [htk, List.filter_append, List.filter_cons_of_pos (by rw [hp]), List.filter_nil, List.map_append]
        exact da_app (da_ex ((z3.f.trans z4.f).trans z5.f) _ _ a3) (.cons d5 .nil)
  · have hke : k = xs.length := by omega
    refine .inl ⟨stop (by rw [List.length_map]; exact hke), ?_⟩
    subst hke
    rw [List.take_length] at a3
    exact q D acc F2 H2 (z1.trans z2) (z1.h.none nD) a1 a2 a3
/-- two walks, the inner one over what hangs on the outer one -/
theorem lcB_red {W : WX} {α β : Type} {xs : List α} {enc : α → D} {ys : α → List β} {enc1 : β → D} {t t1 : Tgt} {f : α → β → D} {p : α → Bool} {p1 : α → β → Bool} {tt tt1 : TT} {wi1 : TI} {ws : List Nat} {m : Nat} (hws : ∀ i ∈ t.vs, i ∈ ws) (hf : ∀ a ∈ xs, t.fits (enc a)) (hf1 : ∀ a ∈ xs, ∀ b ∈ ys a, t1.fits (enc1 b)) (hv : ∀ i ∈ t1.vs, i ∈ ws)
    (ht : ∀ a, a ∈ xs → ∀ σ H Q, tT K F0 H0 (t.put (enc a) (wipeG Γ ws)) (p a) σ H Q → tt σ H Q)
    (hi : ∀ a, a ∈ xs → p a = true → ∀ σ H R, tI K F0 H0 (t.put (enc a) (wipeG Γ ws)) ((ys a).map enc1) σ H R → wi1 σ H R)
    (ht1 : ∀ a, a ∈ xs → p a = true → ∀ b, b ∈ ys a → ∀ σ H Q, tT K F0 H0 (t1.put (enc1 b) (wipeG (t.put (enc a) (wipeG Γ ws)) t1.vs)) (p1 a b) σ H Q → tt1 σ H Q) (hl : ((xs.filter p).flatMap fun a => (ys a).filter (p1 a)).length ≤ m) (hm : m < 100000) :
    ∀ σ H Q, tE K W F0 H0 Γ (.o ((xs.filter p).flatMap fun a => ((ys a).filter (p1 a)).map (f a))) σ H Q →
      tLc2 (tI K F0 H0 Γ (xs.map enc)) (t.g K) tt wi1 (t1.g K) tt1 (fun σ H Q => ∃ a b, a ∈ xs ∧ p a = true ∧ b ∈ ys a ∧ p1 a b = true ∧ tE K WF F0 H0 (t1.put (enc1 b) (wipeG (t.put (enc a) (wipeG Γ ws)) t1.vs)) (.v (f a b)) σ H Q) ws t1.vs σ H Q := by
  rintro σ H Q ⟨F, ok, q⟩
  refine ⟨F, ok, fun J F1 H1 z1 it1 D nD => ?_⟩
  have ok1 := ok.mono z1
  have nD1 : F1 D = none := z1.s.none nD
  let res : Nat → List PyData := fun k => ((xs.take k).filter p).flatMap fun a => ((ys a).filter (p1 a)).map (f a)
  refine ⟨fun k m H2 => m = xs.length - k ∧ k ≤ xs.length ∧ ∃ F2 acc, Fz F1 H1 F2 H2 ∧ H2 D = some (.lst acc) ∧ F2 D = none ∧ DpAll K F2 acc (res k), ⟨xs.length, by simp, Nat.zero_le _, F1, [], Fz.fresh z1.s nD, upd_same, nD1, by simp [res]; exact .nil⟩, ?_⟩
  rintro k m' H2 ⟨rfl, hk, F2, acc, z2, a1, a2, a3⟩
  obtain ⟨go, stop⟩ := it1 F2 H2 k z2.f z2.s
  by_cases hlt : k < xs.length
  · have hd : xs[k]? = some xs[k] := List.getElem?_eq_getElem hlt
    have hmem : xs[k] ∈ xs := List.getElem_mem hlt
    have hdm : (xs.map enc)[k]? = some (enc xs[k]) := by rw [List.getElem?_map, hd]; rfl
    obtain ⟨g1, g2⟩ := go _ hdm
    have htk : xs.take (k + 1) = xs.take k ++ [xs[k]] := by rw [List.take_succ, hd]; rfl
    refine .inr ⟨g1, fun H' => ∃ F3 acc', Fz F1 H1 F3 H' ∧ H' D = some (.lst acc') ∧ F3 D = none ∧ DpAll K F3 acc' (res (k + 1)), fun H' h' => ⟨xs.length - (k + 1), by omega, rfl, hlt, h'⟩, fun x H' y => ?_⟩
    obtain ⟨F3, z3, d3⟩ := g2 x H' y
    have a1' := z3.h D _ a1
    have a2' := z3.n D _ a2 a1
    refine tgt_run (Γ := Γ) (F0 := F0) (H0 := H0) hws (hf _ hmem) z3.s d3 fun σ' hw tr => ?_
    have o2 := tr _ _ (Ex.refl _) ((ok1.mono z2).mono z3)
    refine ⟨hw, ht _ hmem _ _ _ ⟨F3, o2, fun F4 H4 z4 => ?_⟩⟩
    have b1 := z4.h D _ a1'
    have b2 := z4.n D _ a2' a1'
    have z24 := (z2.trans z3).trans z4
    cases hp : p xs[k] with
    | false =>
      refine iteF ⟨F4, acc, z24, b1, b2, ?_⟩
      show DpAll K F4 acc (((xs.take (k + 1)).filter p).flatMap fun a => ((ys a).filter (p1 a)).map (f a))
      rw [htk, List.filter_append, List.filter_cons_of_neg (by rw [hp]; exact Bool.false_ne_true), List.filter_nil, List.append_nil]
      exact da_ex (z3.f.trans z4.f) _ _ a3
    | true =>
      have hres : res (k + 1) = res k ++ ((ys xs[k]).filter (p1 xs[k])).map (f xs[k]) := by
        show ((xs.take (k + 1)).filter p).flatMap _ = _
        rw [htk, List.filter_append, List.filter_cons_of_pos (by rw [hp]), List.filter_nil, List.flatMap_append]
        simp [res]
      refine iteT (hi _ hmem hp _ _ _ ⟨F4, o2.mono z4, fun J1 F5 H5 z5 it5 => ?_⟩)
      have z15 := z24.trans z5
      refine ⟨fun j n H6 => n = (ys xs[k]).length - j ∧ j ≤ (ys xs[k]).length ∧ ∃ F6 acc6, Ex F5 F6 ∧ H6 D = some (.lst acc6) ∧ F6 D = none ∧ DpAll K F6 acc6 (res k ++ (((ys xs[k]).take j).filter (p1 xs[k])).map (f xs[k])) ∧ Fz F1 H1 F6 H6,
        ⟨(ys xs[k]).length, by simp, Nat.zero_le _, F5, acc, Ex.refl _, z5.h D _ b1, z5.n D _ b2 b1, by simp; exact da_ex ((z3.f.trans z4.f).trans z5.f) _ _ a3, z24.trans z5⟩, ?_⟩
      rintro j n H6 ⟨rfl, hj, F6, acc6, z6, c1, c2, c3, z16⟩
      obtain ⟨go1, stop1⟩ := it5 F6 H6 j z6 z16.s
      by_cases hlt1 : j < (ys xs[k]).length
      · have hd1 : (ys xs[k])[j]? = some (ys xs[k])[j] := List.getElem?_eq_getElem hlt1
        have hmem1 : (ys xs[k])[j] ∈ ys xs[k] := List.getElem_mem hlt1
        have hdm1 : ((ys xs[k]).map enc1)[j]? = some (enc1 (ys xs[k])[j]) := by rw [List.getElem?_map, hd1]; rfl
        obtain ⟨e1, e2⟩ := go1 _ hdm1
        have htk1 : (ys xs[k]).take (j + 1) = (ys xs[k]).take j ++ [(ys xs[k])[j]] := by rw [List.take_succ, hd1]; rfl
        refine .inr ⟨e1, fun H' => ∃ F7 acc7, Ex F5 F7 ∧ H' D = some (.lst acc7) ∧ F7 D = none ∧ DpAll K F7 acc7 (res k ++ (((ys xs[k]).take (j + 1)).filter (p1 xs[k])).map (f xs[k])) ∧ Fz F1 H1 F7 H', fun H' h' => ⟨(ys xs[k]).length - (j + 1), by omega, rfl, hlt1, h'⟩, fun x1 H7 y1 => ?_⟩
        obtain ⟨F7, z7, d7⟩ := e2 x1 H7 y1
        have c1' := z7.h D _ c1
        have c2' := z7.n D _ c2 c1
        have o7 := tr F7 H7 (z4.f.trans (z5.f.trans (z6.trans z7.f))) (ok1.mono (z16.trans z7))
        refine tgt_run (Γ := t.put (enc xs[k]) (wipeG Γ ws)) (F0 := F0) (H0 := H0) (fun i h => h) (hf1 _ hmem _ hmem1) z7.s d7 fun σ3 hw3 tr1 => ?_
        have o3 := tr1 _ _ (Ex.refl _) o7
        refine ⟨hw3, ht1 _ hmem hp _ hmem1 _ _ _ ⟨F7, o3, fun F8 H8 z8 => ?_⟩⟩
        have f1 := z8.h D _ c1'
        have f2 := z8.n D _ c2' c1'
        cases hp1 : p1 xs[k] (ys xs[k])[j] with
        | false =>
          refine iteF ⟨F8, acc6, z6.trans (z7.f.trans z8.f), f1, f2, ?_, (z16.trans z7).trans z8⟩
          rw [htk1, List.filter_append, List.filter_cons_of_neg (by rw [hp1]; exact Bool.false_ne_true), List.filter_nil, List.append_nil]
          exact da_ex (z7.f.trans z8.f) _ _ c3
        | true =>
          refine iteT ⟨xs[k], (ys xs[k])[j], hmem, hp, hmem1, hp1, F8, o3.mono z8, fun v F9 H9 z9 d9 => ⟨acc6, z9.h D _ f1, ?_, F9, acc6 ++ [v], ?_, upd_same, z9.n D _ f2 f1, ?_, ?_⟩⟩
          · have hlen : acc6.length ≤ m := by
              rw [da_len c3, List.length_append, List.length_map]
              refine Nat.le_trans ?_ hl
              have e1 : (res k).length + (((ys xs[k]).filter (p1 xs[k])).map (f xs[k])).length ≤ (res xs.length).length := by
                rw [← List.length_append, ← hres]
                show (((xs.take (k + 1)).filter p).flatMap _).length ≤ (((xs.take xs.length).filter p).flatMap _).length
                rw [List.take_length]
                conv => rhs; rw [← List.take_append_drop (k + 1) xs]
                rw [List.filter_append, List.flatMap_append, List.length_append]
                exact Nat.le_add_right _ _
              have e2 : (res xs.length).length = ((xs.filter p).flatMap fun a => (ys a).filter (p1 a)).length := by
                show (((xs.take xs.length).filter p).flatMap _).length = _
                rw [List.take_length, List.length_flatMap, List.length_flatMap]
                congr 1
                apply List.map_congr_left
                intro a _
                rw [List.length_map]
              have e3 : (((ys xs[k]).take j).filter (p1 xs[k])).length ≤ ((ys xs[k]).filter (p1 xs[k])).length := by
                conv => rhs; rw [← List.take_append_drop j (ys xs[k])]
                rw [List.filter_append, List.length_append]
                exact Nat.le_add_right _ _
              rw [List.length_map] at e1
              omega
            exact Nat.lt_of_lt_of_le (Nat.lt_of_le_of_lt hlen hm) (by decide)
          · exact z6.trans (z7.f.trans (z8.f.trans z9.f))
          · rw [htk1, List.filter_append, List.filter_cons_of_pos (by rw [hp1]), List.filter_nil, List.map_append, ← List.append_assoc]
            exact da_app (da_ex ((z7.f.trans z8.f).trans z9.f) _ _ c3) (.cons d9 .nil)
          · have zz := (((z16.trans z7).trans z8).trans z9)
            refine ⟨zz.f, fun c o hc => ?_, fun c o hc => ?_, zz.n⟩
            · rw [upd_ne (ne_of_none hc nD)]
              exact zz.h c o hc
            · rw [upd_ne (ne_of_none hc (z9.n D _ f2 f1))]
              exact zz.s c o hc
      · have hje : j = (ys xs[k]).length := by omega
        refine .inl ⟨stop1 (by rw [List.length_map]; exact hje), F6, acc6, z16, c1, c2, ?_⟩
        subst hje
        rw [List.take_length] at c3
        rw [hres]
        exact c3
  · have hke : k = xs.length := by omega
    refine .inl ⟨stop (by rw [List.length_map]; exact hke), ?_⟩
    subst hke
    have a4 : DpAll K F2 acc ((xs.filter p).flatMap fun a => ((ys a).filter (p1 a)).map (f a)) := by
      have e : res xs.length = ((xs.filter p).flatMap fun a => ((ys a).filter (p1 a)).map (f a)) := by
        show ((xs.take xs.length).filter p).flatMap _ = _
        rw [List.take_length]
      rw [← e]
      exact a3
    exact q D acc F2 H2 (z1.trans z2) (z1.h.none nD) a1 a2 a4
end
end TB

namespace TB
open PySem L2 PySem.Spec PyProof.Rows
abbrev JTs (X : Cx) (F0 H0 : Hp) (Γ : List S) (ifs : List Expr) (b : Bool) : Prop := PTs X ifs (tT X.K F0 H0 Γ b)
theorem pts_imp {X : Cx} {e : List Expr} {t t' : TT} (h : PTs X e t) (k : ∀ σ H Q, t' σ H Q → t σ H Q) : PTs X e t' := ⟨fun pins s σ H Q I q => h.run pins s σ H Q I (k σ H Q q)⟩
section
variable {X : Cx} {W : WX} {F0 H0 : Hp} {Γ : List S} {elt tg it tg1 it1 c : Expr} {ifs ifs1 : List Expr} {pos : Pos} {scope : Scope} {α β : Type} {xs : List α} {enc : α → D} {f : α → D} {p : α → Bool} {own : List (Str × Nat)}
  {ys : α → List β} {enc1 : β → D} {f2 : α → β → D} {p1 : α → β → Bool} {b : Bool}
theorem jts_nil : JTs X F0 H0 Γ [] true := pts_imp pts_nil fun σ H Q ⟨F, ok, q⟩ => q F H (Fz.refl ok.fh)
theorem jts_one (h : JT X F0 H0 Γ c b) : JTs X F0 H0 Γ [c] b := pts_one h
theorem je_lcA (t : Tgt) (hc : X.calm = true) (hN : X.N.Nodup) (hi : JI X F0 H0 Γ tg it (xs.map enc)) (ok : BlkOk X.N X.env.scope scope own) (hl : xs.length < 100000) (hf : ∀ a ∈ xs, t.fits (enc a))
    (hg : ∀ (s : Shared) (H : Hp) (C : Addr) (cl : List (Str × Addr)) (fp : List Addr), PG (Bk X s H scope C cl fp) tg (t.g X.K))
    (ht : ∀ a, a ∈ xs → ∀ (s : Shared) (H : Hp) (C : Addr) (cl : List (Str × Addr)) (fp : List Addr), JTs (Bk X s H scope C cl fp) F0 H0 (t.put (enc a) (wipeG Γ t.vs)) ifs (p a))
    (he : ∀ a, a ∈ xs → p a = true → ∀ (s : Shared) (H : Hp) (C : Addr) (cl : List (Str × Addr)) (fp : List Addr), JE (Bk X s H scope C cl fp) WF F0 H0 (t.put (enc a) (wipeG Γ t.vs)) elt (.v (f a)))
    (ho : own.map (·.2) = t.vs := by rfl) (hs : ∀ x, foldedSetIterable it X.env x = pure x := by intro _; rfl) :
    JE X W F0 H0 Γ (.ListComp elt [⟨tg, it, ifs, 0⟩] scope pos) (.o ((xs.filter p).map f)) := by
  refine pe_imp (pe_lc (own := own) (g := t.g X.K) (tt := fun σ H Q => ∃ a, a ∈ xs ∧ tT X.K F0 H0 (t.put (enc a) (wipeG Γ t.vs)) (p a) σ H Q) (te := fun σ H Q => ∃ a, a ∈ xs ∧ p a = true ∧ tE X.K WF F0 H0 (t.put (enc a) (wipeG Γ t.vs)) (.v (f a)) σ H Q) hc hN hi ok hg
    (fun s H C cl fp => ⟨fun pins s' σ H' Q I ⟨a, ha, q⟩ => (ht a ha s H C cl fp).run pins s' σ H' Q I q⟩)
    (fun s H C cl fp => ⟨fun pins s' σ H' Q I ⟨a, ha, hp, q⟩ => (he a ha hp s H C cl fp).run pins s' σ H' Q I q⟩) hs) ?_
  rw [ho]
  exact lcA_red hf (fun a ha σ H Q q => ⟨a, ha, q⟩) hl
theorem je_lcA0 (t : Tgt) (hc : X.calm = true) (hN : X.N.Nodup) (hi : JI X F0 H0 Γ tg it (xs.map enc)) (ok : BlkOk X.N X.env.scope scope own) (hl : xs.length < 100000) (hf : ∀ a ∈ xs, t.fits (enc a))
    (hg : ∀ (s : Shared) (H : Hp) (C : Addr) (cl : List (Str × Addr)) (fp : List Addr), PG (Bk X s H scope C cl fp) tg (t.g X.K))
    (he : ∀ a, a ∈ xs → ∀ (s : Shared) (H : Hp) (C : Addr) (cl : List (Str × Addr)) (fp : List Addr), JE (Bk X s H scope C cl fp) WF F0 H0 (t.put (enc a) (wipeG Γ t.vs)) elt (.v (f a)))
    (ho : own.map (·.2) = t.vs := by rfl) (hs : ∀ x, foldedSetIterable it X.env x = pure x := by intro _; rfl) :
    JE X W F0 H0 Γ (.ListComp elt [⟨tg, it, [], 0⟩] scope pos) (.o (xs.map f)) := by
  have h := je_lcA (W := W) (pos := pos) (ifs := []) (p := fun _ => true) t hc hN hi ok hl hf hg (fun a ha s H C cl fp => jts_nil) (fun a ha _ s H C cl fp => he a ha s H C cl fp) ho hs
  rwa [List.filter_eq_self.mpr fun _ _ => rfl] at h
/-- a new list of one's own comes to a slot: what remains -/
theorem set_own {D' : Ends} {σ : L2.St} {H : Hp} {ds : List D} (j : Nat) (h : tS X.K W F0 H0 Γ (.nx (Γ.set j (.own ds))) D' σ H) : tE X.K W F0 H0 Γ (.o ds) σ H (fun x H1 => gName j x σ H1 D'.nx) := by
  obtain ⟨F, ok, q⟩ := h
  refine ⟨F, ok, fun p xs F' H' z n1 n2 n3 d => q _ F' H' z.f (ok.setNew z j n1 n2 n3 d)⟩
theorem js_setLcA (j : Nat) {y : Str} {py2 spos : Pos} (t : Tgt) (hc : X.calm = true) (hN : X.N.Nodup) (hi : JI X F0 H0 Γ tg it (xs.map enc)) (ok : BlkOk X.N X.env.scope scope own) (hl : xs.length < 100000) (hf : ∀ a ∈ xs, t.fits (enc a))
    (hsw : swapsWith (.ListComp elt [⟨tg, it, ifs, 0⟩] scope pos) (some (.Name y py2)) spos.line X.env = pure true)
    (hg : ∀ (s : Shared) (H : Hp) (C : Addr) (cl : List (Str × Addr)) (fp : List Addr), PG (Bk X s H scope C cl fp) tg (t.g X.K))
    (ht : ∀ a, a ∈ xs → ∀ (s : Shared) (H : Hp) (C : Addr) (cl : List (Str × Addr)) (fp : List Addr), JTs (Bk X s H scope C cl fp) F0 H0 (t.put (enc a) (wipeG Γ t.vs)) ifs (p a))
    (he : ∀ a, a ∈ xs → p a = true → ∀ (s : Shared) (H : Hp) (C : Addr) (cl : List (Str × Addr)) (fp : List Addr), JE (Bk X s H scope C cl fp) WF F0 H0 (t.put (enc a) (wipeG Γ t.vs)) elt (.v (f a)))
    (ho : own.map (·.2) = t.vs := by rfl) (hy : X.N[j]? = some y := by rfl) (hyl : X.env.scope.names.lookup y = some .local := by rfl) (hs : ∀ x, foldedSetIterable it X.env x = pure x := by intro _; rfl) :
    JS X W F0 H0 Γ (.Assign [.Name y py2] (.ListComp elt [⟨tg, it, ifs, 0⟩] scope pos) spos) (.nx (Γ.set j (.own ((xs.filter p).map f)))) := by
  refine ps_imp (ps_setLc (own := own) (g := t.g X.K) (tt := fun σ H Q => ∃ a, a ∈ xs ∧ tT X.K F0 H0 (t.put (enc a) (wipeG Γ t.vs)) (p a) σ H Q) (te := fun σ H Q => ∃ a, a ∈ xs ∧ p a = true ∧ tE X.K WF F0 H0 (t.put (enc a) (wipeG Γ t.vs)) (.v (f a)) σ H Q) hc hN hy hyl hsw hi ok hg
    (fun s H C cl fp => ⟨fun pins s' σ H' Q I ⟨a, ha, q⟩ => (ht a ha s H C cl fp).run pins s' σ H' Q I q⟩)
    (fun s H C cl fp => ⟨fun pins s' σ H' Q I ⟨a, ha, hp, q⟩ => (he a ha hp s H C cl fp).run pins s' σ H' Q I q⟩) hs) fun D' σ H h => ?_
  rw [ho]
  exact lcA_red (W := W) hf (fun a ha σ H Q q => ⟨a, ha, q⟩) hl _ _ _ (set_own j h)
theorem js_setLcA0 (j : Nat) {y : Str} {py2 spos : Pos} (t : Tgt) (hc : X.calm = true) (hN : X.N.Nodup) (hi : JI X F0 H0 Γ tg it (xs.map enc)) (ok : BlkOk X.N X.env.scope scope own) (hl : xs.length < 100000) (hf : ∀ a ∈ xs, t.fits (enc a))
    (hsw : swapsWith (.ListComp elt [⟨tg, it, [], 0⟩] scope pos) (some (.Name y py2)) spos.line X.env = pure true)
    (hg : ∀ (s : Shared) (H : Hp) (C : Addr) (cl : List (Str × Addr)) (fp : List Addr), PG (Bk X s H scope C cl fp) tg (t.g X.K))
    (he : ∀ a, a ∈ xs → ∀ (s : Shared) (H : Hp) (C : Addr) (cl : List (Str × Addr)) (fp : List Addr), JE (Bk X s H scope C cl fp) WF F0 H0 (t.put (enc a) (wipeG Γ t.vs)) elt (.v (f a)))
    (ho : own.map (·.2) = t.vs := by rfl) (hy : X.N[j]? = some y := by rfl) (hyl : X.env.scope.names.lookup y = some .local := by rfl) (hs : ∀ x, foldedSetIterable it X.env x = pure x := by intro _; rfl) :
    JS X W F0 H0 Γ (.Assign [.Name y py2] (.ListComp elt [⟨tg, it, [], 0⟩] scope pos) spos) (.nx (Γ.set j (.own (xs.map f)))) := by
  have h := js_setLcA (W := W) (pos := pos) (ifs := []) (p := fun _ => true) j t hc hN hi ok hl hf hsw hg (fun a ha s H C cl fp => jts_nil) (fun a ha _ s H C cl fp => he a ha s H C cl fp) ho hy hyl hs
  rwa [List.filter_eq_self.mpr fun _ _ => rfl] at h
theorem js_setLcB (j : Nat) {y : Str} {py2 spos : Pos} (t t1 : Tgt) (m : Nat) (hc : X.calm = true) (hN : X.N.Nodup) (hi : JI X F0 H0 Γ tg it (xs.map enc)) (ok : BlkOk X.N X.env.scope scope own) (hf : ∀ a ∈ xs, t.fits (enc a)) (hf1 : ∀ a ∈ xs, ∀ b ∈ ys a, t1.fits (enc1 b))
    (hl : ((xs.filter p).flatMap fun a => (ys a).filter (p1 a)).length ≤ m) (hm : m < 100000)
    (hsw : swapsWith (.ListComp elt [⟨tg, it, ifs, 0⟩, ⟨tg1, it1, ifs1, 0⟩] scope pos) (some (.Name y py2)) spos.line X.env = pure true)
    (hg : ∀ (s : Shared) (H : Hp) (C : Addr) (cl : List (Str × Addr)) (fp : List Addr), PG (Bk X s H scope C cl fp) tg (t.g X.K))
    (ht : ∀ a, a ∈ xs → ∀ (s : Shared) (H : Hp) (C : Addr) (cl : List (Str × Addr)) (fp : List Addr), JTs (Bk X s H scope C cl fp) F0 H0 (t.put (enc a) (wipeG Γ (own.map (·.2)))) ifs (p a))
    (hi1 : ∀ a, a ∈ xs → p a = true → ∀ (s : Shared) (H : Hp) (C : Addr) (cl : List (Str × Addr)) (fp : List Addr), JI (Bk X s H scope C cl fp) F0 H0 (t.put (enc a) (wipeG Γ (own.map (·.2)))) tg1 it1 ((ys a).map enc1))
    (hg1 : ∀ (s : Shared) (H : Hp) (C : Addr) (cl : List (Str × Addr)) (fp : List Addr), PG (Bk X s H scope C cl fp) tg1 (t1.g X.K))
    (ht1 : ∀ a, a ∈ xs → p a = true → ∀ b, b ∈ ys a → ∀ (s : Shared) (H : Hp) (C : Addr) (cl : List (Str × Addr)) (fp : List Addr), JTs (Bk X s H scope C cl fp) F0 H0 (t1.put (enc1 b) (wipeG (t.put (enc a) (wipeG Γ (own.map (·.2)))) t1.vs)) ifs1 (p1 a b))
    (he : ∀ a, a ∈ xs → p a = true → ∀ b, b ∈ ys a → p1 a b = true → ∀ (s : Shared) (H : Hp) (C : Addr) (cl : List (Str × Addr)) (fp : List Addr), JE (Bk X s H scope C cl fp) WF F0 H0 (t1.put (enc1 b) (wipeG (t.put (enc a) (wipeG Γ (own.map (·.2)))) t1.vs)) elt (.v (f2 a b)))
    (ho : ∀ i ∈ t.vs, i ∈ own.map (·.2) := by decide) (ho1 : ∀ i ∈ t1.vs, i ∈ own.map (·.2) := by decide) (hy : X.N[j]? = some y := by rfl) (hyl : X.env.scope.names.lookup y = some .local := by rfl) (hs : ∀ x, foldedSetIterable it X.env x = pure x := by intro _; rfl) (hs1 : ∀ env x, foldedSetIterable it1 env x = pure x := by intro _ _; rfl) :
    JS X W F0 H0 Γ (.Assign [.Name y py2] (.ListComp elt [⟨tg, it, ifs, 0⟩, ⟨tg1, it1, ifs1, 0⟩] scope pos) spos) (.nx (Γ.set j (.own ((xs.filter p).flatMap fun a => ((ys a).filter (p1 a)).map (f2 a))))) :=
  ps_imp (ps_setLc2 (own := own) (vs1 := t1.vs) (g := t.g X.K) (g1 := t1.g X.K) (tt := fun σ H Q => ∃ a, a ∈ xs ∧ tT X.K F0 H0 (t.put (enc a) (wipeG Γ (own.map (·.2)))) (p a) σ H Q)
      (wi1 := fun σ H R => ∃ a, a ∈ xs ∧ p a = true ∧ tI X.K F0 H0 (t.put (enc a) (wipeG Γ (own.map (·.2)))) ((ys a).map enc1) σ H R)
      (tt1 := fun σ H Q => ∃ a, a ∈ xs ∧ p a = true ∧ ∃ b, b ∈ ys a ∧ tT X.K F0 H0 (t1.put (enc1 b) (wipeG (t.put (enc a) (wipeG Γ (own.map (·.2)))) t1.vs)) (p1 a b) σ H Q)
      (te := fun σ H Q => ∃ a b, a ∈ xs ∧ p a = true ∧ b ∈ ys a ∧ p1 a b = true ∧ tE X.K WF F0 H0 (t1.put (enc1 b) (wipeG (t.put (enc a) (wipeG Γ (own.map (·.2)))) t1.vs)) (.v (f2 a b)) σ H Q) hc hN hy hyl hsw hi ok ho1 hg
    (fun s H C cl fp => ⟨fun pins s' σ H' Q I ⟨a, ha, q⟩ => (ht a ha s H C cl fp).run pins s' σ H' Q I q⟩)
    (fun s H C cl fp => ⟨fun pins s' σ H' R I ⟨a, ha, hp, q⟩ => (hi1 a ha hp s H C cl fp).run pins s' σ H' R I q⟩) hg1
    (fun s H C cl fp => ⟨fun pins s' σ H' Q I ⟨a, ha, hp, b, hb, q⟩ => (ht1 a ha hp b hb s H C cl fp).run pins s' σ H' Q I q⟩)
    (fun s H C cl fp => ⟨fun pins s' σ H' Q I ⟨a, b, ha, hp, hb, hp1, q⟩ => (he a ha hp b hb hp1 s H C cl fp).run pins s' σ H' Q I q⟩) hs hs1)
  fun D' σ H h => lcB_red (W := W) ho hf hf1 ho1 (fun a ha σ H Q q => ⟨a, ha, q⟩) (fun a ha hp σ H R q => ⟨a, ha, hp, q⟩) (fun a ha hp b hb σ H Q q => ⟨a, ha, hp, b, hb, q⟩) hl hm _ _ _ (set_own j h)
theorem ji_is {ds es : List D} (h : JI X F0 H0 Γ tg it ds) (e : ds = es) : JI X F0 H0 Γ tg it es := e ▸ h
theorem fits_tup {is : List Nat} {ds : List D} (h : ds.length = is.length) : (Tgt.many is).fits (.tuple ds) := ⟨ds, rfl, h⟩
end
end TB

namespace TB
open PySem L2 PySem.Spec PyProof.Rows
/-! ### the greatest associate by its first part -/
def firstL : List Int → List Int → Int
  | [a, b, c, d], [e, f, g, h] => a * e - b * f - c * g - d * h
  | _, _ => 0
theorem zip_maps {α β γ : Type} (f : α → β) (g : α → γ) : ∀ l : List α, (l.map f).zip (l.map g) = l.map fun a => (f a, g a)
  | [] => rfl
  | a :: l => by rw [List.map_cons, List.map_cons, List.zip_cons_cons, zip_maps f g l, List.map_cons]
theorem first_mul {x u : List Int} (hx : isNum x = true) (hu : isNum u = true) : ∃ r, mulL x u = (firstL x u / 2) :: r ∧ firstL x u % 2 = 0 := by
  obtain ⟨a, b, c, d, rfl⟩ := four (num_len hx)
  obtain ⟨e, f, g, h, rfl⟩ := four (num_len hu)
  obtain ⟨p, q, r, s, pr, _, em⟩ := mul_pr ((isNum4 _ _ _ _).mp hx) ((isNum4 _ _ _ _).mp hu)
  refine ⟨_, rfl, ?_⟩
  show (a * e - b * f - c * g - d * h) % 2 = 0
  have h1 : mulL [a, b, c, d] [e, f, g, h] = (a * e - b * f - c * g - d * h) / 2 :: _ := rfl
  have h2 := pr
  unfold Pr at h2
  omega
theorem max_int (xs : List Int) (x : Int) : ∃ m ∈ x :: xs, PySem.W.maxD (.int x) (xs.map .int) = .int m ∧ ∀ y ∈ x :: xs, y ≤ m := by
  have lt : ∀ a b : Int, PySem.W.dataLt (.int a) (.int b) = decide (a < b) := PySem.W.dataLt_int
  obtain ⟨m, h1, h2, h3⟩ := max_spec (enc := PyData.int) (fun a => by rw [lt]; exact decide_eq_false (Int.lt_irrefl a)) (fun a b h => by
      rw [lt] at h ⊢
      have h' : a < b := of_decide_eq_true h
      exact decide_eq_false (by omega)) (fun a b c h g => by
      rw [lt] at h g ⊢
      have h' : ¬ a < b := of_decide_eq_false h
      have g' : ¬ b < c := of_decide_eq_false g
      exact decide_eq_false (by omega)) xs x
  refine ⟨m, h1, h2, fun y hy => ?_⟩
  have h3' := h3 y hy
  rw [lt] at h3'
  have h' : ¬ m < y := of_decide_eq_false h3'
  omega
theorem max_first {x : List Int} (hx : isNum x = true) (h0 : zeroB x = false) {M : Int} (hM : M ∈ unitsL.map (firstL x)) (hm : ∀ y ∈ unitsL.map (firstL x), y ≤ M) :
    ∃ v vs, unitsL.filter (fun u => decide (firstL x u = M)) = v :: vs ∧ PySem.W.maxD (pd (mulL x) v) (vs.map (pd (mulL x))) = pd (mulL x) (leadU x) := by
  obtain ⟨u0, hu0, e0⟩ := List.mem_map.mp hM
  have hin : u0 ∈ unitsL.filter (fun u => decide (firstL x u = M)) := List.mem_filter.mpr ⟨hu0, decide_eq_true e0⟩
  cases hfl : unitsL.filter (fun u => decide (firstL x u = M)) with
  | nil =>
    rw [hfl] at hin
    cases hin
  | cons v vs =>
    obtain ⟨m, h1, h2, h3⟩ := max_pd (mulL x) vs v
    refine ⟨v, vs, rfl, ?_⟩
    rw [h2]
    have hmf : m ∈ unitsL.filter (fun u => decide (firstL x u = M)) := by rw [hfl]; exact h1
    obtain ⟨hmu, hme⟩ := List.mem_filter.mp hmf
    have hme' : firstL x m = M := of_decide_eq_true hme
    have e : m = leadU x := lead_eq hx h0 hmu (canon_eq (List.mem_map_of_mem hmu) fun y hy => by
      obtain ⟨u, hu, rfl⟩ := List.mem_map.mp hy
      by_cases hue : firstL x u = M
      · exact h3 u (by rw [← hfl]; exact List.mem_filter.mpr ⟨hu, decide_eq_true hue⟩)
      · have lt : firstL x u < firstL x m := by
          have := hm _ (List.mem_map_of_mem (f := firstL x) hu)
          omega
        obtain ⟨r1, e1, p1⟩ := first_mul hx (u_num hu)
        obtain ⟨r2, e2, p2⟩ := first_mul hx (u_num hmu)
        rw [e1, e2]
        refine List.not_lt.mp fun q => ?_
        rcases List.cons_lt_cons_iff.mp q with q | ⟨q, _⟩ <;> omega)
    rw [e]
theorem alike_all_int (xs : List Int) : PySem.W.AlikeAll (xs.map PyData.int) := by
  constructor
  · intro x hx y hy
    obtain ⟨a, _, rfl⟩ := List.mem_map.mp hx
    obtain ⟨b, _, rfl⟩ := List.mem_map.mp hy
    show PySem.W.alike (.int a) (.int b) = true
    simp only [PySem.W.alike]
  · intro x hx
    obtain ⟨a, _, rfl⟩ := List.mem_map.mp hx
    exact fun e => by cases e
theorem depth_all_int (xs : List Int) : PyData.depthAll (xs.map PyData.int) ≤ 60 := by
  rw [PySem.W.depth_ints]
  decide
def R_ga : List D → Out → Prop := fun ds o => ∃ d ns, ds = [d] ∧ Seq d ns ∧ isNum ns = true ∧ zeroB ns = false ∧ Sm 300000 ns ∧ o = .v (pd (mulL ns) (leadU ns))
end TB

namespace TB
open PySem L2 PySem.Spec PyProof.Rows
/-! ### k16: sums of two -/
section
variable {X : Cx} {W : WX} {F0 H0 : Hp} {Γ : List S} {e : Expr} {pos p1 p2 p3 : Pos} {kk : Nat} {ds : List D}
theorem da_rev {K : PySem.W.Frag} {F : Hp} : ∀ {xs : List V} {ds : List D}, DpAll K F xs ds → DpAll K F xs.reverse ds.reverse
  | _, [], h => by cases h; exact .nil
  | _, d :: ds, h => by
    cases h with
    | cons h1 h2 =>
      rw [List.reverse_cons, List.reverse_cons]
      exact da_app (da_rev h2) (.cons h1 .nil)
theorem je_revL (h : JE X W F0 H0 Γ e (.v (.list ds))) : JE X W F0 H0 Γ (.Subscript e (.Slice none none (some (.UnaryOp .USub (.Constant (.int 1) kk p1) p2)) p3) pos) (.o ds.reverse) :=
  pe_imp (pe_revL h) fun σ H Q ⟨F, ok, q⟩ => ⟨F, ok, fun v F1 H1 z1 d1 => by
    cases d1 with
    | lst h1 h2 => exact ⟨_, _, rfl, sl_ex z1.s h1, po_lst z1.s (da_rev h2) (po_mono z1 (show Po X.K F H Q E0 (.o ds.reverse) from q))⟩⟩
end
end TB
namespace TB
open PySem L2 PySem.Spec PyProof.Rows
section
variable {X : Cx} {W : WX} {F0 H0 : Hp} {Γ : List S} {a b : Expr} {x : D} {pos : Pos}
def isNone : D → Bool
  | .none => true
  | _ => false
end
end TB

namespace TB
open PySem L2 PySem.Spec PyProof.Rows
/-! ### repr of data: defs that run where no repr is under way -/
section
variable {P : Program} {w : World} {K : PySem.W.Frag} {mg : Str → Option Value} {base : Heap}
/-- a promise kept wherever no repr is under way -/
structure FnG (P : Program) (w : World) (K : PySem.W.Frag) (mg : Str → Option Value) (base : Heap) (k : Nat) (f : Addr) (fd : FuncData) (ps : List Str) (sp : Sp) : Prop where
  len : ∀ vs H Q E, sp vs H Q E → vs.length = ps.length
  run : ∀ (A : Around) (outer : List Env) (s : Shared) (H : Hp) (args : Args) (us : List Value) (vs : List V) (Q : VK) (E : XK),
    A.guards = some [] → Room k A → Env0 P w K mg base A outer s H → BindsTo s fd args (ps.zip us) → Vals vs us → sp vs H Q E →
    codeAny (model P w) A (.call (.ref f) args) (CR (L2.CX P w) outer P w H s Q E) s
/-- a def of the text by its body, run there -/
theorem fnG_of {x qual : Str} {st : Stmt} {f : Addr} {fd : FuncData} {N ps : List Str} {k : Nat} {sp : Sp} (Fn : Fun K x qual st f fd) (Sc : FnScope N ps (defScope st)) (len : ∀ vs H Q E, sp vs H Q E → vs.length = ps.length)
    (body : ∀ (cdv : Value) (A : Around) (outer : List Env) (s : Shared) (H : Hp) (vs : List V) (Q : VK) (E : XK), A.guards = some [] →
      Room k (A.deeper (PyProof.Rows.envOfC qual (defScope st) s.heap.objs.size f cdv)) → sp vs H Q E →
      ∃ t, PSs (XO P w K mg base N qual st f cdv A outer s H E) (defBody st) t ∧ t { nx := fun _ H' => Q .non H', rt := Q } (L2.start N vs) H) :
    FnG P w K mg base (k + 1) f fd ps sp := by
  obtain ⟨_, _, _, _, _, _, cdv, _, _, rfl, look, code⟩ := Fn.ex
  refine ⟨len, ?_⟩
  intro A outer s H args us vs Q E gd room env bind vals want
  have lenv : vs.length = ps.length := len _ _ _ _ want
  have inK : K.In s.heap := env.mod.kin.keeps (fun b o e => (env.bs b o e).1)
  have noL : s.heap.NoLimit := env.mod.nolimit.keeps (fun b o e => (env.bs b o e).1)
  have kinds : ∀ y ∈ ps.zip us, (defScope st).names.lookup y.1 = some .local ∨
      ((defScope st).names.lookup y.1 = some .cell ∧ ((cellsFrom (s.heap.objs.size + 1) (defScope st).names []).lookup y.1).isSome = true) := by
    rintro ⟨n, v⟩ hy
    cases Sc.par n (List.of_mem_zip hy).1 with
    | inl q => exact .inl q
    | inr q => exact .inr ⟨q, PySem.W.cellsFrom_some _ _ _ (.inl q)⟩
  apply codeAny_call_function room.depth (inK _ _ look) rfl Sc.co Sc.gen rfl (PySem.W.codeRec_of inK code) (bind _ _ _ _ ?_)
  apply wpAny_newFunctionEnv_cells Sc.kind kinds
  intro en hen s1 started
  subst hen
  refine ⟨noL.keeps started.toInCall.keep, codeAny_func ?_⟩
  obtain ⟨t, run, need⟩ := body cdv A outer s H vs Q E gd (room.deeper _) want
  have I0 := inv_start (CX := L2.CX P w) (cd := cdv) (f := f) (qual := qual) (E := E) Sc room.hd env lenv vals started
  refine wpAny_mono (run.run [] s1 (L2.start N vs) H _ I0 need) (fun flow s' got => ?_) (fun _ _ got => got)
  cases flow with
  | ret u =>
    obtain ⟨v, _, H', J, rv, q⟩ := got
    exact ⟨v, H', J.os, J.bare, J.base, J.hok, rv, q⟩
  | next =>
    obtain ⟨_, H', J, q⟩ := got
    exact ⟨.non, H', J.os, J.bare, J.base, J.hok, rfl, q⟩
  | brk => exact (got.elim fun _ h => h.elim fun _ h => h.2.elim)
  | cont => exact (got.elim fun _ h => h.elim fun _ h => h.2.elim)
theorem fn_okG {x qual : Str} {st : Stmt} {f : Addr} {fd : FuncData} {N ps : List Str} {k : Nat} {R : List D → Out → Prop} (Fn : Fun K x qual st f fd) (Sc : FnScope N ps (defScope st)) (hlen : ∀ ds o, R ds o → ds.length = ps.length)
    (hb : ∀ (cdv : Value) (A : Around) (outer : List Env) (s : Shared) (H : Hp) (E : XK) (F : Hp) (ds : List D) (o : Out), A.guards = some [] → Room k (A.deeper (PyProof.Rows.envOfC qual (defScope st) s.heap.objs.size f cdv)) →
      L2.Takes (XO P w K mg base N qual st f cdv A outer s H E) (fun cls d _ H => E cls d H) → PassesOwn (model P w) (XO P w K mg base N qual st f cdv A outer s H E).A (XO P w K mg base N qual st f cdv A outer s H E).env (XO P w K mg base N qual st f cdv A outer s H E).xe → R ds o →
      ∃ so, JSs (XO P w K mg base N qual st f cdv A outer s H E) (fun cls d _ H => E cls d H) F H (begin_ N ds) (defBody st) so ∧ Fits o so) : FnG P w K mg base (k + 1) f fd ps (spD K R) := by
  refine fnG_of Fn Sc (fun vs H Q E ⟨F, ds, o, _, d, r, _⟩ => (da_len d).trans (hlen ds o r)) fun cdv A outer s H vs Q E hgd hr ⟨F, ds, o, s1, d, r, po⟩ => ?_
  obtain ⟨so, j, ft⟩ := hb cdv A outer s H E F ds o hgd hr (takes_of rfl rfl rfl rfl) (passes_of (E₁ := fun e' s'' => L2.CX P w outer H s E e' s'') rfl) r
  refine ⟨_, j, F, ok_start s1 d, ?_⟩
  exact fits_po po ft
end
/-! ### repr -/
/-- data that are written out -/
structure Shown (d : D) : Prop where
  s : d.showable = true
  n : d.hasDict = false
  l : d.shown.length ≤ sizeLine
  dp : d.depth ≤ 60
  t : ∀ x, d ≠ .str x
def rReprD (K : PySem.W.Frag) : List V → Hp → VK → Prop := fun vs H Q => ∃ v d, vs = [v] ∧ Dp K H v d ∧ Shown d ∧ Q (.str d.shown) H
theorem cr_repr {X : Cx} (hg : X.A.guards = some []) (hu : X.A.units + 64 < cLine) : CallR X (.builtin "repr") (rReprD X.K) := by
  rintro pins s σ H _ us Q I r ⟨v, d, rfl, dp, sh, q⟩
  have depth := sh.dp
  cases r with
  | cons rv r2 =>
    cases r2
    obtain ⟨as, rd⟩ := Dp.reads I _ _ _ dp rv
    cases dp with
    | non =>
      cases rv
      exact PySem.P.repr_of_none ⟨.str _, H, I.tok _, ⟨_, rfl⟩, q⟩
    | bl b =>
      cases rv
      refine PySem.P.repr_of_bool ⟨.str (PyData.shown (.bool b)), H, I.tok _, ⟨_, rfl⟩, ?_⟩
      cases b <;> exact q
    | int i =>
      obtain ⟨t, rfl⟩ := rv
      refine PySem.P.repr_of_int (of_decide_eq_true sh.s) ⟨.str _, H, I.tok _, ⟨_, rfl⟩, ?_⟩
      exact q
    | str x => exact absurd rfl (sh.t x)
    | lst h1 h2 =>
      cases rv
      exact repr_of_reads' rd sh.s (PyData.noDict_hsm sh.n) hg (by omega) (fun _ _ e => e) (fun h' u tk hk => ⟨.str _, H, I.kept hk, ⟨_, rfl⟩, q⟩) sh.l
    | tup h1 h2 =>
      cases rv
      exact repr_of_reads' rd sh.s (PyData.noDict_hsm sh.n) hg (by omega) (fun _ _ e => e) (fun h' u tk hk => ⟨.str _, H, I.kept hk, ⟨_, rfl⟩, q⟩) sh.l
section
variable {X : Cx} {W : WX} {F0 H0 : Hp} {Γ : List S} {e : Expr} {pos np : Pos} {x : D}
theorem je_repr (hgd : X.A.guards = some []) (hu : X.A.units + 64 < cLine) (hm : X.mg "repr" = none) (sh : Shown x) (h : JE X W F0 H0 Γ e (.v x)) (hg : Gl X "repr" := by rfl) (s1 : starEach [e] X.env = (false, eval e X.env) :: starEach [] X.env := by rfl) : JE X W F0 H0 Γ (.Call (.Name "repr" np) [e] [] pos) (.v (.str x.shown)) :=
  pe_imp (pe_callB (cr_repr hgd hu) hg hm (by decide +kernel) (ja_cons h ja_nil s1) (by decide) (by decide) s1 rfl) fun σ H Q ⟨F, ok, q⟩ => ⟨F, ok, fun vs F1 H1 z1 d1 => by
    cases d1 with
    | cons a1 a2 =>
      cases a2
      exact ⟨_, x, rfl, dp_ex z1.s _ _ a1, sh, q _ F1 H1 z1 (.str _)⟩⟩
end
section
variable {X : Cx} {W : WX} {F0 H0 : Hp} {Γ : List S} {a b : Expr} {pos : Pos} {t u : Str}
theorem dec_strV (t u : Str) : decide (V.str t = V.str u) = decide (t = u) := by
  by_cases h : t = u
  · rw [decide_eq_true h, decide_eq_true (by rw [h])]
  · rw [decide_eq_false h, decide_eq_false (fun e => h (V.str.inj e))]
theorem rd_neS {K : PySem.W.Frag} : RD K rNe (.str t) (.str u) (.bool (!decide (t = u))) := fun v w F H Q s d1 d2 q => by
  cases d1; cases d2
  refine ⟨rfl, ?_⟩
  rw [dec_strV]
  exact q _ F H (Fz.refl s) (.bl _)
theorem jt_neS (ha : JE X WF F0 H0 Γ a (.v (.str t))) (hb : JE X WF F0 H0 Γ b (.v (.str u))) : JT X F0 H0 Γ (.Compare a [.NotEq] [b] pos) (!decide (t = u)) := jt_cmp op_ne rd_neS ha hb (nomark _)
end
/-! ### the law's own call, where nothing runs around it -/
theorem call_law {P : Program} {w : World} {K : PySem.W.Frag} {mg mb : Str → Option Value} {k : Nat} {fa a : Addr} {fd : FuncData} {x : Str} {sp : Sp} {st0 : Shared} {vs : List Value} {ns : List Int}
    (inK : K.In st0.heap) (nsM : st0.heap.Ns mainGlobals mg) (nsB : st0.heap.Ns builtinsNs mb) (boot : ∀ y : Str, y ≠ "__name__" → mb y = bootBuiltins y) (noL : st0.heap.NoLimit) (noG : st0.gens = #[])
    (atA : st0.heap.get? a = some { cls := .type "list", data := .seq vs.toArray }) (hints : IntsAre vs ns) (short : ns.length ≤ sizeLine) (room : Room k callerA)
    (F : ∀ base : Heap, K.In base → base.Ns mainGlobals mg → FnG P w K mg base k fa fd [x] sp) (bind : ∀ (s : Shared) (u : Value), BindsTo s fd ⟨[u], []⟩ [(x, u)])
    (want : ∀ H : Hp, Only H → SqL K H a (ns.map V.int) → sp [.ref a] H (fun v _ => v = .bl true) fun _ _ _ => False)
    (none_out : ∀ H e s', L2.CX P w [] H st0 (fun _ _ _ => False) e s' → False) :
    codeAny (model P w) callerA (.call (.ref fa) ⟨[.ref a], []⟩) (fun r s' => r = .ok (.ret (.bool true)) ∧ OldK st0.heap s'.heap ∧ s'.os = st0.os ∧ AllBare s'.gens) st0 := by
  have vals := vals_ints hints
  have many := hints.length
  suffices main : ∀ H : Hp, Only H → SqL K H a (ns.map V.int) → HOk P w H st0.heap → (∀ b, H b ≠ none → b = a) → (H a ≠ none → K.lookup a = none) →
      codeAny (model P w) callerA (.call (.ref fa) ⟨[.ref a], []⟩) (fun r s' => r = .ok (.ret (.bool true)) ∧ OldK st0.heap s'.heap ∧ s'.os = st0.os ∧ AllBare s'.gens) st0 by
    by_cases own : K.lookup a = none
    · let obj : Obj := { cls := .type "list", data := .seq vs.toArray }
      let H : Hp := fun b => if b = a then some (.frz obj (.lst (ns.map V.int))) else none
      have Ha : H a = some (.frz obj (.lst (ns.map V.int))) := if_pos rfl
      have Hb : ∀ {b : Addr}, b ≠ a → H b = none := fun n => if_neg n
      have back : ∀ {b : Addr} {u : HO}, H b = some u → b = a ∧ u = .frz obj (.lst (ns.map V.int)) := fun {b u} z => by
        by_cases e : b = a
        · subst e
          rw [Ha] at z
          exact ⟨rfl, (Option.some.inj z).symm⟩
        · rw [Hb e] at z
          cases z
      refine main H (fun b => ?_) (.inl (.inr ⟨obj, Ha⟩)) (fun b u z => ?_) (fun b z => ?_) (fun _ => own)
      · cases q : H b with
        | none => exact .inl rfl
        | some u => exact .inr ⟨_, _, by rw [(back q).2]⟩
      · obtain ⟨rfl, rfl⟩ := back z
        exact ⟨atA, by rw [List.length_map]; exact short, vs, _, vals, atA⟩
      · cases q : H b with
        | none => exact absurd q z
        | some u => exact (back q).1
    · obtain ⟨o, look⟩ := Option.ne_none_iff_exists'.mp own
      have same := inK a o look
      rw [atA] at same
      cases same
      refine main (fun _ => none) (fun _ => .inl rfl) ?_ (fun _ _ z => by cases z) (fun _ z => absurd rfl z) (fun z => absurd rfl z)
      exact .inr ⟨_, vs.toArray, _, look, rfl, rfl, rfl, by rw [List.size_toArray, many]; exact short, by simpa using vals⟩
  intro H only seq good sole apart
  have free : ∀ {b : Addr}, b ≠ a → H b = none := fun {b} n => by
    cases q : H b with
    | none => rfl
    | some u => exact absurd (sole b (by rw [q]; simp)) n
  have seen : ∀ {b : Addr} {o : Obj}, st0.heap.get? b = some o → H b = none → (hidT st0.heap H).get? b = some o := fun e n => hidT_get e n
  have freeD : ∀ {b : Addr} {o : Obj} {es : Array DictEntry} {ep : Nat}, st0.heap.get? b = some o → o.data = .dict es ep → H b = none := fun {b o es ep} e d => by
    by_cases n : b = a
    · subst n
      rw [atA] at e
      cases e
      cases d
    · exact free n
  have nsT : ∀ {b : Addr} {m : Str → Option Value}, st0.heap.Ns b m → (hidT st0.heap H).Ns b m := by
    rintro b m ⟨o, es, ep, e, d, r⟩
    exact ⟨o, es, ep, seen e (freeD e d), d, r⟩
  have inT : K.In (hidT st0.heap H) := by
    intro b o e
    refine seen (inK b o e) ?_
    by_cases n : b = a
    · subst n
      cases q : H b with
      | none => rfl
      | some u =>
        rw [apart (by rw [q]; simp)] at e
        cases e
    · exact free n
  obtain ⟨mc, c1, c2⟩ := noL
  have modT : Mod K mg (hidT st0.heap H) := ⟨inT, nsT nsM, ⟨mb, nsT nsB, boot⟩, mc, nsT c1, c2⟩
  have env : Env0 P w K mg (hidT st0.heap H) callerA [] st0 H := {
    frames := rfl
    mod := modT
    bs := fun b o e => of_hidT e
    bsz := Nat.le_of_eq (hidT_size _ _)
    funs := trivial
    frf := fun b hb => absurd (show b ∈ ([] : List Addr) from hb) List.not_mem_nil
    hok := good
    bare := .of_eq noG }
  have go := (F _ inT (nsT nsM)).run callerA [] st0 H ⟨[.ref a], []⟩ [.ref a] [.ref a] _ _ rfl room env (bind st0 (.ref a)) (.cons rfl .nil) (want H only seq)
  refine codeAny_mono go ?_
  intro r s' got
  match r, got with
  | .error e, got => exact (none_out H e s' got).elim
  | .ok (.ret u), got =>
    obtain ⟨v, H', os, bare, un, good', rv, q⟩ := got
    have q' : v = .bl true := q
    subst q'
    have eu : u = Value.bool true := rv
    subst eu
    refine ⟨rfl, OldK.of_keep ?_, os, bare⟩
    intro b o e
    cases q : H b with
    | none => exact un.keep b o e q (fun z => absurd (show b ∈ ([] : List Addr) from z) List.not_mem_nil) (by simp)
    | some u =>
      cases only b with
      | inl z => exact absurd (q.symm.trans z) (by simp)
      | inr z =>
        obtain ⟨ob, xs, z⟩ := z
        have e1 := (good b _ z).1
        have e2 := (good' b _ (un.frzs b ob _ z)).1
        rw [e] at e1
        cases e1
        exact e2
  | .ok .next, got => exact got.elim
  | .ok .brk, got => exact got.elim
  | .ok .cont, got => exact got.elim
theorem law_walkG {l : PySem.W.OpenLaw} {q : Program} {loose : List Str} {XP : (Str → Option Value) → Heap → Prop} {YP : World → Heap → Prop} {d : DefRec} {K : Params → PySem.W.Frag} {k : Nat} (hn : l.most = some 63) (hdf : d.params.defaults = []) (hr : Room k callerA)
    (hY : ∀ (w : World) (h : Heap), YP w h → (K w.params).In h)
    (F : ∀ (w : World) (mg : Str → Option Value) (fa : Addr) (h : Heap), (K w.params).In h → h.Ns mainGlobals mg → mg d.name = some (.ref fa) →
      ∃ fd : FuncData, (∀ (s : Shared) (u : Value), BindsTo s fd ⟨[u], []⟩ [("script", u)]) ∧ ∀ base : Heap, (K w.params).In base → base.Ns mainGlobals mg → FnG l.prog w (K w.params) mg base k fa fd ["script"] (spD (K w.params) R_law)) :
    PySem.W.WalkO q loose XP YP l.row.toRowW d [] (fun f vs => PySem.call f vs) := by
  apply Att.attach_call hn hdf
  intro w s₀ s₁ mg mb fa o pm cd doc a vs ns G Y ho hd hcd hmg hobj hints hlen hg
  have KX := hY w _ Y
  obtain ⟨fd, hb, hF⟩ := F w mg fa _ KX G.T.g hmg
  refine call_law KX G.T.g G.T.b G.T.builtins G.T.nolimit hg hobj hints (Nat.le_trans hlen (by decide)) hr hF hb (fun H _ hS => ?_) ?_
  · exact ⟨H, [li ns], _, Ex.refl _, .cons (.lst hS (da_of_ints ns)) .nil, ⟨ns, rfl, hlen, rfl⟩, fun v F' H' _ dp => by cases dp; rfl⟩
  · intro H e s' z
    obtain ⟨_, _, _, _, _, _, _, _, _, _, _, _, z⟩ := z
    exact z.elim
end TB

namespace TB
open PySem L2 PySem.Spec PyProof.Rows
/-! ### how long the texts of numbers are -/
theorem log_lt {b : Nat} {z : Int} (hb : 0 < b) (h : Bt b z) : z.natAbs.log2 < b := by
  by_cases e : z.natAbs = 0
  · rw [e]
    exact hb
  · exact (Nat.log2_lt e).mpr h
theorem int_len {b : Nat} {z : Int} (hb : 0 < b) (h : Bt b z) : (PyData.shown (.int z)).length ≤ b + 1 := by
  have e := int_text_length_le hb (log_lt hb h)
  show (Str.ofString (toString z)).length ≤ b + 1
  rw [PySem.ofString_length]
  exact e
theorem int_wt {b : Nat} {z : Int} (hb : 0 < b) (h : Bt b z) : (PyData.int z).weight ≤ b := by
  have e := log_lt hb h
  show (if z == 0 then 0 else z.natAbs.log2 + 1) ≤ b
  split <;> omega
/-- all that repr wants of a list of data, with its parts: B the length of an integer, m the weight -/
structure Leaf (b : Nat) (d : D) (m : Nat) : Prop where
  s : d.showable = true
  n : d.hasDict = false
  l : d.leavesShort (b + 1) = true
  w : d.weight ≤ m
  dp : d.depth ≤ 9
structure Leaves (b : Nat) (ds : List D) (m : Nat) : Prop where
  s : PyData.showableAll ds = true
  n : PyData.hasDictAll ds = false
  l : PyData.leavesShortAll (b + 1) ds = true
  w : PyData.weightAll ds ≤ m
  dp : PyData.depthAll ds ≤ 8
theorem leaf_int {b : Nat} {z : Int} (hb : 0 < b) (hb2 : b ≤ 1920) (h : Bt b z) : Leaf b (.int z) b := by
  refine ⟨?_, rfl, ?_, int_wt hb h, by show 0 ≤ 9; decide⟩
  · show decide (z.natAbs.log2 < 1920) = true
    have := log_lt hb h
    exact decide_eq_true (by omega)
  · show decide (_ ≤ b + 1) = true
    exact decide_eq_true (int_len hb h)
theorem leaves_cons {b m n k : Nat} {d : D} {ds : List D} (h : Leaf b d m) (hd : d.depth ≤ 8) (g : Leaves b ds n) (hk : m + 1 + n ≤ k := by omega) : Leaves b (d :: ds) k := by
  refine ⟨?_, ?_, ?_, ?_, ?_⟩
  · rw [PyData.showableAll, h.s, g.s]; rfl
  · rw [PyData.hasDictAll, h.n, g.n]; rfl
  · rw [PyData.leavesShortAll, h.l, g.l]; rfl
  · rw [PyData.weightAll]
    have := h.w
    have := g.w
    omega
  · rw [PyData.depthAll]
    have := g.dp
    omega
theorem leaf_tup {b m : Nat} {ds : List D} (g : Leaves b ds m) : Leaf b (.tuple ds) m := by
  refine ⟨?_, ?_, ?_, ?_, ?_⟩
  · rw [PyData.showable]; exact g.s
  · rw [PyData.hasDict]; exact g.n
  · rw [PyData.leavesShort]; exact g.l
  · rw [PyData.weight]; exact g.w
  · rw [PyData.depth]
    have := g.dp
    omega
theorem leaves_ints {b : Nat} (hb : 0 < b) (hb2 : b ≤ 1920) : ∀ {ns : List Int}, (∀ z ∈ ns, Bt b z) → Leaves b (ns.map .int) (ns.length * (b + 1)) ∧ PyData.depthAll (ns.map PyData.int) ≤ 0
  | [], _ => ⟨⟨rfl, rfl, rfl, Nat.zero_le _, by decide⟩, Nat.le_refl _⟩
  | z :: ns, h => by
    obtain ⟨g, g2⟩ := leaves_ints hb hb2 (ns := ns) fun y hy => h y (List.mem_cons_of_mem _ hy)
    refine ⟨leaves_cons (leaf_int hb hb2 (h z List.mem_cons_self)) (Nat.zero_le _) g (by rw [List.length_cons, Nat.succ_mul]; omega), ?_⟩
    show max 0 (PyData.depthAll (ns.map PyData.int)) ≤ 0
    omega
theorem leaf_ti {b : Nat} (hb : 0 < b) (hb2 : b ≤ 1920) {ns : List Int} (h : ∀ z ∈ ns, Bt b z) : Leaf b (ti ns) (ns.length * (b + 1)) ∧ (ti ns).depth ≤ 1 := by
  obtain ⟨g, g2⟩ := leaves_ints hb hb2 h
  refine ⟨leaf_tup g, ?_⟩
  show PyData.depth (.tuple _) ≤ 1
  rw [PyData.depth]
  omega
theorem shown_of {b m : Nat} {d : D} (h : Leaf b d m) (ht : ∀ x, d ≠ .str x) (hb : 7 ≤ b) (hm : (b + 3) * m + (b + 1) ≤ 16777216) : Shown d := by
  refine ⟨h.s, h.n, ?_, Nat.le_trans h.dp (by decide), ht⟩
  have e := PyData.shown_le (b + 1) (by omega) d h.l
  have e2 : (b + 1 + 2) * d.weight ≤ (b + 3) * m := Nat.mul_le_mul (by omega) h.w
  show _ ≤ 2 ^ 24
  omega
theorem shown_int {b : Nat} {z : Int} (h : Bt b z) (hb : 7 ≤ b) (hb2 : b ≤ 1900) : Shown (.int z) := by
  refine shown_of (leaf_int (by omega) (by omega) h) (fun _ e => by cases e) hb ?_
  have : (b + 3) * b ≤ 1903 * 1900 := Nat.mul_le_mul (by omega) hb2
  omega
/-! ### k12: exact quotients -/
end TB

namespace TB
open PySem L2 PySem.Spec PyProof.Rows
/-! ### k14: the right side -/
end TB

namespace TB
open PySem L2 PySem.Spec PyProof.Rows
/-! ### rows that are tuples or lists -/
/-- a tuple, a list of these -/
def SqD (d : D) (ds : List D) : Prop := d = .tuple ds ∨ d = .list ds
theorem sq_of {d : D} {ns : List Int} (h : Seq d ns) : SqD d (ns.map .int) := h
section
variable {X : Cx} {W : WX} {F0 H0 : Hp} {Γ Γ1 : List S} {a b e it tg : Expr} {d d2 x : D} {ds es : List D} {pos np tp : Pos} {i : Int}
theorem ji_zipS {elts : List Expr} {kk : Nat} (s1 : SqD d ds) (s2 : SqD d2 es) (hm : X.mg "zip" = none) (ha : JE X WF F0 H0 Γ a (.v d)) (hb : JE X WF F0 H0 Γ b (.v d2)) (hg : Gl X "zip" := by rfl)
    (hs : starEach [a, b] X.env = (false, eval a X.env) :: starEach [b] X.env := by rfl) (hs2 : starEach [b] X.env = (false, eval b X.env) :: starEach [] X.env := by rfl) (hpl : (backTo pos (starEach [b] X.env)).any (·.1) = false := by rfl) :
    JI X F0 H0 Γ (.Tuple elts kk tp) (.Call (.Name "zip" np) [a, b] [] pos) ((ds.zip es).map prD) := by
  rcases s1 with rfl | rfl <;> rcases s2 with rfl | rfl
  · exact ji_zipT hm ha hb hg hs hs2 hpl
  · exact ji_zipTL hm ha hb hg hs hs2 hpl
  · exact ji_zipLT hm ha hb hg hs hs2 hpl
  · exact ji_zipL hm ha hb hg hs hs2 hpl
/-! ### isinstance over data -/
def tyN : D → String
  | .none => "NoneType"
  | .bool _ => "bool"
  | .int _ => "int"
  | .str _ => "str"
  | .list _ => "list"
  | .tuple _ => "tuple"
  | .dict _ => "dict"
theorem kit_dp {K : PySem.W.Frag} {v : V} {u : Value} {pins : List (Addr × Obj)} {σ : L2.St} {H : Hp} {s : Shared} (I : Inv X pins σ H s) (dp : Dp X.K H v d) (rv : RelV v u) : ∃ P : Heap → Prop, PySem.W.KitX X.K u (.type (tyN d)) P ∧ P s.heap ∧ u ≠ .builtin "__main__.__loader__#opaque" := by
  cases dp with
  | non => cases (show u = Value.none from rv); exact ⟨_, PySem.W.kitx_none, True.intro, fun z => nomatch z⟩
  | bl y => cases (show u = Value.bool y from rv); exact ⟨_, PySem.W.kitx_bool, True.intro, fun z => nomatch z⟩
  | int i => obtain ⟨t, q⟩ := (show ∃ t, u = Value.int i t from rv); cases q; exact ⟨_, PySem.W.kitx_int, True.intro, fun z => nomatch z⟩
  | str y => obtain ⟨t, q⟩ := (show ∃ t, u = Value.str y t from rv); cases q; exact ⟨_, PySem.W.kitx_str, True.intro, fun z => nomatch z⟩
  | lst h1 h2 =>
    cases rv
    obtain ⟨its, _, ⟨o, n, g1, g2, _⟩, _⟩ := I.list h1
    exact ⟨_, PySem.W.kitx_list, ⟨o, g1, g2⟩, fun z => nomatch z⟩
  | tup h1 h2 =>
    cases rv
    obtain ⟨its, _, ⟨o, g1, g2, _⟩, _⟩ := I.tuple h1
    exact ⟨_, PySem.W.kitx_tuple, ⟨o, g1, g2⟩, fun z => nomatch z⟩
def rIsD (K : PySem.W.Frag) : List V → Hp → VK → Prop := fun xs H Q => ∃ (v : V) (d : D) (T : String) (r : Bool), xs = [v, .ty T] ∧ Dp K H v d ∧ kitB (tyN d) T = some r ∧ Q (.bl r) H
theorem call_isD : CallR X (.builtin "isinstance") (rIsD X.K) := by
  rintro pins s σ H _ us Q I r ⟨v, d, T, b, rfl, dp, hk, q⟩
  obtain ⟨u1, u2, rfl, r1, r2⟩ := Vals.two r
  have e2 : u2 = Value.type T := r2
  subst e2
  obtain ⟨P, Z, p, hx⟩ := kit_dp (K := X.K) I dp r1
  exact PySem.W.kia_one Z I.kIn p (kit_ty hk) hx fun tk => ⟨.bl b, H, I.tok tk, rfl, q⟩
theorem je_isD {T : String} {n : Str} {r : Bool} {np2 : Pos} (hk : kitB (tyN d) T = some r) (hm : X.mg "isinstance" = none) (hm2 : X.mg n = none) (hv : bootBuiltins n = some (.type T)) (ha : JE X W F0 H0 Γ a (.v d)) (hg : Gl X "isinstance" := by rfl) (hg2 : Gl X n := by rfl)
    (hn : n ≠ "__name__" := by decide) (hdb : (n == ("__debug__" : Str)) = false := by decide)
    (s2 : starEach [a, .Name n np2] X.env = (false, eval a X.env) :: starEach [.Name n np2] X.env := by rfl) (s1 : starEach [.Name n np2] X.env = (false, eval (.Name n np2) X.env) :: starEach [] X.env := by rfl) (hpl : (backTo pos (starEach [.Name n np2] X.env)).any (·.1) = false := by rfl) :
    JE X W F0 H0 Γ (.Call (.Name "isinstance" np) [a, .Name n np2] [] pos) (.v (.bool r)) :=
  pe_imp (pe_callB call_isD hg hm (by decide +kernel) (pa_cons ha (pa_cons (pe_bltn (v := .ty T) hg2 hm2 hv rfl hn hdb) pa_nil s1) s2) (by decide) (by decide) s2 hpl) fun σ H Q ⟨F, ok, q⟩ => ⟨F, ok, fun v F1 H1 z1 d1 =>
    ⟨v, d, T, r, rfl, dp_ex z1.s _ _ d1, hk, q _ F1 H1 z1 (.bl r)⟩⟩
/-! ### all, any of truth values -/
theorem da_bools {K : PySem.W.Frag} {F : Hp} : ∀ {bs : List Bool} {vs : List V}, DpAll K F vs (bs.map PyData.bool) → vs = bs.map V.bl
  | [], _, h => by cases h; rfl
  | n :: ns, _, h => by
    cases h with
    | cons h1 h2 =>
      cases h1
      rw [da_bools h2]
      rfl
theorem je_allB {bs : List Bool} (hc : X.calm = true) (hm : X.mg "all" = none) (h : JE X W F0 H0 Γ e (.v (.list (bs.map .bool)))) (hg : Gl X "all" := by rfl) (s1 : starEach [e] X.env = (false, eval e X.env) :: starEach [] X.env := by rfl) : JE X W F0 H0 Γ (.Call (.Name "all" np) [e] [] pos) (.v (.bool (bs.all id))) :=
  pe_imp (pe_callB (cr_all hc) hg hm (by decide +kernel) (ja_cons h ja_nil s1) (by decide) (by decide) s1 rfl) fun σ H Q ⟨F, ok, q⟩ => ⟨F, ok, fun vs F1 H1 z1 d1 => by
    cases d1 with
    | cons a1 a2 =>
      cases a2
      cases a1 with
      | lst h1 h2 => exact ⟨_, bs, rfl, by rw [← da_bools h2]; exact sl_ex z1.s h1, q _ F1 H1 z1 (.bl _)⟩⟩
theorem je_anyB {bs : List Bool} (hc : X.calm = true) (hm : X.mg "any" = none) (h : JE X W F0 H0 Γ e (.v (.list (bs.map .bool)))) (hg : Gl X "any" := by rfl) (s1 : starEach [e] X.env = (false, eval e X.env) :: starEach [] X.env := by rfl) : JE X W F0 H0 Γ (.Call (.Name "any" np) [e] [] pos) (.v (.bool (bs.any id))) :=
  pe_imp (pe_callB (cr_any hc) hg hm (by decide +kernel) (ja_cons h ja_nil s1) (by decide) (by decide) s1 rfl) fun σ H Q ⟨F, ok, q⟩ => ⟨F, ok, fun vs F1 H1 z1 d1 => by
    cases d1 with
    | cons a1 a2 =>
      cases a2
      cases a1 with
      | lst h1 h2 => exact ⟨_, bs, rfl, by rw [← da_bools h2]; exact sl_ex z1.s h1, q _ F1 H1 z1 (.bl _)⟩⟩
end
end TB

namespace TB
open PySem L2 PySem.Spec PyProof.Rows
/-! ### turns: the mathematics -/
def gStep (g : Int) (r : List Int) : Int := ((gcd4 g (r.getD 0 0) (r.getD 1 0) (r.getD 2 0) : Nat) : Int)
def gT (s : Int) (rs : List (List Int)) : Int := rs.foldl gStep s
theorem three {ns : List Int} (h : ns.length = 3) : ∃ a b c, ns = [a, b, c] := by
  match ns, h with
  | [a, b, c], _ => exact ⟨a, b, c, rfl⟩
def sqS (x : List Int) : Int := (x.map fun p => p * p).sum
/-- a size and rows, in lowest terms -/
def lowS (s : Int) (rs : List (List Int)) : Int := s / gT s rs
theorem sq_norm {x : List Int} (h : isNum x = true) : sqS x = 4 * normL x := by
  have := norm_sum h
  unfold sqS
  omega
theorem sq_pos {x : List Int} (h : isNum x = true) (h0 : zeroB x = false) : 0 < sqS x := by
  have := norm_pos h h0
  rw [sq_norm h]
  omega
end TB

namespace TB
open PySem L2 PySem.Spec PyProof.Rows
end TB

namespace TB
open PySem L2 PySem.Spec PyProof.Rows
/-! ### the numbers that the laws of turns draw -/
/-! ### the law's own greatest common divisor -/
def es : Nat → Nat × Nat → Nat × Nat
  | 0, p => p
  | k + 1, p => es k (p.2, p.1 % p.2)
end TB

namespace TB
open PySem L2 PySem.Spec PyProof.Rows
/-! ### turns as data -/
inductive SeqAll : List D → List (List Int) → Prop
  | nil : SeqAll [] []
  | cons {d : D} {r : List Int} {ds : List D} {rs : List (List Int)} : Seq d r → SeqAll ds rs → SeqAll (d :: ds) (r :: rs)
theorem SeqAll.len : ∀ {ds : List D} {rs : List (List Int)}, SeqAll ds rs → ds.length = rs.length
  | _, _, .nil => rfl
  | _, _, .cons _ h => by rw [List.length_cons, List.length_cons, h.len]
theorem SeqAll.get : ∀ {ds : List D} {rs : List (List Int)} {k : Nat} {d : D}, SeqAll ds rs → ds[k]? = some d → k < rs.length ∧ Seq d (rs.getD k [])
  | _, _, k, _, .nil, e => by simp at e
  | _, _, 0, _, .cons h _, e => by
    simp at e
    subst e
    exact ⟨by simp, h⟩
  | _, _, k + 1, _, .cons _ h, e => by
    obtain ⟨h1, h2⟩ := h.get (k := k) (by simpa using e)
    exact ⟨by simpa using h1, by simpa using h2⟩
theorem SeqAll.mem : ∀ {ds : List D} {rs : List (List Int)} {p : D × List Int}, SeqAll ds rs → p ∈ ds.zip rs → Seq p.1 p.2 ∧ p.2 ∈ rs
  | _, _, p, .nil, hp => by cases hp
  | _, _, p, .cons h t, hp => by
    rcases List.mem_cons.mp hp with rfl | hp
    · exact ⟨h, List.mem_cons_self⟩
    · obtain ⟨h1, h2⟩ := t.mem hp
      exact ⟨h1, List.mem_cons_of_mem _ h2⟩
end TB

namespace TB
open PySem L2 PySem.Spec PyProof.Rows
/-! ### the law's own primitive number of a turn -/
theorem zeroB_iff {x : List Int} : zeroB x = true ↔ ∀ z ∈ x, z = 0 := by
  unfold zeroB
  simp
/-! ### k39 -/
end TB
namespace TB
end TB

namespace TB
open PySem L2 PySem.Spec PyProof.Rows
/-! ### a walk down: range(i, j, -1) -/
def rngC (lo c : Int) (n : Nat) : List D := (List.range n).map fun i => .int (lo + (i : Nat) * c)
theorem rngC_len (lo c : Int) (n : Nat) : (rngC lo c n).length = n := by unfold rngC; rw [List.length_map, List.length_range]
theorem rngC_get {lo c : Int} {n i : Nat} {d : D} (h : (rngC lo c n)[i]? = some d) : i < n ∧ d = .int (lo + (i : Nat) * c) := by
  have hi := (List.getElem?_eq_some_iff.mp h).1
  rw [rngC_len] at hi
  refine ⟨hi, ?_⟩
  unfold rngC at h
  rw [List.getElem?_map, List.getElem?_eq_getElem (by rw [List.length_range]; exact hi)] at h
  simp at h
  exact h.symm
theorem itc_d {K : PySem.W.Frag} {F : Hp} {lo c : Int} {n : Nat} : ItD K F (Itc lo c n) (rngC lo c n) := fun F1 H i e1 e2 => by
  refine ⟨fun d e => ?_, fun e => by rw [rngC_len] at e; exact Nat.le_of_eq e.symm⟩
  obtain ⟨h1, h2⟩ := rngC_get e
  subst h2
  refine ⟨h1, fun x H' y => ?_⟩
  obtain ⟨e1', e2'⟩ := y
  subst e1' e2'
  exact ⟨F1, Fz.refl e2, .int _⟩
section
variable {X : Cx} {F0 H0 : Hp} {Γ : List S} {a b c tg : Expr} {pos np : Pos} {i j : Int}
end
/-! ### k19: primes of a norm -/
def wp (p : Int) : List Int := [2 * p, 0, 0, 0]
theorem conj_timesL (m : Int) {x : List Int} (hx : isNum x = true) : conjL (timesL m x) = timesL m (conjL x) := by
  obtain ⟨a, b, c, d, rfl⟩ := four (num_len hx)
  show [a * m, -(b * m), -(c * m), -(d * m)] = [a * m, -b * m, -c * m, -d * m]
  rw [Int.neg_mul, Int.neg_mul, Int.neg_mul]
/-! the law's own primitive number -/
end TB

namespace TB
open PySem L2 PySem.Spec PyProof.Rows
/-! ### a walk down: range(i, j, -1) -/
theorem norm_unit {u : List Int} (h : u ∈ unitsL) : normL u = 1 := units_n1 u h
end TB

namespace TB
open PySem L2 PySem.Spec PyProof.Rows
/-! ### sorted(xs, reverse=True) of integers -/
section
variable {X : Cx} {W : WX} {F0 H0 : Hp} {Γ : List S} {e : Expr} {pos np kp cp : Pos} {ns : List Int} {kd : Nat}
end
section
variable {X : Cx} {W : WX} {F0 H0 : Hp} {Γ : List S} {e elt it tg : Expr} {ifs : List Expr} {scope : Scope} {pos np : Pos} {c : Addr} {own : List (Str × Nat)}
end
/-! ### the greatest one of some lists -/
def mxL : List (List Int) → List Int
  | [] => []
  | x :: xs => xs.foldl (fun a b => if a < b then b else a) x
theorem fold_spec : ∀ (xs : List (List Int)) (x : List Int), (xs.foldl (fun a b => if a < b then b else a) x) ∈ x :: xs ∧ ∀ y ∈ x :: xs, y ≤ xs.foldl (fun a b => if a < b then b else a) x
  | [], x => ⟨List.mem_cons_self, fun y hy => by
    rcases List.mem_cons.mp hy with rfl | h
    · exact List.le_refl _
    · cases h⟩
  | z :: zs, x => by
    have ih := fold_spec zs (if x < z then z else x)
    rw [List.foldl_cons]
    obtain ⟨h1, h2⟩ := ih
    by_cases c : x < z
    · rw [if_pos c] at h1 h2 ⊢
      refine ⟨List.mem_cons_of_mem _ h1, fun y hy => ?_⟩
      rcases List.mem_cons.mp hy with rfl | h
      · exact List.le_trans (List.le_of_lt c) (h2 z List.mem_cons_self)
      · exact h2 y h
    · rw [if_neg c] at h1 h2 ⊢
      have cz : z ≤ x := c
      refine ⟨?_, fun y hy => ?_⟩
      · rcases List.mem_cons.mp h1 with e | h
        · rw [e]; exact List.mem_cons_self
        · exact List.mem_cons_of_mem _ (List.mem_cons_of_mem _ h)
      · rcases List.mem_cons.mp hy with rfl | h
        · exact h2 _ List.mem_cons_self
        · rcases List.mem_cons.mp h with rfl | h
          · exact List.le_trans cz (h2 x List.mem_cons_self)
          · exact h2 y (List.mem_cons_of_mem _ h)
theorem mx_spec {ls : List (List Int)} (h : ls ≠ []) : mxL ls ∈ ls ∧ ∀ y ∈ ls, y ≤ mxL ls := by
  cases ls with
  | nil => exact absurd rfl h
  | cons x xs => exact fold_spec xs x
/-! ### falling tuples -/
end TB

namespace TB
open PySem L2 PySem.Spec PyProof.Rows
end TB

namespace TB
open PySem L2 PySem.Spec PyProof.Rows
/-! ### a > b of data, tuple + tuple, min of a list -/
section
variable {X : Cx} {W : WX} {F0 H0 : Hp} {Γ : List S} {a b e : Expr} {pos np : Pos} {x y : D} {ds es : List D}
end
end TB

namespace TB
open PySem L2 PySem.Spec PyProof.Rows
/-! ### the nearest numbers, as the law of quotients looks for them -/
end TB

namespace TB
open PySem L2 PySem.Spec PyProof.Rows
/-! the best one -/
end TB

namespace TB
open PySem L2 PySem.Spec PyProof.Rows
end TB

namespace TB
open PySem L2 PySem.Spec PyProof.Rows
/-! ### isqrt -/
def rIsqrt : List V → Hp → VK → Prop := fun vs H Q => ∃ a : Int, vs = [.int a] ∧ 0 ≤ a ∧ a < 2 ^ 64 ∧ Q (.int ((Float64.isqrt a.toNat : Nat) : Int)) H
theorem cr_isqrt {X : Cx} : CallR X (.builtin "math.isqrt") rIsqrt := by
  intro pins s σ H vs us Q I r h
  obtain ⟨a, rfl, h0, h1, q⟩ := h
  cases r with
  | cons r rr =>
    cases rr
    obtain ⟨t, rfl⟩ := r
    exact PySem.W.mg_isqrt h0 h1 ⟨.int _, H, I.tok _, ⟨_, rfl⟩, q⟩
section
variable {X : Cx} {W : WX} {F0 H0 : Hp} {Γ : List S} {e : Expr} {a : Int} {pos np : Pos}
theorem rc_isqrt {K : PySem.W.Frag} (h0 : 0 ≤ a) (h1 : a < 2 ^ 64) : RC K rIsqrt [.int a] (.v (.int ((Float64.isqrt a.toNat : Nat) : Int))) := fun vs F H Q s dv q => by
  cases dv with
  | cons d1 dv =>
    cases dv
    cases d1
    exact ⟨a, rfl, h0, h1, q _ F H (Fz.refl s) (.int _)⟩
theorem je_isqrt (h0 : 0 ≤ a) (h1 : a < 2 ^ 64) (hm : X.mg "isqrt" = some (.builtin "math.isqrt")) (h : JE X WF F0 H0 Γ e (.v (.int a))) (hg : Gl X "isqrt" := by rfl) (s1 : starEach [e] X.env = (false, eval e X.env) :: starEach [] X.env := by rfl) : JE X W F0 H0 Γ (.Call (.Name "isqrt" np) [e] [] pos) (.v (.int ((Float64.isqrt a.toNat : Nat) : Int))) :=
  pe_imp (pe_callBfun cr_isqrt hg hm (ja_cons h ja_nil s1) (by decide) s1 rfl) fun σ H Q ⟨F, ok, q⟩ => ⟨F, ok, fun vs F1 H1 z1 d1 => rc_isqrt h0 h1 vs F1 H1 Q z1.s d1 fun v F2 H2 z2 dv => q v F2 H2 (z1.trans z2) dv⟩
end
theorem isqrt_all : (List.range 10002).all (fun n => Nat.ble (Float64.isqrt n * Float64.isqrt n) n && Nat.blt n ((Float64.isqrt n + 1) * (Float64.isqrt n + 1))) = true := by decide +kernel
theorem isqrt_small {n : Nat} (h : n ≤ 10001) : Float64.isqrt n * Float64.isqrt n ≤ n ∧ n < (Float64.isqrt n + 1) * (Float64.isqrt n + 1) := by
  have := List.all_eq_true.mp isqrt_all n (List.mem_range.mpr (by omega))
  rw [Bool.and_eq_true] at this
  exact ⟨Nat.le_of_ble_eq_true this.1, Nat.le_of_ble_eq_true this.2⟩
section
variable {X : Cx} {F0 H0 : Hp} {Γ : List S} {e : Expr} {es : List Expr} {sp : Pos} {ds es2 : List D}
end
end TB

namespace TB
open PySem L2 PySem.Spec PyProof.Rows
/-! ### list(range(i, j, -1)) -/
section
variable {X : Cx} {a b c : Expr} {ta : TA} {p pos p2 pos2 : Pos}
end
section
variable {X : Cx} {W : WX} {F0 H0 : Hp} {Γ : List S} {a b c : Expr} {p pos p2 pos2 : Pos} {i j : Int}
end
section
variable {X : Cx} {W : WX} {F0 H0 : Hp} {Γ : List S} {a b : Expr} {np pos : Pos} {i j : Int}
end
/-! ### sums of four squares: the first integers -/
def rootI (v : Int) : Int := ((Float64.isqrt v.toNat : Nat) : Int)
end TB

namespace TB
open PySem L2 PySem.Spec PyProof.Rows
section
variable {X : Cx} {F0 H0 : Hp} {Γ : List S} {a b c : Expr} {pos : Pos} {i j k : Int}
/-- a <= b <= c, integers -/
theorem jt_leLe (ha : JE X WF F0 H0 Γ a (.v (.int i))) (hb : JE X WF F0 H0 Γ b (.v (.int j))) (hc : JE X WF F0 H0 Γ c (.v (.int k))) (hm : lastMarks [.LtE, .LtE] [b, c] = false := by with_unfolding_all rfl) : JT X F0 H0 Γ (.Compare a [.LtE, .LtE] [b, c] pos) (decide (i ≤ j) && decide (j ≤ k)) :=
  pt_imp (pt_chain op_le op_le ha hb hc hm) fun σ H Q ⟨F, ok, q⟩ => ⟨F, ok, fun v F1 H1 z1 d1 => ⟨F1, ok.mono z1, fun u F2 H2 z2 d2 => by
    cases d1
    cases d2
    refine ⟨i, j, rfl, rfl, decide (i ≤ j), rfl, ?_⟩
    by_cases h : i ≤ j
    · rw [decide_eq_true h] at q ⊢
      rw [if_pos rfl]
      refine ⟨F2, (ok.mono z1).mono z2, fun w F3 H3 z3 d3 => ?_⟩
      cases d3
      exact ⟨j, k, rfl, rfl, _, rfl, q F3 H3 ((z1.trans z2).trans z3)⟩
    · rw [decide_eq_false h] at q ⊢
      rw [if_neg Bool.false_ne_true]
      exact ⟨_, rfl, q F2 H2 (z1.trans z2)⟩⟩⟩
end
end TB

namespace TB
open PySem L2 PySem.Spec PyProof.Rows
/-! ### trees of one's own: displays, a list in a list grows, trees become data -/
section
variable {X : Cx} {W : WX} {F0 H0 : Hp} {Γ : List S} {a b e : Expr} {es : List Expr} {x : D} {ds : List D} {pos : Pos} {t : Own} {ts : List Own}
end

section
variable {K : PySem.W.Frag} {F H : Hp}
end

/-! a tree of lists as data -/
section
variable {K : PySem.W.Frag} {H : Hp}
end
section
variable {K : PySem.W.Frag} {F0 H0 F H : Hp} {σ : L2.St} {Γ : List S}
theorem set_self {σ : L2.St} {i : Nat} {v : V} (h : σ[i]? = some (some v)) : σ.set i (some v) = σ := by
  apply List.ext_getElem?
  intro k
  by_cases hk : i = k
  · subst hk
    rw [List.getElem?_set_self (List.getElem?_eq_some_iff.mp h).1, h]
  · rw [List.getElem?_set_ne hk]
end
section
variable {X : Cx} {W : WX} {F0 H0 : Hp} {Γ : List S} {a b e : Expr} {x : D} {ds : List D} {sts : List Stmt} {so : SO} {pos : Pos} {t : Own}
end
end TB

namespace TB
open PySem L2 PySem.Spec PyProof.Rows
/-! ### comprehensions by the kind of their elements -/
section
variable {X : Cx} {W : WX} {F0 H0 : Hp} {Γ : List S} {elt tg it c : Expr} {ifs : List Expr} {pos : Pos} {scope : Scope} {α β : Type} {xs : List α} {enc : α → D} {enc2 : β → D} {g : α → β} {p : α → Bool} {own : List (Str × Nat)}
theorem je_lcE0 (enc2 : β → D) (t : Tgt) (hc : X.calm = true) (hN : X.N.Nodup) (hi : JI X F0 H0 Γ tg it (xs.map enc)) (ok : BlkOk X.N X.env.scope scope own) (hl : xs.length < 100000) (hf : ∀ a ∈ xs, t.fits (enc a))
    (hg : ∀ (s : Shared) (H : Hp) (C : Addr) (cl : List (Str × Addr)) (fp : List Addr), PG (Bk X s H scope C cl fp) tg (t.g X.K))
    (he : ∀ a, a ∈ xs → ∀ (s : Shared) (H : Hp) (C : Addr) (cl : List (Str × Addr)) (fp : List Addr), JE (Bk X s H scope C cl fp) WF F0 H0 (t.put (enc a) (wipeG Γ t.vs)) elt (.v (enc2 (g a))))
    (ho : own.map (·.2) = t.vs := by rfl) (hs : ∀ x, foldedSetIterable it X.env x = pure x := by intro _; rfl) :
    JE X W F0 H0 Γ (.ListComp elt [⟨tg, it, [], 0⟩] scope pos) (.o ((xs.map g).map enc2)) := by
  rw [List.map_map]
  exact je_lcA0 t hc hN hi ok hl hf hg he ho hs
theorem js_setLcE0 (enc2 : β → D) (j : Nat) {y : Str} {py2 spos : Pos} (t : Tgt) (hc : X.calm = true) (hN : X.N.Nodup) (hi : JI X F0 H0 Γ tg it (xs.map enc)) (ok : BlkOk X.N X.env.scope scope own) (hl : xs.length < 100000) (hf : ∀ a ∈ xs, t.fits (enc a))
    (hsw : swapsWith (.ListComp elt [⟨tg, it, [], 0⟩] scope pos) (some (.Name y py2)) spos.line X.env = pure true)
    (hg : ∀ (s : Shared) (H : Hp) (C : Addr) (cl : List (Str × Addr)) (fp : List Addr), PG (Bk X s H scope C cl fp) tg (t.g X.K))
    (he : ∀ a, a ∈ xs → ∀ (s : Shared) (H : Hp) (C : Addr) (cl : List (Str × Addr)) (fp : List Addr), JE (Bk X s H scope C cl fp) WF F0 H0 (t.put (enc a) (wipeG Γ t.vs)) elt (.v (enc2 (g a))))
    (ho : own.map (·.2) = t.vs := by rfl) (hy : X.N[j]? = some y := by rfl) (hyl : X.env.scope.names.lookup y = some .local := by rfl) (hs : ∀ x, foldedSetIterable it X.env x = pure x := by intro _; rfl) :
    JS X W F0 H0 Γ (.Assign [.Name y py2] (.ListComp elt [⟨tg, it, [], 0⟩] scope pos) spos) (.nx (Γ.set j (.own ((xs.map g).map enc2)))) := by
  rw [List.map_map]
  exact js_setLcA0 j t hc hN hi ok hl hf hsw hg he ho hy hyl hs
end
section
variable {X : Cx} {W : WX} {F0 H0 : Hp} {Γ Γ1 Γ2 : List S} {st : Stmt} {rest sts : List Stmt} {so : SO} {ds : List D}
/-- the slots told anew behind a statement -/
theorem jss_consN (h1 : JS X W F0 H0 Γ st (.nx Γ1)) (e : Γ1 = Γ2) (h2 : JSs X W F0 H0 Γ2 rest so) : JSs X W F0 H0 Γ (st :: rest) so := jss_cons (e ▸ h1) h2
theorem jss_frzN (i : Nat) (g : Γ[i]? = some (.own ds)) (e : Γ.set i (.d (.list ds)) = Γ2) (h : JSs X W F0 H0 Γ2 sts so) : JSs X W F0 H0 Γ sts so := jss_frz i g (e ▸ h)
theorem jss_norm (e : Γ = Γ2) (h : JSs X W F0 H0 Γ2 sts so) : JSs X W F0 H0 Γ sts so := e ▸ h
end
/-! ### bounds by search -/
/-! ### loops over folds -/
section
variable {X : Cx} {W : WX} {F0 H0 : Hp} {Γ Γ' Γ1 : List S} {e tg it : Expr} {pos : Pos} {body : List Stmt} {so : SO} {α β : Type}
theorem foldl_take_succ {step : β → α → β} {b : β} {xs : List α} {k : Nat} {a : α} (h : xs[k]? = some a) : (xs.take (k + 1)).foldl step b = step ((xs.take k).foldl step b) a := by
  rw [List.take_succ, h, List.foldl_append]
  rfl
/-- for a in xs: the state b goes to step b a; what is true of the k-th state -/
theorem js_forFold {T : List S → D → List S → Prop} {xs : List α} {enc : α → D} (G : β → List S) (Gt : β → α → List S) (step : β → α → β) (b0 : β) (inv : Nat → β → Prop) (hp : PassesOwn (model X.prog X.w) X.A X.env X.xe) (hc : X.calm = true) (hi : JI X F0 H0 Γ tg it (xs.map enc)) (hg : JG X F0 H0 tg T) (h0 : Le Γ (G b0)) (hi0 : inv 0 b0)
    (ht : ∀ b a, T (G b) (enc a) (Gt b a)) (hb : ∀ k b a, xs[k]? = some a → inv k b → (∃ so, JSs X W F0 H0 (Gt b a) body so ∧ Turns (G (step b a)) so) ∧ inv (k + 1) (step b a)) (hs : ∀ x, foldedSetIterable it X.env x = pure x := by intro _; rfl) :
    JS X W F0 H0 Γ (.For tg it body [] pos) (.nx (G (xs.foldl step b0))) ∧ inv xs.length (xs.foldl step b0) := by
  have hinv : ∀ k, k ≤ xs.length → inv k ((xs.take k).foldl step b0) := fun k => by
    induction k with
    | zero => intro _; rw [List.take_zero]; exact hi0
    | succ k ih =>
      intro hk
      have e : xs[k]? = some xs[k] := List.getElem?_eq_getElem hk
      rw [foldl_take_succ e]
      exact (hb k _ _ e (ih (by omega))).2
  have hfull : (xs.take xs.length).foldl step b0 = xs.foldl step b0 := by rw [List.take_length]
  refine ⟨?_, by have := hinv xs.length (Nat.le_refl _); rwa [hfull] at this⟩
  have := js_for (W := W) (pos := pos) (so := .nx (G (xs.foldl step b0))) (ds := xs.map enc) (fun k => G ((xs.take k).foldl step b0)) (fun k => match xs[k]? with | some a => Gt ((xs.take k).foldl step b0) a | none => []) (xs.map enc).length hp hc hi hg (by simpa using h0) (Nat.le_refl _)
    (fun k d ed _ => by
      rw [List.getElem?_map] at ed
      cases q : xs[k]? with
      | none => rw [q] at ed; cases ed
      | some a =>
        rw [q] at ed
        cases ed
        exact ht _ _) (fun k d ed _ => by
      rw [List.getElem?_map] at ed
      cases q : xs[k]? with
      | none => rw [q] at ed; cases ed
      | some a =>
        have hk := (List.getElem?_eq_some_iff.mp q).1
        show ∃ so, JSs X W F0 H0 (Gt ((xs.take k).foldl step b0) a) body so ∧ Turns (G ((xs.take (k + 1)).foldl step b0)) so
        rw [foldl_take_succ q]
        exact (hb k _ a q (hinv k (by omega))).1) (fun h => absurd h (Nat.lt_irrefl _)) (fun _ => by
      show SO.nx (G (xs.foldl step b0)) = SO.nx (G ((xs.take (xs.map enc).length).foldl step b0))
      rw [List.length_map, List.take_length]) hs
  exact this
end
end TB

namespace TB
open PySem L2 PySem.Spec PyProof.Rows
/-! ### the law's own turns -/
end TB

namespace TB
open PySem L2 PySem.Spec PyProof.Rows
/-! ### which tables are turns -/
def dtL (p q : List Int) : Int := ((p.zip q).map fun z => z.1 * z.2).sum
def form3 (rs : List (List Int)) : Bool := decide (rs.length = 3) && rs.all fun r => decide (r.length = 3)
def lowB (s : Int) (rs : List (List Int)) : Bool := decide (lowS s rs = s)
def crossL : List Int → List Int → List Int
  | [a, b, c], [d, e, f] => [b * f - c * e, c * d - a * f, a * e - b * d]
  | _, _ => []
/-- lengths and angles -/
def keepB (s : Int) : List (List Int) → Bool
  | [p, q, r] => decide ([dtL p p, dtL q q, dtL r r] = [s * s, s * s, s * s]) && (!([dtL p q, dtL q r, dtL r p] : List Int).any (· != 0)) && decide (dtL (crossL p q) r = s * (s * s))
  | _ => false
def goodT (s : Int) (rs : List (List Int)) : Bool := decide (0 < s) && form3 rs && lowB s rs && keepB s rs
/-- what is handed in as a turn: a row of data; of two, where the first is an integer or a truth value, and the second a row of rows of integers -/
def R_isint : List D → Out → Prop := fun ds o => (∃ z : Int, ds = [.int z] ∧ o = .v (.bool true)) ∨ (∃ b, ds = [.bool b] ∧ o = .v (.bool false))
structure TurnA (s : Int) (dr : D) (es : List D) (rs : List (List Int)) : Prop where
  sq : SqD dr es
  sa : SeqAll es rs
  n : rs.length ≤ 10
  l : ∀ r ∈ rs, r.length ≤ 10
  b : ∀ r ∈ rs, ∀ z ∈ r, Bt 400 z
  bs : Bt 400 s
def R_chkT (c : Addr) : List D → Out → Prop := fun ds o => ∃ d es, ds = [d] ∧ SqD d es ∧ ((es.length ≠ 2 ∧ o = .x c) ∨ (∃ b dr, es = [.bool b, dr] ∧ o = .x c) ∨ ∃ s dr es' rs, es = [.int s, dr] ∧ TurnA s dr es' rs ∧ o = if goodT s rs = true then .v .none else .x c)
end TB
namespace TB
open PySem L2 PySem.Spec PyProof.Rows
section
variable {X : Cx} {W : WX} {F0 H0 : Hp} {Γ : List S} {a e : Expr} {d : D} {ds : List D} {pos np : Pos}
end
theorem all_true_map {α : Type} (xs : List α) : (xs.map fun _ => true).all id = true := by
  induction xs with
  | nil => rfl
  | cons x xs ih => rw [List.map_cons, List.all_cons, ih]; rfl
end TB
namespace TB
open PySem L2 PySem.Spec PyProof.Rows
theorem SeqAll.three {es : List D} {p q r : List Int} (h : SeqAll es [p, q, r]) : ∃ d1 d2 d3, es = [d1, d2, d3] ∧ Seq d1 p ∧ Seq d2 q ∧ Seq d3 r := by
  cases h with
  | cons h1 h => cases h with
    | cons h2 h => cases h with
      | cons h3 h =>
        cases h
        exact ⟨_, _, _, rfl, h1, h2, h3⟩
end TB

namespace TB
open PySem L2 PySem.Spec PyProof.Rows
/-! ### defs that reach repr -/
section
variable {X : Cx} {k : Nat} {f : Addr} {fd : FuncData} {ps : List Str} {sp : Sp} {E : L2.St → XK} {x : Str} {p pos : Pos} {e : Expr} {es : List Expr} {t : TA}
end
section
variable {X : Cx} {W : WX} {F0 H0 : Hp} {Γ : List S} {e : Expr} {es : List Expr} {pos np : Pos} {n : Str} {ds : List D} {o : Out} {k : Nat} {ps : List Str} {R : List D → Out → Prop}
end
/-! ### turns written out -/
end TB

namespace TB
open PySem L2 PySem.Spec PyProof.Rows
/-! ### primitive parts are one's own -/
def primC (x : List Int) : List Int := quoL (contL x) x
theorem times_zero_iff {m : Int} (hm : m ≠ 0) {x : List Int} : zeroB (timesL m x) = zeroB x := by
  cases h : zeroB x with
  | true =>
    refine zeroB_iff.mpr fun z hz => ?_
    obtain ⟨y, hy, rfl⟩ := List.mem_map.mp hz
    rw [zeroB_iff.mp h y hy, Int.zero_mul]
  | false =>
    cases q : zeroB (timesL m x) with
    | false => rfl
    | true =>
      rw [← h, zeroB_iff.mpr fun y hy => ?_]
      rcases Int.mul_eq_zero.mp (zeroB_iff.mp q (y * m) (List.mem_map_of_mem (f := fun p => p * m) hy)) with e | e
      · exact e
      · exact absurd e hm
theorem pos_dvd_one {k : Int} (h : 0 < k) (h1 : k ∣ 1) : k = 1 := by
  have := Int.le_of_dvd (by decide) h1
  omega
theorem prim_spec {x : List Int} (hx : isNum x = true) (h0 : zeroB x = false) : 0 < contL x ∧ isNum (primC x) = true ∧ zeroB (primC x) = false ∧ x = timesL (contL x) (primC x) ∧ contL (primC x) = 1 := by
  have hc := (div_iff hx h0 (m := 1) (by decide)).1
  obtain ⟨y, hy, e⟩ := (div_iff hx h0 hc).2.mpr ⟨1, by omega⟩
  have ep : primC x = y := by
    have h2 := quo_of_times hc y
    rw [← e] at h2
    exact h2
  have zy : zeroB y = false := by
    rw [← h0]
    conv => rhs; rw [e]
    rw [times_zero_iff (by omega)]
  refine ⟨hc, by rw [ep]; exact hy, by rw [ep]; exact zy, by rw [ep]; exact e, ?_⟩
  rw [ep]
  have hk := (div_iff hy zy (m := 1) (by decide)).1
  obtain ⟨z, hz, e2⟩ := (div_iff hy zy hk).2.mpr ⟨1, by omega⟩
  have hkc := Int.mul_pos hk hc
  have : contL y * contL x ∣ contL x := (div_iff hx h0 hkc).2.mp ⟨z, hz, by rw [← times_times, ← e2]; exact e⟩
  refine pos_dvd_one hk ?_
  have h1 : contL y * contL x ∣ 1 * contL x := by rw [Int.one_mul]; exact this
  exact Int.dvd_of_mul_dvd_mul_right (by omega) h1
theorem cont_times {x : List Int} (hx : isNum x = true) (h0 : zeroB x = false) {m : Int} (hm : 0 < m) : contL (timesL m x) = m * contL x := by
  obtain ⟨hc, pn, pz, e, _⟩ := prim_spec hx h0
  have hn := num_times m hx
  have hz : zeroB (timesL m x) = false := by rw [times_zero_iff (by omega)]; exact h0
  obtain ⟨hC, qn, qz, e2, _⟩ := prim_spec hn hz
  have d1 : m * contL x ∣ contL (timesL m x) := (div_iff hn hz (Int.mul_pos hm hc)).2.mp ⟨primC x, pn, by
    conv => lhs; rw [e]
    rw [times_times, Int.mul_comm]⟩
  obtain ⟨k, hk⟩ := d1
  have kp : 0 < k := by
    rcases Int.lt_or_le 0 k with q | q
    · exact q
    · have := Int.mul_nonpos_of_nonneg_of_nonpos (Int.le_of_lt (Int.mul_pos hm hc)) q
      omega
  have e3 : x = timesL (contL x * k) (primC (timesL m x)) := by
    refine times_inj (m := m) (by omega) ?_
    rw [times_times]
    conv => lhs; rw [e2]
    rw [hk]
    congr 1
    rw [Int.mul_assoc, Int.mul_comm]
  have d2 : contL x * k ∣ contL x := (div_iff hx h0 (Int.mul_pos hc kp)).2.mp ⟨_, qn, e3⟩
  have d3 : k ∣ 1 := by
    have h1 : contL x * k ∣ contL x * 1 := by rw [Int.mul_one]; exact d2
    exact Int.dvd_of_mul_dvd_mul_left (by omega) h1
  have := pos_dvd_one kp d3
  rw [hk, this, Int.mul_one]
/-! ### the number of a turn -/
end TB

namespace TB
open PySem L2 PySem.Spec PyProof.Rows
/-! ### questions about turns -/
/-- a question about one turn: what is no turn is refused -/
def RTq (c : Addr) (g : Int → List (List Int) → Out) : List D → Out → Prop := fun ds o => ∃ d es, ds = [d] ∧ SqD d es ∧ ((es.length ≠ 2 ∧ o = .x c) ∨ (∃ b dr, es = [.bool b, dr] ∧ o = .x c) ∨ ∃ s dr es' rs, es = [.int s, dr] ∧ TurnA s dr es' rs ∧ o = if goodT s rs = true then g s rs else .x c)
theorem RTq.len {c : Addr} {g : Int → List (List Int) → Out} {ds : List D} {o : Out} (h : RTq c g ds o) : ds.length = 1 := by
  obtain ⟨_, _, rfl, _⟩ := h
  rfl
theorem RTq.go {c : Addr} {g : Int → List (List Int) → Out} {ds : List D} {o : Out} (h : RTq c g ds o) : (∃ d, ds = [d] ∧ R_chkT c [d] (.x c) ∧ o = .x c) ∨ ∃ d s dr es rs, ds = [d] ∧ SqD d [.int s, dr] ∧ TurnA s dr es rs ∧ goodT s rs = true ∧ o = g s rs ∧ R_chkT c [d] (.v .none) := by
  obtain ⟨d, es, rfl, sq, h | ⟨b, dr, rfl, ho⟩ | ⟨s, dr, es', rs, rfl, ta, ho⟩⟩ := h
  · exact .inl ⟨d, rfl, ⟨d, es, rfl, sq, .inl ⟨h.1, rfl⟩⟩, h.2⟩
  · exact .inl ⟨d, rfl, ⟨d, _, rfl, sq, .inr (.inl ⟨b, dr, rfl, rfl⟩)⟩, ho⟩
  · by_cases hg : goodT s rs = true
    · rw [if_pos hg] at ho
      exact .inr ⟨d, s, dr, es', rs, rfl, sq, ta, hg, ho, ⟨d, _, rfl, sq, .inr (.inr ⟨s, dr, es', rs, rfl, ta, by rw [if_pos hg]⟩)⟩⟩
    · rw [if_neg hg] at ho
      exact .inl ⟨d, rfl, ⟨d, _, rfl, sq, .inr (.inr ⟨s, dr, es', rs, rfl, ta, by rw [if_neg hg]⟩)⟩, ho⟩
/-- asked about a turn -/
theorem RTq.of {c : Addr} {g : Int → List (List Int) → Out} {d : D} {s : Int} {dr : D} {es : List D} {rs : List (List Int)} (sq : SqD d [.int s, dr]) (ta : TurnA s dr es rs) (h : goodT s rs = true) : RTq c g [d] (g s rs) :=
  ⟨d, _, rfl, sq, .inr (.inr ⟨s, dr, es, rs, rfl, ta, by rw [if_pos h]⟩)⟩
end TB
namespace TB
open PySem L2 PySem.Spec PyProof.Rows
end TB

namespace TB
open PySem L2
/-! ### zip of three rows, its tuples kept -/
section
variable {prog : Program} {w : World} {A : Around} {E : Value → Shared → Prop} {s : Shared} {q TI TO T i1 i2 i3 : Addr} {fa fb fc : List Addr} {n1 n2 n3 i : Nat} {P1 P2 P3 : Nat → Value → Prop} {J1 J2 J3 : Nat → Heap → Prop} {f : Bool} {oT : Obj}
end
/-! ### what an iterator gives, laid into a list or a tuple -/
section
variable {prog : Program} {w : World} {A : Around} {E : Value → Shared → Prop} {s : Shared} {R : Result → Shared → Prop} {I S : Addr} {n : Nat} {J : Nat → List Value → Shared → Prop} {Fi : List Value → Shared → Prop}
end
section
variable {prog : Program} {w : World} {A : Around} {E : Value → Shared → Prop} {s : Shared} {I : Addr} {n : Nat} {J : Nat → List Value → Shared → Prop} {Fi : List Value → Shared → Prop}
end
end TB

namespace TB
open PySem L2
section
variable {X : Cx} {pins : List (Addr × Obj)} {σ : L2.St} {F H : Hp} {s0 : Shared}
end
end TB
namespace TB
open PySem L2
section
variable {X : Cx} {W : WX} {F0 H0 : Hp} {Γ : List S} {e : Expr} {p p2 p3 pos pos2 : Pos} {d r1 r2 r3 : D} {as bs cs : List D}
end
end TB

namespace TB
open PySem L2 PySem.Spec PyProof.Rows
/-! ### turns one behind another -/
theorem sq_mul {x y : List Int} (hx : isNum x = true) (hy : isNum y = true) : sqS y * sqS x = 4 * sqS (mulL y x) := by
  obtain ⟨a, b, c, d, rfl, k⟩ := num_cases hx
  obtain ⟨e, f, g, h, rfl, l⟩ := num_cases hy
  obtain ⟨p, q, r, s, ⟨h1, h2, h3, h4⟩, _, e2⟩ := mul_pr l k
  rw [e2]
  show (e * e + (f * f + (g * g + (h * h + 0)))) * (a * a + (b * b + (c * c + (d * d + 0)))) = 4 * (p * p + (q * q + (r * r + (s * s + 0))))
  have k4 : 4 * (p * p + (q * q + (r * r + (s * s + 0)))) = (2 * p) * (2 * p) + (2 * q) * (2 * q) + (2 * r) * (2 * r) + (2 * s) * (2 * s) := by grind
  rw [k4, h1, h2, h3, h4]
  grind
theorem zero_mul {x y : List Int} (hx : isNum x = true) (hy : isNum y = true) (zx : zeroB x = false) (zy : zeroB y = false) : zeroB (mulL y x) = false := by
  have p1 := Int.mul_pos (sq_pos hy zy) (sq_pos hx zx)
  rw [sq_mul hx hy] at p1
  cases q : zeroB (mulL y x) with
  | false => rfl
  | true =>
    exfalso
    have : sqS (mulL y x) = 0 := by
      unfold sqS
      have e : ∀ l : List Int, (∀ z ∈ l, z = 0) → (l.map fun p => p * p).sum = 0 := fun l => by
        induction l with
        | nil => intro _; rfl
        | cons a l ih =>
          intro h
          rw [List.map_cons, List.sum_cons, ih (fun z hz => h z (List.mem_cons_of_mem _ hz)), h a List.mem_cons_self]
          rfl
      exact e _ (zeroB_iff.mp q)
    omega
end TB

namespace TB
open PySem L2 PySem.Spec PyProof.Rows
end TB
namespace TB
open PySem L2 PySem.Spec PyProof.Rows
end TB

namespace TB
open PySem L2 PySem.Spec PyProof.Rows
section
variable {X : Cx} {W : WX} {F0 H0 : Hp} {Γ : List S} {tg it : Expr} {body : List Stmt} {pos : Pos} {ds : List D}
end
end TB

namespace TB
open PySem L2 PySem.Spec PyProof.Rows PySem.Calls
/-! ### gcd of three -/
section
variable {X : Cx} {W : WX} {F0 H0 : Hp} {Γ : List S} {e1 e2 e3 : Expr} {a b c : Int} {pos np : Pos}
end
/-! ### the order of a turn -/
/-- a loop that leaves with an answer at the first turn where P holds -/
def outOf (so' : Nat → SO) (o : SO) : Option Nat → SO
  | some k => so' k
  | none => o
def SO.ret : SO → Prop
  | .rt _ => True
  | .rto _ => True
  | .rtq _ => True
  | _ => False
section
variable {X : Cx} {W : WX} {F0 H0 : Hp} {Γ : List S} {tg it : Expr} {body : List Stmt} {pos : Pos}
theorem js_forFind {T : List S → D → List S → Prop} {ds : List D} (P : Nat → Bool) (so' : Nat → SO) (Γs : Nat → List S) (Γt : Nat → List S) (hp : PassesOwn (model X.prog X.w) X.A X.env X.xe) (hc : X.calm = true) (hi : JI X F0 H0 Γ tg it ds) (hg : JG X F0 H0 tg T) (h0 : Le Γ (Γs 0))
    (ht : ∀ (k : Nat) (d : D), ds[k]? = some d → T (Γs k) d (Γt k)) (hb0 : ∀ (k : Nat) (d : D), ds[k]? = some d → P k = false → JSs X W F0 H0 (Γt k) body (.nx (Γs (k + 1)))) (hb1 : ∀ (k : Nat) (d : D), ds[k]? = some d → P k = true → JSs X W F0 H0 (Γt k) body (so' k) ∧ (so' k).ret)
    (hs : ∀ x, foldedSetIterable it X.env x = pure x := by intro _; rfl) : JS X W F0 H0 Γ (.For tg it body [] pos) (outOf so' (.nx (Γs ds.length)) ((List.range ds.length).find? P)) := by
  cases hf : (List.range ds.length).find? P with
  | none =>
    have hn := List.find?_eq_none.mp hf
    exact js_forAll Γs Γt hp hc hi hg h0 ht (fun k d e => hb0 k d e (by
      have hk := (List.getElem?_eq_some_iff.mp e).1
      have := hn k (List.mem_range.mpr hk)
      simpa using this)) hs
  | some m =>
    have hpm := List.find?_some hf
    have hm := List.mem_range.mp (List.mem_of_find?_eq_some hf)
    have before : ∀ k, k < m → P k = false := fun k hk => by
      obtain ⟨_, as, bs, e, h⟩ := List.find?_eq_some_iff_append.mp hf
      have hk2 : k ∈ as := by
        have : k ∈ as ++ m :: bs := by rw [← e]; exact List.mem_range.mpr (by omega)
        rcases List.mem_append.mp this with q | q
        · exact q
        · exfalso
          have srt : (as ++ m :: bs).Pairwise (· < ·) := by rw [← e]; exact List.pairwise_lt_range
          have srt2 := (List.pairwise_append.mp srt).2.1
          rcases List.mem_cons.mp q with q | q
          · omega
          · have := (List.pairwise_cons.mp srt2).1 k q
            omega
      simpa using h k hk2
    have hd : ds[m]? = some ds[m] := List.getElem?_eq_getElem hm
    obtain ⟨j, rt⟩ := hb1 m _ hd hpm
    refine js_for Γs Γt m hp hc hi hg h0 (Nat.le_of_lt hm) (fun k d e _ => ht k d e) (fun k d e hk => ⟨_, hb0 k d e (before k hk), rfl⟩) (fun _ => ⟨_, j, ?_, .inl ⟨rfl, ?_, ?_⟩⟩) (fun h => absurd h (by omega)) hs
    · revert rt
      show SO.ret (so' m) → SO.stop (so' m)
      cases so' m <;> intro h <;> first | exact h.elim | trivial
    · intro g e
      rw [e] at rt
      exact rt
    · intro g e
      rw [e] at rt
      exact rt
end
section
variable {X : Cx} {W : WX} {F0 H0 : Hp} {Γ Γ1 : List S} {st : Stmt} {rest : List Stmt} {so2 : SO} {so' : Nat → SO} {o : Option Nat}
theorem jss_find (h : JS X W F0 H0 Γ st (outOf so' (.nx Γ1) o)) (hr : ∀ k, (so' k).ret) (h2 : o = none → JSs X W F0 H0 Γ1 rest so2) : JSs X W F0 H0 Γ (st :: rest) (outOf so' so2 o) := by
  cases o with
  | none => exact jss_cons h (h2 rfl)
  | some k =>
    refine jss_stop h ?_
    have rt := hr k
    revert rt
    show SO.ret (so' k) → SO.stop (so' k)
    cases so' k <;> intro h <;> first | exact h.elim | trivial
end
/-! where the powers are whole -/
end TB

namespace TB
open PySem L2 PySem.Spec PyProof.Rows
/-! ### orders and axes -/
/-! axes -/
end TB

namespace TB
open PySem L2 PySem.Spec PyProof.Rows
/-! ### comparisons of rows of integers -/
section
variable {X : Cx}
end
section
variable {X : Cx} {W : WX} {F0 H0 : Hp} {Γ : List S} {a b e : Expr} {pos np : Pos} {x y : List Int}
end
end TB

namespace TB
open PySem L2 PySem.Spec PyProof.Rows PySem.Calls
/-! ### gcd and lcm of two -/
section
variable {X : Cx} {W : WX} {F0 H0 : Hp} {Γ : List S} {e1 e2 : Expr} {a b : Int} {pos np : Pos}
end
/-! ### fractions -/
/-! ### points of fractions -/
/-! ### the law's point -/
end TB

namespace TB
open PySem L2 PySem.Spec PyProof.Rows
section
variable {X : Cx} {F0 H0 : Hp} {Γ : List S} {e : Expr} {i : Int}
/-- an integer as a test -/
theorem jt_int (h : JE X WF F0 H0 Γ e (.v (.int i))) (he : ∀ whole, isTrue e X.env whole = (do let v ← whole; standAt e.pos; holding [v] (truthy v)) := by intro _; rfl) : JT X F0 H0 Γ e (decide (i ≠ 0)) :=
  pt_imp (pt_truth h he) fun σ H Q ⟨F, ok, q⟩ => ⟨F, ok, fun v F1 H1 z1 d1 => by
    cases d1
    refine ⟨i != 0, rfl, ?_⟩
    have : (i != 0) = decide (i ≠ 0) := by
      by_cases h : i = 0
      · subst h; rfl
      · rw [decide_eq_true h]; exact bne_iff_ne.mpr h
    rw [this]
    exact q F1 H1 z1⟩
end
/-- an integer of the module -/
theorem dp_int {K : PySem.W.Frag} (z : Int) : ∀ F, Dp K F (.int z) (.int z) := fun F => .int z
theorem dp_k5 {K : PySem.W.Frag} {a : Addr} {od : Option Addr} {x y z t v : Int} {u1 u2 u3 u4 u5 : Tok} {n : Nat} {sl : Array (Option Value)} (h : K.lookup a = some ⟨.type "tuple", od, .seq #[.int x u1, .int y u2, .int z u3, .int t u4, .int v u5] n, sl⟩) : ∀ F, Dp K F (.ref a) (ti [x, y, z, t, v]) := fun F =>
  .tup (xs := [.int x, .int y, .int z, .int t, .int v]) (.inr ⟨_, _, _, h, rfl, rfl, (by show 5 ≤ sizeLine; decide), .cons ⟨_, rfl⟩ (.cons ⟨_, rfl⟩ (.cons ⟨_, rfl⟩ (.cons ⟨_, rfl⟩ (.cons ⟨_, rfl⟩ .nil))))⟩) (da_of_ints [x, y, z, t, v])
/-! ### powers modulo an integer -/
def pmS (m : Int) (s : Int × Int × Int) : Int × Int × Int := (if s.2.2 % 2 = 0 then s.1 else s.1 * s.2.1 % m, s.2.1 * s.2.1 % m, s.2.2 / 2)
def pmK (m : Int) (s : Int × Int × Int) : Nat → Int × Int × Int
  | 0 => s
  | k + 1 => pmS m (pmK m s k)
def bitsN (n : Nat) : Nat := if n = 0 then 0 else n.log2 + 1
def powF (m b e : Int) : Int := (pmK m (1, b, e) (bitsN e.toNat)).1
theorem pm_exp (m b : Int) (n : Nat) (f : Int) : ∀ k, (pmK m (f, b, (n : Int)) k).2.2 = ((n / 2 ^ k : Nat) : Int)
  | 0 => by show (n : Int) = _; simp
  | k + 1 => by
    show (pmK m (f, b, (n : Int)) k).2.2 / 2 = _
    rw [pm_exp m b n f k, Nat.pow_succ, ← Nat.div_div_eq_div_mul]
    try rfl
theorem bits_lo {n k : Nat} (h : k < bitsN n) : n / 2 ^ k ≠ 0 := by
  unfold bitsN at h
  by_cases z : n = 0
  · rw [if_pos z] at h; omega
  · rw [if_neg z] at h
    have : 2 ^ k ≤ n := Nat.le_trans (Nat.pow_le_pow_right (by decide) (by omega : k ≤ n.log2)) (Nat.log2_self_le z)
    have := Nat.div_pos this (Nat.pow_pos (by decide))
    omega
theorem bits_hi (n : Nat) : n / 2 ^ bitsN n = 0 := by
  unfold bitsN
  by_cases z : n = 0
  · rw [if_pos z, z]
  · rw [if_neg z]
    exact Nat.div_eq_of_lt ((Nat.log2_lt z).mp (Nat.lt_succ_self _))
theorem mod_bt {m x : Int} {n : Nat} (hm : 0 < m) (hb : Bt n m) : Bt n (x % m) := by
  have h1 := Int.emod_nonneg x (by omega : m ≠ 0)
  have h2 := Int.emod_lt_of_pos x hm
  unfold Bt at *
  omega
theorem pm_bt {m b e : Int} (hm : 0 < m) (hb : Bt 64 m) (h1 : Bt 64 b) : ∀ k, Bt 64 (pmK m (1, b, e) k).1 ∧ Bt 64 (pmK m (1, b, e) k).2.1
  | 0 => ⟨by show (1 : Int).natAbs < 2 ^ 64; decide, h1⟩
  | k + 1 => by
    obtain ⟨p, q⟩ := pm_bt hm hb h1 k
    refine ⟨?_, mod_bt hm hb⟩
    show Bt 64 (if _ then _ else _)
    split
    · exact p
    · exact mod_bt hm hb
def R_powm : List D → Out → Prop := fun ds o => ∃ b e m : Int, ds = [.int b, .int e, .int m] ∧ 0 ≤ e ∧ 0 < m ∧ Bt 64 m ∧ Bt 64 b ∧ o = .v (.int (powF m b e))
/-! ### the test of primes -/
def tzF : Nat → Nat → Nat
  | 0, _ => 0
  | f + 1, n => if n % 2 = 0 then tzF f (n / 2) + 1 else 0
theorem tz_ok : ∀ f n, 0 < n → n < 2 ^ f → (∀ k, k < tzF f n → n / 2 ^ k % 2 = 0) ∧ n / 2 ^ tzF f n % 2 = 1
  | 0, n, h, h2 => by simp at h2; omega
  | f + 1, n, h, h2 => by
    unfold tzF
    by_cases e : n % 2 = 0
    · rw [if_pos e]
      obtain ⟨p, q⟩ := tz_ok f (n / 2) (by omega) (by rw [Nat.pow_succ] at h2; omega)
      refine ⟨fun k hk => ?_, ?_⟩
      · cases k with
        | zero => simpa using e
        | succ k =>
          have := p k (by omega)
          rw [Nat.div_div_eq_div_mul, Nat.mul_comm, ← Nat.pow_succ] at this
          exact this
      · rw [Nat.div_div_eq_div_mul, Nat.mul_comm, ← Nat.pow_succ] at q
        exact q
    · rw [if_neg e]
      refine ⟨fun k hk => by omega, ?_⟩
      simp
      omega
def sqK (m p : Int) : Nat → Int
  | 0 => p
  | k + 1 => sqK m p k * sqK m p k % m
def passF (v b : Int) : Bool :=
  let s := tzF 64 (v - 1).toNat
  let p := powF v b ((((v - 1).toNat / 2 ^ s : Nat)) : Int)
  decide (p = 1) || (match (List.range s).find? (fun k => decide (sqK v p k = v - 1)) with | some _ => true | none => false)
def basesL : List Int := [2, 3, 5, 7, 11]
def isPrimeF (v : Int) : Bool := if 2 ≤ v ∧ v ≤ 1000000000000 then (match (List.range 5).find? (fun k => decide (v % basesL.getD k 0 = 0)) with | some k => decide (v = basesL.getD k 0) | none => basesL.all (passF v)) else false
def R_pass : List D → Out → Prop := fun ds o => ∃ v b : Int, ds = [.int v, .int b] ∧ 2 ≤ v ∧ v ≤ 1000000000000 ∧ Bt 64 b ∧ o = .v (.bool (passF v b))
def R_isp : List D → Out → Prop := fun ds o => ∃ v : Int, ds = [.int v] ∧ o = .v (.bool (isPrimeF v))
theorem sq_bt {m p : Int} (hm : 0 < m) (hb : Bt 64 m) (hp : Bt 64 p) : ∀ k, Bt 64 (sqK m p k)
  | 0 => hp
  | k + 1 => mod_bt hm hb
theorem powF_bt {m b e : Int} (hm : 0 < m) (hb : Bt 64 m) (h1 : Bt 64 b) : Bt 64 (powF m b e) := (pm_bt hm hb h1 _).1
section
variable {X : Cx} {W : WX} {F0 H0 : Hp} {Γ : List S} {e : Expr} {pos : Pos}
/-- n op= e, ints -/
theorem js_augI {op : Operator} {g : Int → Int → Int} {C : Int → Int → Prop} (ho : OpR X (inplaceOp op) (rI C fun i j => .int (g i j))) (i : Nat) {n : Str} {pos' : Pos} {k l : Int} (hc : C k l) (gs : Γ[i]? = some (.d (.int k))) (hN : X.N.Nodup) (he : JE X W F0 H0 Γ e (.v (.int l))) (hi : X.N[i]? = some n := by rfl) (hx : Loc X.env.scope n := by first | exact Or.inl rfl | exact Or.inr rfl) (hf : X.fn n = true ∨ X.env.scope.names.lookup n = some .local := by first | exact .inl rfl | exact .inr rfl) :
    JS X W F0 H0 Γ (.AugAssign (.Name n pos') op e pos) (.nx (Γ.set i (.d (.int (g k l))))) :=
  ps_imp (ps_aug hN hi hx he ho hf) fun D' σ H ⟨F, ok, q⟩ => by
    obtain ⟨v, e1, d1⟩ := ok.at gs
    cases d1
    exact ⟨_, e1, F, ok, fun v F' H' z d => by
      cases d
      exact ⟨k, l, rfl, rfl, hc, q _ F' H' z.f ((ok.mono z).set i (.int _))⟩⟩
theorem js_augFd (i : Nat) {n : Str} {pos' : Pos} {k l : Int} (hc : CDiv k l) (gs : Γ[i]? = some (.d (.int k))) (hN : X.N.Nodup) (he : JE X W F0 H0 Γ e (.v (.int l))) (hi : X.N[i]? = some n := by rfl) (hx : Loc X.env.scope n := by first | exact Or.inl rfl | exact Or.inr rfl) (hf : X.fn n = true ∨ X.env.scope.names.lookup n = some .local := by first | exact .inl rfl | exact .inr rfl) :
    JS X W F0 H0 Γ (.AugAssign (.Name n pos') .FloorDiv e pos) (.nx (Γ.set i (.d (.int (k / l))))) := js_augI iop_fdiv i hc gs hN he hi hx hf
theorem js_augMul (i : Nat) {n : Str} {pos' : Pos} {k l : Int} (hc : CMul k l) (gs : Γ[i]? = some (.d (.int k))) (hN : X.N.Nodup) (he : JE X W F0 H0 Γ e (.v (.int l))) (hi : X.N[i]? = some n := by rfl) (hx : Loc X.env.scope n := by first | exact Or.inl rfl | exact Or.inr rfl) (hf : X.fn n = true ∨ X.env.scope.names.lookup n = some .local := by first | exact .inl rfl | exact .inr rfl) :
    JS X W F0 H0 Γ (.AugAssign (.Name n pos') .Mult e pos) (.nx (Γ.set i (.d (.int (k * l))))) := js_augI iop_mul i hc gs hN he hi hx hf
end
theorem tz_le : ∀ f n, tzF f n ≤ f
  | 0, _ => Nat.le_refl _
  | f + 1, n => by
    unfold tzF
    split
    · have := tz_le f (n / 2); omega
    · omega
theorem base_pos {k : Nat} (h : k < basesL.length) : 0 < basesL.getD k 0 := by
  have h5 : k < 5 := h
  have : k = 0 ∨ k = 1 ∨ k = 2 ∨ k = 3 ∨ k = 4 := by omega
  rcases this with rfl | rfl | rfl | rfl | rfl <;> decide
theorem base_bt {b : Int} (h : b ∈ basesL) : Bt 64 b := by
  have : b = 2 ∨ b = 3 ∨ b = 5 ∨ b = 7 ∨ b = 11 := by simpa [basesL] using h
  rcases this with rfl | rfl | rfl | rfl | rfl <;> (unfold Bt; decide)
end TB

namespace TB
open PySem L2 PySem.Spec PyProof.Rows
/-! ### dicts of one's own: keys integers or texts, data behind them -/
def kD : Key → D
  | .inl i => .int i
  | .inr s => .str s
def dkO (kvs : List (Key × D)) : Own := .dk (kvs.map fun p => (p.1, .dat p.2))
def lookD (kvs : List (Key × D)) (k : Key) : Option D := (kvs.find? fun kv => decide (kv.1 = k)).map (·.2)
def putD (kvs : List (Key × D)) (k : Key) (d : D) : List (Key × D) := if (kvs.any fun kv => decide (kv.1 = k)) = true then kvs.map (fun kv => if kv.1 = k then (kv.1, d) else kv) else kvs ++ [(k, d)]
def KvD (K : PySem.W.Frag) (F : Hp) (acc : List (Key × V)) (kvs : List (Key × D)) : Prop := acc.map (·.1) = kvs.map (·.1) ∧ DpAll K F (acc.map (·.2)) (kvs.map (·.2))
section
variable {K : PySem.W.Frag} {F F' H : Hp}
theorem KvD.mono {acc : List (Key × V)} {kvs : List (Key × D)} (e : Ex F F') (h : KvD K F acc kvs) : KvD K F' acc kvs := ⟨h.1, da_ex e _ _ h.2⟩
theorem KvD.len {acc : List (Key × V)} {kvs : List (Key × D)} (h : KvD K F acc kvs) : acc.length = kvs.length := by
  have := congrArg List.length h.1
  simpa using this
theorem KvD.cons {a : Key × V} {b : Key × D} {acc : List (Key × V)} {kvs : List (Key × D)} (h : KvD K F (a :: acc) (b :: kvs)) : a.1 = b.1 ∧ Dp K F a.2 b.2 ∧ KvD K F acc kvs := by
  obtain ⟨h1, h2⟩ := h
  simp only [List.map_cons, List.cons.injEq] at h1
  cases h2 with
  | cons p q => exact ⟨h1.1, p, h1.2, q⟩
theorem KvD.mk {a : Key × V} {b : Key × D} {acc : List (Key × V)} {kvs : List (Key × D)} (h1 : a.1 = b.1) (h2 : Dp K F a.2 b.2) (h3 : KvD K F acc kvs) : KvD K F (a :: acc) (b :: kvs) :=
  ⟨by simp only [List.map_cons, List.cons.injEq]; exact ⟨h1, h3.1⟩, .cons h2 h3.2⟩
theorem KvD.nil : KvD K F [] [] := ⟨rfl, .nil⟩
theorem KvD.look (k : Key) : ∀ {acc : List (Key × V)} {kvs : List (Key × D)}, KvD K F acc kvs → match lookD kvs k with
    | some d => ∃ v, valV acc k = some v ∧ Dp K F v d
    | none => valV acc k = none
  | [], [], _ => rfl
  | [], b :: kvs, h => by have := h.len; simp at this
  | a :: acc, [], h => by have := h.len; simp at this
  | a :: acc, b :: kvs, h => by
    obtain ⟨h1, h2, h3⟩ := h.cons
    by_cases e : b.1 = k
    · have l : lookD (b :: kvs) k = some b.2 := by simp [lookD, List.find?_cons, e]
      rw [l]
      exact ⟨a.2, valV_pos (h1.trans e), h2⟩
    · have l : lookD (b :: kvs) k = lookD kvs k := by simp [lookD, List.find?_cons, e]
      rw [l, valV_neg (fun q => e (h1.symm.trans q))]
      exact KvD.look k h3
theorem KvD.app : ∀ {acc : List (Key × V)} {kvs : List (Key × D)} {a : Key × V} {b : Key × D}, KvD K F acc kvs → a.1 = b.1 → Dp K F a.2 b.2 → KvD K F (acc ++ [a]) (kvs ++ [b])
  | [], [], _, _, _, h1, h2 => KvD.mk h1 h2 KvD.nil
  | [], b :: kvs, _, _, h, _, _ => by have := h.len; simp at this
  | a :: acc, [], _, _, h, _, _ => by have := h.len; simp at this
  | a :: acc, b :: kvs, _, _, h, g1, g2 => by
    obtain ⟨h1, h2, h3⟩ := h.cons
    exact KvD.mk h1 h2 (KvD.app h3 g1 g2)
theorem KvD.any (k : Key) : ∀ {acc : List (Key × V)} {kvs : List (Key × D)}, KvD K F acc kvs → (acc.any fun kv => decide (kv.1 = k)) = (kvs.any fun kv => decide (kv.1 = k))
  | [], [], _ => rfl
  | [], b :: kvs, h => by have := h.len; simp at this
  | a :: acc, [], h => by have := h.len; simp at this
  | a :: acc, b :: kvs, h => by
    obtain ⟨h1, h2, h3⟩ := h.cons
    rw [List.any_cons, List.any_cons, KvD.any k h3, h1]
theorem KvD.repl (k : Key) {v : V} {d : D} (hd : Dp K F v d) : ∀ {acc : List (Key × V)} {kvs : List (Key × D)}, KvD K F acc kvs → KvD K F (acc.map fun kv => if kv.1 = k then (kv.1, v) else kv) (kvs.map fun kv => if kv.1 = k then (kv.1, d) else kv)
  | [], [], _ => KvD.nil
  | [], b :: kvs, h => by have := h.len; simp at this
  | a :: acc, [], h => by have := h.len; simp at this
  | a :: acc, b :: kvs, h => by
    obtain ⟨h1, h2, h3⟩ := h.cons
    rw [List.map_cons, List.map_cons]
    by_cases e : b.1 = k
    · rw [if_pos (h1.trans e), if_pos e]
      exact KvD.mk h1 hd (KvD.repl k hd h3)
    · rw [if_neg (fun q => e (h1.symm.trans q)), if_neg e]
      exact KvD.mk h1 h2 (KvD.repl k hd h3)
theorem KvD.put {acc : List (Key × V)} {kvs : List (Key × D)} {k : Key} {v : V} {d : D} (h : KvD K F acc kvs) (hd : Dp K F v d) : KvD K F (putK acc k v) (putD kvs k d) := by
  unfold putK putD
  rw [h.any k]
  split
  · exact KvD.repl k hd h
  · exact KvD.app h rfl hd
theorem dk_inv {kvs : List (Key × D)} {v : V} {fp : List Addr} (h : OA K F H (dkO kvs) v fp) : ∃ p acc, v = .ref p ∧ H p = some (.dK acc) ∧ KvD K F acc kvs ∧ fp = [p] := by
  unfold dkO at h
  cases h with
  | dk e hk l =>
    rw [show (kvs.map fun p => (p.1, Own.dat p.2)).map (·.2) = (kvs.map (·.2)).map .dat by rw [List.map_map, List.map_map]; rfl] at l
    obtain ⟨d, rfl⟩ := dat_ol l
    rw [show (kvs.map fun p => (p.1, Own.dat p.2)).map (·.1) = kvs.map (·.1) by rw [List.map_map]; rfl] at hk
    exact ⟨_, _, rfl, e, ⟨hk, d⟩, rfl⟩
theorem dk_oa {kvs : List (Key × D)} {p : Addr} {acc : List (Key × V)} (e : H p = some (.dK acc)) (h : KvD K F acc kvs) : OA K F H (dkO kvs) (.ref p) [p] := by
  have l : OL K F H ((kvs.map (·.2)).map .dat) (acc.map (·.2)) [] := ol_dat h.2
  have := OA.dk (os := kvs.map fun p => (p.1, Own.dat p.2)) e (by rw [h.1, List.map_map]; rfl) (by rw [List.map_map]; rw [List.map_map] at l; exact l)
  exact this
end
section
variable {K : PySem.W.Frag} {F0 H0 : Hp} {Γ : List S} {W : WX}
end
section
variable {X : Cx} {W : WX} {F0 H0 : Hp} {Γ : List S} {kx vx tg it : Expr} {pos : Pos} {scope : Scope} {α : Type} {xs : List α} {enc : α → D} {fk : α → Key} {fv : α → D} {own : List (Str × Nat)}
end
section
variable {K : PySem.W.Frag} {F0 H0 F H : Hp} {σ : L2.St} {Γ : List S}
theorem kd_v {u : V} {k : Key} (h : Dp K F u (kD k)) : u = kV k := by
  cases k with
  | inl i => cases h; rfl
  | inr s => cases h; rfl
theorem Ok.dict (ok : Ok K F0 H0 F σ H Γ) {i : Nat} {kvs : List (Key × D)} (g : Γ[i]? = some (.q (dkO kvs))) : ∃ p acc, σ[i]? = some (some (.ref p)) ∧ H p = some (.dK acc) ∧ F p = none ∧ H0 p = none ∧ KvD K F acc kvs := by
  obtain ⟨v, fp, e1, e2, e3, e4⟩ := ok.tree g
  obtain ⟨p, acc, rfl, h1, h2, rfl⟩ := dk_inv e2
  exact ⟨p, acc, e1, h1, (e4 p (by simp)).1, (e4 p (by simp)).2, h2⟩
theorem Ok.dwrite (h : Ok K F0 H0 F σ H Γ) {i : Nat} {kvs kvs' : List (Key × D)} {p : Addr} {acc : List (Key × V)} (e : Γ[i]? = some (.q (dkO kvs))) (hs : σ[i]? = some (some (.ref p))) (hf : F p = none) (h0 : H0 p = none) (hd : KvD K F acc kvs') :
    Ok K F0 H0 F σ (upd H p (.dK acc)) (Γ.set i (.q (dkO kvs'))) := by
  obtain ⟨fps, hF⟩ := h
  obtain ⟨fp, ef⟩ := hF.fp e
  have q := hF.sl i _ _ e ef
  rw [hs] at q
  obtain ⟨q1, q2, q3⟩ := q
  obtain ⟨p', xs, e1, e2, e3, e6⟩ := dk_inv q1
  cases e1
  subst e6
  have hi : i < Γ.length := (List.getElem?_eq_some_iff.mp e).1
  have := Ok.rewrite (F' := F) (H' := upd H p (.dK acc)) (s' := .q (dkO kvs')) (o := some (.ref p)) (fp' := [p]) ⟨fps, hF⟩ hF e ef (Ex.refl _) (fun a u m k => by rw [upd_ne (fun z => m (List.mem_singleton.mpr z))]; exact k) (fun a u _ k _ _ => k)
    (fun a u k => by
      rw [upd_ne (ne_of_none k hf)]
      exact hF.base.s a u k) ⟨dk_oa upd_same hd, by simp, fun a ha => by
        rw [List.mem_singleton] at ha
        subst ha
        exact ⟨hf, h0⟩⟩ (fun a m => .inl m)
  have sg : σ.set i (some (.ref p)) = σ := by
    apply List.ext_getElem?
    intro k
    by_cases hk : i = k
    · subst hk
      rw [List.getElem?_set_self (by rw [hF.len]; exact hi), hs]
    · rw [List.getElem?_set_ne hk]
  rw [sg] at this
  exact this
end
section
variable {X : Cx} {W : WX} {F0 H0 : Hp} {Γ : List S} {b e : Expr} {pos : Pos} {kvs : List (Key × D)} {key : Key} {d x : D}
theorem je_dNew : JE X W F0 H0 Γ (.Dict [] [] pos) (.q (dkO [])) := pe_imp pe_dnewK fun σ H Q ⟨F, ok, q⟩ p hp =>
  q (.ref p) [p] F _ (Fz.fresh ok.fh hp) (dk_oa upd_same KvD.nil) (by simp) fun a ha => by
    rw [List.mem_singleton] at ha
    subst ha
    exact ⟨hp, ok.fh.none hp⟩
theorem je_dIx (i : Nat) {n : Str} {q2 : Pos} (hu : X.A.units + 1 < cLine) (g : Γ[i]? = some (.q (dkO kvs))) (h : lookD kvs key = some d) (hb : JE X W F0 H0 Γ b (.v (kD key))) (hs : NoSl b := by exact fun _ _ => rfl) (hN : X.N[i]? = some n := by rfl) (hv : Vis X.env.scope n := by first | exact Or.inl rfl | exact Or.inr (Or.inl rfl) | exact Or.inr (Or.inr rfl)) (hd : (n == ("__debug__" : Str)) = false := by decide) (hcd : (n == ("__classdict__" : Str)) = false := by decide) :
    JE X W F0 H0 Γ (.Subscript (.Name n q2) b pos) (.v d) :=
  pe_imp (pe_dget hu (pe_var hN hv hd hcd) hb hs) fun σ H Q ⟨F, ok, q⟩ => by
    obtain ⟨p, acc, e1, e2, e3, e4, e5⟩ := ok.dict g
    refine ⟨_, e1, F, ok, fun u F2 H2 z2 d2 => ?_⟩
    have l := (e5.mono z2.f).look key
    rw [h] at l
    obtain ⟨v, hv, dv⟩ := l
    have eu := kd_v d2
    subst eu
    refine ⟨p, v, rfl, ?_, q v F2 H2 z2 dv⟩
    rw [← hv]
    exact DGet.k (z2.h _ _ e2)
theorem jt_dIn (i : Nat) {n : Str} {q2 : Pos} (hu : X.A.units + 1 < cLine) (g : Γ[i]? = some (.q (dkO kvs))) (hb : JE X WF F0 H0 Γ b (.v (kD key))) (hN : X.N[i]? = some n := by rfl) (hv : Vis X.env.scope n := by first | exact Or.inl rfl | exact Or.inr (Or.inl rfl) | exact Or.inr (Or.inr rfl)) (hd : (n == ("__debug__" : Str)) = false := by decide) (hcd : (n == ("__classdict__" : Str)) = false := by decide) (hm : behindInMarks .In (.Name n q2) = false := by first | exact nobehind _ (by decide) (by decide) | rfl) :
    JT X F0 H0 Γ (.Compare b [.In] [.Name n q2] pos) (lookD kvs key).isSome :=
  pt_imp (pt_cmp (pc_din hu hb (pe_var hN hv hd hcd)) hm) fun σ H Q ⟨F, ok, q⟩ => ⟨F, ok, fun u F2 H2 z2 d2 => by
    obtain ⟨p, acc, e1, e2, e3, e4, e5⟩ := (ok.mono z2).dict g
    have eu := kd_v d2
    subst eu
    have l := e5.look key
    refine ⟨_, e1, p, valV acc key, rfl, DGet.k e2, _, rfl, ?_⟩
    have : (valV acc key).isSome = (lookD kvs key).isSome := by
      cases h : lookD kvs key with
      | none => rw [h] at l; rw [l]; rfl
      | some d => rw [h] at l; obtain ⟨v, hv, _⟩ := l; rw [hv]; rfl
    rw [this]
    exact q F2 H2 z2⟩
/-- d[k] = e -/
theorem js_dSet (i : Nat) {n : Str} {np sp : Pos} (hu : X.A.units + 1 < cLine) (g : Γ[i]? = some (.q (dkO kvs))) (hl : kvs.length < 100000) (he : JE X W F0 H0 Γ e (.v x)) (hb : JE X W F0 H0 Γ b (.v (kD key))) (hN : X.N[i]? = some n := by rfl) (hv : Vis X.env.scope n := by first | exact Or.inl rfl | exact Or.inr (Or.inl rfl) | exact Or.inr (Or.inr rfl)) (hd : (n == ("__debug__" : Str)) = false := by decide) (hcd : (n == ("__classdict__" : Str)) = false := by decide)
    (hs : swapsWith e (some (.Subscript (.Name n np) b sp)) pos.line X.env = pure false := by rfl) :
    JS X W F0 H0 Γ (.Assign [.Subscript (.Name n np) b sp] e pos) (.nx (Γ.set i (.q (dkO (putD kvs key x))))) :=
  ps_imp (ps_dput hu (pe_var hN hv hd hcd) hb he hs) fun D' σ H ⟨F, ok, q⟩ => ⟨F, ok, fun v F1 H1 z1 d1 => by
    obtain ⟨p, acc, e1, e2, e3, e4, e5⟩ := (ok.mono z1).dict g
    refine ⟨_, e1, F1, ok.mono z1, fun u F2 H2 z2 d2 => ?_⟩
    have eu := kd_v d2
    subst eu
    refine ⟨p, _, rfl, DPut.k (z2.h _ _ e2) (by rw [e5.len]; exact Nat.lt_of_lt_of_le hl (by decide)), ?_⟩
    exact q σ F2 _ (z1.f.trans z2.f) (((ok.mono z1).mono z2).dwrite g e1 (z2.n _ _ e3 e2) e4 ((e5.mono z2.f).put (dp_ex z2.f _ _ d1)))⟩
end
end TB

namespace TB
open PySem L2 PySem.Spec PyProof.Rows
/-! ### dicts from integers to integers -/
def dkI (kvs : List (Int × Int)) : List (Key × D) := kvs.map fun p => (.inl p.1, .int p.2)
def lookI (kvs : List (Int × Int)) (k : Int) : Option Int := (kvs.find? fun kv => decide (kv.1 = k)).map (·.2)
def putI (kvs : List (Int × Int)) (k v : Int) : List (Int × Int) := if (kvs.any fun kv => decide (kv.1 = k)) = true then kvs.map (fun kv => if kv.1 = k then (kv.1, v) else kv) else kvs ++ [(k, v)]
theorem look_dkI (k : Int) : ∀ kvs : List (Int × Int), lookD (dkI kvs) (.inl k) = (lookI kvs k).map .int
  | [] => rfl
  | p :: kvs => by
    have h := look_dkI k kvs
    unfold lookD lookI dkI at *
    rw [List.map_cons, List.find?_cons, List.find?_cons]
    by_cases e : p.1 = k
    · simp [e]
    · simp only [Sum.inl.injEq, e, decide_false]
      exact h
theorem any_dkI (k : Int) : ∀ kvs : List (Int × Int), ((dkI kvs).any fun kv => decide (kv.1 = .inl k)) = (kvs.any fun kv => decide (kv.1 = k))
  | [] => rfl
  | p :: kvs => by
    have h := any_dkI k kvs
    unfold dkI at *
    rw [List.map_cons, List.any_cons, List.any_cons, h]
    simp
theorem put_dkI (kvs : List (Int × Int)) (k v : Int) : putD (dkI kvs) (.inl k) (.int v) = dkI (putI kvs k v) := by
  unfold putD putI
  rw [any_dkI]
  split
  · unfold dkI
    rw [List.map_map, List.map_map]
    refine List.map_congr_left fun p _ => ?_
    show (if (Sum.inl p.1 : Key) = Sum.inl k then ((Sum.inl p.1 : Key), PyData.int v) else (Sum.inl p.1, PyData.int p.2)) = (fun q : Int × Int => ((Sum.inl q.1 : Key), PyData.int q.2)) (if p.1 = k then (p.1, v) else p)
    by_cases e : p.1 = k
    · rw [if_pos (congrArg _ e), if_pos e]
    · rw [if_neg (fun h => e (Sum.inl.inj h)), if_neg e]
  · unfold dkI
    rw [List.map_append]
    rfl
/-! ### roots modulo a prime -/
def oddP (v most : Int) : Bool := !(decide (v % 2 = 0) || decide (most < v) || !isPrimeF v)
def R_codd (q : Addr) : List D → Out → Prop := fun ds o => ∃ v m : Int, ds = [.int v, .int m] ∧ o = if oddP v m = true then .v .none else .x q
def smallP : List Int := [3, 5, 7, 11, 13, 17, 19, 23, 29, 31, 37, 41, 43]
def beqLL (a b : List (List Int)) : Bool := decide (a = b)
theorem u1 {n m : Nat} (h : n + 64 < m) : n + 1 < m := by omega
theorem getD_memI {xs : List Int} {k : Nat} (h : k < xs.length) : xs.getD k 0 ∈ xs := by
  rw [List.getD_eq_getElem?_getD, List.getElem?_eq_getElem h]
  exact List.getElem_mem h
end TB

namespace TB
open PySem L2 PySem.Spec PyProof.Rows
/-! ### tables modulo a prime -/
end TB

namespace TB
open PySem L2 PySem.Spec PyProof.Rows
section
variable {X : Cx} {W : WX} {F0 H0 : Hp} {Γ : List S} {a b c : Expr} {pos : Pos} {i j k : Int}
/-- a <= b < c, integers -/
theorem jt_leLt (ha : JE X WF F0 H0 Γ a (.v (.int i))) (hb : JE X WF F0 H0 Γ b (.v (.int j))) (hc : JE X WF F0 H0 Γ c (.v (.int k))) (hm : lastMarks [.LtE, .Lt] [b, c] = false := by with_unfolding_all rfl) : JT X F0 H0 Γ (.Compare a [.LtE, .Lt] [b, c] pos) (decide (i ≤ j) && decide (j < k)) :=
  pt_imp (pt_chain op_le op_lt ha hb hc hm) fun σ H Q ⟨F, ok, q⟩ => ⟨F, ok, fun v F1 H1 z1 d1 => ⟨F1, ok.mono z1, fun u F2 H2 z2 d2 => by
    cases d1
    cases d2
    refine ⟨i, j, rfl, rfl, decide (i ≤ j), rfl, ?_⟩
    by_cases h : i ≤ j
    · rw [decide_eq_true h] at q ⊢
      rw [if_pos rfl]
      refine ⟨F2, (ok.mono z1).mono z2, fun w F3 H3 z3 d3 => ?_⟩
      cases d3
      exact ⟨j, k, rfl, rfl, _, rfl, q F3 H3 ((z1.trans z2).trans z3)⟩
    · rw [decide_eq_false h] at q ⊢
      rw [if_neg Bool.false_ne_true]
      exact ⟨_, rfl, q F2 H2 (z1.trans z2)⟩⟩⟩
end
/-! ### promises about tables -/
theorem SeqAll.two {es : List D} {p q : List Int} (h : SeqAll es [p, q]) : ∃ d1 d2, es = [d1, d2] ∧ Seq d1 p ∧ Seq d2 q := by
  cases h with
  | cons h1 h =>
    cases h with
    | cons h2 h =>
      cases h
      exact ⟨_, _, rfl, h1, h2⟩
end TB

namespace TB
open PySem L2 PySem.Spec PyProof.Rows PySem.Calls
/-! ### x in range(a, b, c) -/
section
variable {X : Cx} {F0 H0 : Hp} {Γ : List S} {W : WX} {x e1 e2 e3 : Expr} {i a b c : Int} {pos rpos np : Pos}
end
end TB

namespace TB
open PySem L2 PySem.Spec PyProof.Rows
section
variable {X : Cx} {W : WX} {F0 H0 : Hp} {Γ : List S} {a : Expr} {ds : List D} {x : D} {pos : Pos} {n : Str}
end
/-! ### the law's own canonical numbers -/
def lcanL (x : List Int) : List Int := mxL (unitsL.map fun u => mulL x u)
def lpD (p a b c : Int) (F : List (List Int)) (d : Nat) : List (List Int) :=
  if (0 + (d : Int)) * (0 + (d : Int)) = p - a * a - b * b - c * c then (if (F.any fun z => decide (z = lcanL [2 * a, 2 * b, 2 * c, 2 * (0 + (d : Int))])) = true then F else F ++ [lcanL [2 * a, 2 * b, 2 * c, 2 * (0 + (d : Int))]]) else F
def lpC (p : Int) (m : Nat) (a b : Int) (F : List (List Int)) (j : Nat) : List (List Int) := (List.range (m + 1)).foldl (lpD p a b (-(m : Int) + (j : Int))) F
def lpB (p : Int) (m : Nat) (a : Int) (F : List (List Int)) (j : Nat) : List (List Int) := (List.range (2 * m + 1)).foldl (lpC p m a (-(m : Int) + (j : Int))) F
def lpA (p : Int) (m : Nat) (F : List (List Int)) (i : Nat) : List (List Int) := (List.range (2 * m + 1)).foldl (lpB p m (0 + (i : Int))) F
def msK (p : Int) : Nat → Nat
  | 0 => 0
  | k + 1 => if (0 + (k : Int) + 1) * (0 + (k : Int) + 1) ≤ p then k + 1 else msK p k
def lpAll (p : Int) : List (List Int) := (List.range (msK p 40 + 1)).foldl (lpA p (msK p 40)) []
def lprimes (p : Int) : List (List Int) := sortLL (lpAll p)
theorem rng_lt {n k a : Nat} (h : (List.range n)[k]? = some a) : a < n := by
  have hk := (List.getElem?_eq_some_iff.mp h).1
  rw [List.length_range] at hk
  rw [List.getElem?_range hk] at h
  cases h
  exact hk
/-! ### the law's units, in another order -/
theorem u65 {k : Nat} {A : Around} (r : Room k A) : A.units + 65 < cLine := by have := r.un; omega
end TB

namespace TB
open PySem L2 PySem.Spec PyProof.Rows
/-! ### factors that are drawn -/
/-! sorting by insertion, which the kernel reckons -/
def insL (x : List Int) : List (List Int) → List (List Int)
  | [] => [x]
  | y :: ys => if x ≤ y then x :: y :: ys else y :: insL x ys
def isortL (xs : List (List Int)) : List (List Int) := xs.foldr insL []
theorem ins_perm (x : List Int) : ∀ ys, (insL x ys).Perm (x :: ys)
  | [] => List.Perm.refl _
  | y :: ys => by
    unfold insL
    split
    · exact List.Perm.refl _
    · exact ((ins_perm x ys).cons y).trans (List.Perm.swap x y ys)
theorem isort_perm : ∀ xs, (isortL xs).Perm xs
  | [] => List.Perm.refl _
  | x :: xs => (ins_perm x (isortL xs)).trans ((isort_perm xs).cons x)
theorem ins_asc (x : List Int) : ∀ ys, ys.Pairwise (fun a b => a ≤ b) → (insL x ys).Pairwise (fun a b => a ≤ b)
  | [], _ => List.pairwise_singleton _ _
  | y :: ys, h => by
    obtain ⟨h1, h2⟩ := List.pairwise_cons.mp h
    unfold insL
    split
    · rename_i c
      refine List.pairwise_cons.mpr ⟨fun z hz => ?_, h⟩
      rcases List.mem_cons.mp hz with rfl | hz
      · exact c
      · exact List.le_trans c (h1 z hz)
    · rename_i c
      have c' : y ≤ x := (List.le_total x y).resolve_left c
      refine List.pairwise_cons.mpr ⟨fun z hz => ?_, ins_asc x ys h2⟩
      rcases List.mem_cons.mp ((ins_perm x ys).mem_iff.mp hz) with rfl | hz
      · exact c'
      · exact h1 z hz
theorem isort_asc : ∀ xs, (isortL xs).Pairwise (fun a b => a ≤ b)
  | [] => List.Pairwise.nil
  | x :: xs => ins_asc x _ (isort_asc xs)
theorem sort_ins (xs : List (List Int)) : sortLL xs = isortL xs := sort_to (isort_perm xs) (isort_asc xs)
def lprV (p : Int) : List (List Int) := isortL (lpAll p)
theorem lpr_V (p : Int) : lprimes p = lprV p := sort_ins _
def prOk (p : Int) : Bool := decide (0 ≤ p) && decide (p ≤ 48) && decide ((lprV p).length ≠ 0) && (lprV p).all (fun x => isNum x && decide (normL x = p) && decide (lcanL x = x) && x.all fun z => decide (z.natAbs < 100))
theorem getD_memL {xs : List (List Int)} {k : Nat} (h : k < xs.length) : xs.getD k [] ∈ xs := by
  rw [List.getD_eq_getElem?_getD, List.getElem?_eq_getElem h]
  exact List.getElem_mem h
def prodL (xs : List (List Int)) : List Int := xs.foldl mulL [2, 0, 0, 0]
end TB

namespace TB
open PySem L2 PySem.Spec PyProof.Rows
/-! ### an own list goes to another name; an own list at the right of != -/
section
variable {K : PySem.W.Frag} {F0 H0 F H : Hp} {σ : L2.St} {Γ : List S}
theorem Ok.mv (h : Ok K F0 H0 F σ H Γ) {i j : Nat} {ds : List D} (e : Γ[j]? = some (.own ds)) (hij : i ≠ j) : ∃ v, σ[j]? = some (some v) ∧ Ok K F0 H0 F (σ.set i (some v)) H ((Γ.set j .u).set i (.own ds)) := by
  obtain ⟨p, xs, e1, e2, e3, e4, e5⟩ := h.own e
  obtain ⟨fps, hF⟩ := h
  obtain ⟨fp, ef⟩ := hF.fp e
  have q := hF.sl j _ _ e ef
  rw [e1] at q
  obtain ⟨p', xs', q1, q2, q3, q4, q5, q6⟩ := q
  cases q1
  subst q6
  refine ⟨.ref p, e1, ?_⟩
  have hj : j < Γ.length := (List.getElem?_eq_some_iff.mp e).1
  have p1 := hF.put (o := some (.ref p)) j (s := .u) (fp := []) rfl (fun k g a _ m _ => by cases m)
  have sg : σ.set j (some (.ref p)) = σ := set_self e1
  rw [sg] at p1
  refine ⟨_, p1.put i (o := some (.ref p)) (s := .own ds) (fp := [p]) ⟨p, xs', rfl, q2, q3, q4, q5, rfl⟩ fun k g a eg m1 m2 => ?_⟩
  by_cases hk : j = k
  · subst hk
    rw [List.getElem?_set_self (by rw [hF.fl]; exact hj)] at eg
    cases eg
    cases m2
  · rw [List.getElem?_set_ne hk] at eg
    exact absurd (hF.dj j k _ _ a ef eg m1 m2) hk
end
section
variable {X : Cx} {W : WX} {F0 H0 : Hp} {Γ : List S} {b e : Expr} {ds : List D} {y : D} {pos np : Pos} {n : Str} {es : List Expr} {sp : Pos} {es2 : List D}
/-- m = n, n a list of one's own that nobody asks for again -/
theorem js_mv (i j : Nat) {m : Str} {pos' q2 : Pos} (g : Γ[j]? = some (.own ds)) (hij : i ≠ j) (hN : X.N.Nodup) (hNj : X.N[j]? = some n := by rfl) (hv : Vis X.env.scope n := by first | exact Or.inl rfl | exact Or.inr (Or.inl rfl) | exact Or.inr (Or.inr rfl)) (hd : (n == ("__debug__" : Str)) = false := by decide) (hcd : (n == ("__classdict__" : Str)) = false := by decide)
    (hi : X.N[i]? = some m := by rfl) (hx : Loc X.env.scope m := by first | exact Or.inl rfl | exact Or.inr rfl) (hs : swapsWith (.Name n q2) (some (.Name m pos')) pos.line X.env = pure false := by rfl) (hf : X.fn m = true ∨ X.env.scope.names.lookup m = some .local := by first | exact .inl rfl | exact .inr rfl) :
    JS X W F0 H0 Γ (.Assign [.Name m pos'] (.Name n q2) pos) (.nx ((Γ.set j .u).set i (.own ds))) :=
  ps_imp (ps_set hN hi hx (pe_var hNj hv hd hcd) hs hf) fun D' σ H ⟨F, ok, q⟩ => by
    obtain ⟨v, e1, ok'⟩ := ok.mv (i := i) g hij
    exact ⟨v, e1, q _ F H (Ex.refl _) ok'⟩
end
/-! ### numbers of the norms 2, 3, 5, 7 -/
theorem lcan_canon (x : List Int) : lcanL x = canonL x := canon_eq (mx_spec (ls := unitsL.map fun u => mulL x u) (by simp [unitsL])).1 (mx_spec (ls := unitsL.map fun u => mulL x u) (by simp [unitsL])).2
structure PF (x : List Int) : Prop where
  num : isNum x = true
  nrm : normL x = 2 ∨ normL x = 3 ∨ normL x = 5 ∨ normL x = 7
theorem PF.g {x : List Int} (h : PF x) : G 3 x := norm_G h.num (by rcases h.nrm with e | e | e | e <;> rw [e] <;> decide)
theorem PF.nz {x : List Int} (h : PF x) : zeroB x = false := by
  cases q : zeroB x with
  | false => rfl
  | true =>
    have e0 := zero_is h.num q
    have hn := h.nrm
    rw [e0, show normL [0, 0, 0, 0] = 0 from rfl] at hn
    omega
theorem PF.prime {x : List Int} (h : PF x) : isPrimeF (normL x) = true := by rcases h.nrm with e | e | e | e <;> rw [e] <;> decide
theorem PF.right {x u : List Int} (h : PF x) (hu : u ∈ unitsL) : PF (mulL x u) := ⟨num_mul h.num (u_num hu), by rw [norm_mul h.num (u_num hu), norm_unit hu, Int.mul_one]; exact h.nrm⟩
theorem PF.left {x u : List Int} (h : PF x) (hu : u ∈ unitsL) : PF (mulL u x) := ⟨num_mul (u_num hu) h.num, by rw [norm_mul (u_num hu) h.num, norm_unit hu, Int.one_mul]; exact h.nrm⟩
def ldivF (f n : List Int) : Option (List Int) :=
  let w := mulL (conjL f) n
  if (w.any fun z => decide (z % normL f ≠ 0)) = true then none
  else if ((quoL (normL f) w).any fun s => decide ((s - (quoL (normL f) w).getD 0 0) % 2 ≠ 0)) = true then none else some (quoL (normL f) w)
section
variable {X : Cx} {W : WX} {F0 H0 : Hp} {Γ : List S} {st : Stmt} {rest : List Stmt} {so : SO} {α : Type}
/-- a statement that leaves some value, told by what is true of it -/
theorem jss_ex (P : α → Prop) (G : α → List S) (h : ∃ a, P a ∧ JS X W F0 H0 Γ st (.nx (G a))) (k : ∀ a, P a → JSs X W F0 H0 (G a) rest so) : JSs X W F0 H0 Γ (st :: rest) so := by
  obtain ⟨a, pa, ja⟩ := h
  exact jss_cons ja (k a pa)
end
end TB

namespace TB
open PySem L2 PySem.Spec PyProof.Rows RZ
section
variable {X : Cx} {W : WX} {F0 H0 : Hp} {Γ : List S} {e it : Expr} {p2 p3 pos pos2 tp : Pos} {xs ys : List D} {kk : Nat} {elts : List Expr}
end
/-! ### lines modulo a prime -/
def lineF (p u v : Int) : List Int := if u ≠ 0 then [1, v * powF p u (p - 2) % p] else [0, 1]
def sixP : List Int := [3, 5, 7, 11, 13, 17]
/-! ### the law's primes up to 17 -/
theorem six_small {p : Int} (h : p ∈ sixP) : p ∈ smallP ∧ 3 ≤ p ∧ p ≤ 17 := by
  have : sixP.all (fun q => decide (q ∈ smallP) && decide (3 ≤ q) && decide (q ≤ 17)) = true := by decide
  have := List.all_eq_true.mp this p h
  simp only [Bool.and_eq_true] at this
  exact ⟨of_decide_eq_true this.1.1, of_decide_eq_true this.1.2, of_decide_eq_true this.2⟩
/-! ### products of drawn factors -/
theorem norm_ne_zero {x : List Int} (hn : isNum x = true) (h : normL x ≠ 0) : zeroB x = false := by
  cases q : zeroB x with
  | false => rfl
  | true =>
    have e0 := zero_is hn q
    rw [e0] at h
    exact absurd (by decide) h
end TB

namespace TB
open PySem L2 PySem.Spec PyProof.Rows
/-! ### dividing by a number of odd prime norm, by its line -/
end TB

namespace TB
open PySem L2 PySem.Spec PyProof.Rows
/-! ### the prime of a line -/
def isT (p : Int) (l : List Int) : List (List Int) → Bool
  | [[a, b], [c, d]] => if a ≠ 0 ∨ c ≠ 0 then decide (lineF p a c = l) else if b ≠ 0 ∨ d ≠ 0 then decide (lineF p b d = l) else false
  | _ => false
end TB
namespace TB
open PySem L2 PySem.Spec PyProof.Rows
end TB

namespace TB
open PySem L2
/-! ### a slice as a target -/
/-! ### more of a list of one's own: pop(k), insert(k, x) -/
section
variable {X : Cx} {W : WX} {F0 H0 : Hp} {Γ : List S} {e b : Expr} {n : Str} {np apos cpos pos : Pos} {ds : List D} {x : D}
end
end TB

namespace TB
open PySem L2
/-! ### a list of one's own is lent: as data for one expression whose value is an int, a bool or a tuple of ints -/
theorem Ok.frz2 {K : PySem.W.Frag} {F0 H0 F H : Hp} {σ : L2.St} {Γ : List S} (h : Ok K F0 H0 F σ H Γ) {i : Nat} {ds : List D} (e : Γ[i]? = some (.own ds)) : ∃ p xs, F p = none ∧ H p = some (.lst xs) ∧ Ok K F0 H0 (upd F p (.lst xs)) σ H (Γ.set i (.d (.list ds))) := by
  obtain ⟨p, xs, g1, g2, g3, g4, g5⟩ := h.own e
  obtain ⟨fps, hF⟩ := h
  obtain ⟨fp, ef⟩ := hF.fp e
  have q := hF.sl i _ _ e ef
  rw [g1] at q
  obtain ⟨p', xs', e1, e2, _, _, _, e6⟩ := q
  cases e1
  subst e6
  have hi : i < Γ.length := (List.getElem?_eq_some_iff.mp e).1
  obtain ⟨z1, z2⟩ := Fz.freeze hF.base.s g2 g3
  refine ⟨p, xs, g3, g2, ?_⟩
  have sg : σ.set i (some (.ref p)) = σ := by
    apply List.ext_getElem?
    intro k
    by_cases hk : i = k
    · subst hk
      rw [List.getElem?_set_self (by rw [hF.len]; exact hi), g1]
    · rw [List.getElem?_set_ne hk]
  -- the frozen object is new since H0
  refine ⟨fps.set i [], ⟨hF.base.f.trans z1, hF.base.h, z2, fun a o q1 q2 => ?_⟩, by rw [List.length_set]; exact hF.len, by rw [List.length_set, List.length_set]; exact hF.fl, fun j s f e1 e3 => ?_, fun j k f g a e1 e3 m1 m2 => ?_⟩
  · rw [upd_ne (ne_of_none q2 g4)]
    exact hF.base.n a o q1 q2
  · by_cases z : i = j
    · subst z
      rw [List.getElem?_set_self hi] at e1
      rw [List.getElem?_set_self (by rw [hF.fl]; exact hi)] at e3
      cases e1
      cases e3
      rw [g1]
      exact ⟨Dp.lst (SqL.of upd_same) (da_ex z1 _ _ g5), rfl⟩
    · rw [List.getElem?_set_ne z] at e1 e3
      have old := hF.sl j s f e1 e3
      have ne : ∀ a ∈ f, a ≠ p := fun a m w => by
        subst w
        exact z (hF.dj i j _ _ a ef e3 (List.mem_singleton.mpr rfl) m)
      cases s with
      | u => exact old
      | r v => exact old
      | d x =>
        cases ho : σ[j]? with
        | none => rw [ho] at old; exact old
        | some v =>
          cases v with
          | none => rw [ho] at old; exact old
          | some v => rw [ho] at old; exact ⟨dp_ex z1 _ _ old.1, old.2⟩
      | own es =>
        cases ho : σ[j]? with
        | none => rw [ho] at old; exact old
        | some v =>
          cases v with
          | none => rw [ho] at old; exact old
          | some v =>
            rw [ho] at old
            obtain ⟨p2, xs2, k1, k2, k3, k4, k5, k6⟩ := old
            exact ⟨p2, xs2, k1, k2, by rw [upd_ne (ne p2 (by rw [k6]; exact List.mem_singleton.mpr rfl))]; exact k3, k4, da_ex z1 _ _ k5, k6⟩
      | q t =>
        cases ho : σ[j]? with
        | none => rw [ho] at old; exact old
        | some v =>
          cases v with
          | none => rw [ho] at old; exact old
          | some v =>
            rw [ho] at old
            obtain ⟨k1, k2, k3⟩ := old
            exact ⟨oa_mono z1 k1 fun a m => rfl, k2, fun a m => ⟨by rw [upd_ne (ne a m)]; exact (k3 a m).1, (k3 a m).2⟩⟩
  · have key : ∀ {m : Nat} {f : List Addr}, (fps.set i [])[m]? = some f → a ∈ f → fps[m]? = some f := fun {m f} e ha => by
      by_cases q : i = m
      · subst q
        rw [List.getElem?_set_self (by rw [hF.fl]; exact hi)] at e
        cases e
        cases ha
      · rw [List.getElem?_set_ne q] at e
        exact e
    exact hF.dj j k f g a (key e1 m1) (key e3 m2) m1 m2
def thaw (F' : Hp) (p : Addr) : Hp := fun c => if c = p then none else F' c
theorem thaw_fz {F H F' H' : Hp} {p : Addr} {xs : List V} (f : F p = none) (hH : H p = some (.lst xs)) (z : Fz (upd F p (.lst xs)) H F' H') : Fz F H (thaw F' p) H' ∧ F' p = some (.lst xs) := by
  have hp : F' p = some (.lst xs) := z.f p _ upd_same
  refine ⟨⟨fun c o e => ?_, z.h, fun c o e => ?_, fun c o e1 e2 => ?_⟩, hp⟩
  · have hc : c ≠ p := fun q => by rw [q, f] at e; cases e
    show (if c = p then none else F' c) = _
    rw [if_neg hc]
    exact z.f c o (by rw [upd_ne hc]; exact e)
  · have e' : (if c = p then none else F' c) = some o := e
    split at e'
    · cases e'
    · exact z.s c o e'
  · show (if c = p then none else F' c) = none
    split
    · rfl
    · rename_i hc
      exact z.n c o (by rw [upd_ne hc]; exact e1) e2
section
variable {X : Cx} {W : WX} {F0 H0 : Hp} {Γ : List S} {e : Expr} {ds : List D}
end
end TB

namespace TB
open PySem L2 PySem.Spec PyProof.Rows
/-! ### factorings handed as lists of lists -/
theorem at_last {α : Type} {f : α → D} {xs : List α} {a : α} (h : 0 < xs.length) : atI (xs.map f) (-1) = some (f (xs.getD (xs.length - 1) a)) := by
  have hk : xs.length - 1 < xs.length := by omega
  unfold atI ixN
  rw [List.length_map, if_neg (by omega), if_pos (by omega)]
  show (xs.map f)[((-1 : Int) + (xs.length : Int)).toNat]? = _
  rw [show ((-1 : Int) + (xs.length : Int)).toNat = xs.length - 1 by omega, List.getElem?_map, List.getElem?_eq_getElem hk, List.getD_eq_getElem?_getD, List.getElem?_eq_getElem hk]
  rfl
end TB

namespace TB
open PySem L2 PySem.Spec PyProof.Rows
/-! ### k29: the norms that its factors may have -/
def nbase : List Int := [1, 2, 3, 5, 7]
def nlist : List Int := [4, 9] ++ (nbase.flatMap fun a => nbase.map fun b => a * b)
structure QF1 (x : List Int) : Prop where
  num : isNum x = true
  nrm : normL x ∈ nbase
structure QF (x : List Int) : Prop where
  num : isNum x = true
  nrm : normL x ∈ nlist
theorem nlist_lt {v : Int} (h : v ∈ nlist) : v < 64 := by
  have : nlist.all (fun v => decide (v < 64)) = true := by decide +kernel
  exact of_decide_eq_true (List.all_eq_true.mp this v h)
theorem QF.g {x : List Int} (h : QF x) : G 4 x := norm_G (n := 3) h.num (by have := nlist_lt h.nrm; exact this)
theorem QF1.q {x : List Int} (h : QF1 x) : QF x := ⟨h.num, by
  have : nbase.all (fun v => decide (v ∈ nlist)) = true := by decide +kernel
  exact of_decide_eq_true (List.all_eq_true.mp this _ h.nrm)⟩
theorem QF1.mul {x y : List Int} (hx : QF1 x) (hy : QF1 y) : QF (mulL x y) := ⟨num_mul hx.num hy.num, by
  rw [norm_mul hx.num hy.num]
  exact List.mem_append_right _ (List.mem_flatMap.mpr ⟨_, hx.nrm, List.mem_map.mpr ⟨_, hy.nrm, rfl⟩⟩)⟩
theorem PF.q1 {x : List Int} (h : PF x) : QF1 x := ⟨h.num, by
  rcases h.nrm with e | e | e | e <;> rw [e] <;> decide⟩
end TB

namespace TB
open PySem L2 PySem.Spec PyProof.Rows
/-! ### {elt for a in .. for b in .. for c in ..}, elt a tuple of ints -/
section
variable {X : Cx}
theorem addT {pins : List (Addr × Obj)} {σ : L2.St} {H : Hp} {s : Shared} {E : Value → Shared → Prop} {D x : Addr} {L : List (Addr × List Int)} {k : List Int} {Q : Value → Shared → Prop}
    (I : Inv X pins σ H s) (hu : X.A.units + 64 < cLine) (hD : H D = some (SetTO X.prog X.w D L)) (hL : ∀ p ∈ L, SqT X.K H p.1 (p.2.map V.int)) (hx : SqT X.K H x (k.map V.int)) (few : L.length + 1 < 64)
    (h : ∀ s' L', Inv X pins σ (upd H D (SetTO X.prog X.w D L')) s' → (k ∈ L.map (·.2) → L' = L) → (k ∉ L.map (·.2) → L'.Perm ((x, k) :: L)) → Q .none s') :
    wpAny (model X.prog X.w) X.A (call (.builtin "set.add") [.ref D, .ref x]) Q E s := by
  have R0 : SetT0 X.prog X.w s.heap D L := (I.hok D _ hD).1
  obtain ⟨es, ep, t, R⟩ := R0.full fun p hp => I.isT (hL p hp)
  obtain ⟨o, ho, hex, hd⟩ := R.ob
  have hT : s.TypeIs (.ref D) "set" := ⟨o, ho, hex.1⟩
  refine wpAny_call_entry F.slot_set_add hT F.entry_set_add ?_ (F.args_set_add_2 _ _)
  unfold Builtin.«set.add» Builtin.Frozenset.oneOther
  simp only [List.isEmpty_nil, bind_assoc]
  unfold Builtin.Frozenset.addrOf setAdd
  refine wpAny_bind (wpAny_pure ?_)
  try dsimp only
  refine wpAny_bind (wpAny_pure ?_)
  try dsimp only
  refine wpAny_bind ?_
  refine wpAny_holding ?_
  refine wpAny_bind (wpAny_pyHash_tuple (knd := intKind X.prog X.w) (by simp; omega) (I.isT hx) ?_)
  refine add_at (s := { s with toks := s.toks + (k.length + 1) }) R (I.isT hx) (by simp; omega) few fun b h' L' es' ep' t' hsb R2 c1 c2 => ?_
  show wpAny _ _ (ret Value.none) _ _ _
  refine wpAny_pure ⟨_, rfl, h _ L' ?_ c1 c2⟩
  have alive : ∃ u, h'.get? D = some u := by
    obtain ⟨u, hu, _⟩ := R2.ob
    exact ⟨u, hu⟩
  exact I.write (e := D) (t' := s.toks + (k.length + 1)) (by rw [hD]; trivial) (.inl rfl) (fun b u hb hu => (hsb.2 b hb).trans hu) alive (setTO_new R2.t0)
end

/-- known of the slots at all later times -/
def Tr (K : PySem.W.Frag) (F0 H0 F1 H1 F : Hp) (σ : L2.St) (Γ : List S) : Prop := ∀ F' H', Ex F F' → Fz F1 H1 F' H' → Ok K F0 H0 F' σ H' Γ
/-- the set at D has these -/
def SetSt (X : Cx) (F H : Hp) (D : Addr) (ls : List (List Int)) : Prop := ∃ L, H D = some (SetTO X.prog X.w D L) ∧ F D = none ∧ (∀ p ∈ L, SqT X.K F p.1 (p.2.map V.int)) ∧ (L.map (·.2)).Nodup ∧ L.length ≤ ls.length ∧ ∀ k, k ∈ L.map (·.2) ↔ k ∈ ls
theorem SetSt.mono {X : Cx} {F H F' H' : Hp} {D : Addr} {ls : List (List Int)} (h : SetSt X F H D ls) (z : Fz F H F' H') : SetSt X F' H' D ls := by
  obtain ⟨L, a1, a2, a3, a4⟩ := h
  exact ⟨L, z.h D _ a1, z.n D _ a2 a1, fun p hp => st_ex z.f (a3 p hp), a4⟩
/-- m puts these into the set -/
def DB (B : Cx) (F0 H0 F1 H1 : Hp) (D : Addr) (Γ : List S) (vs : List Nat) (m : Sem Unit) (ks : List (List Int)) : Prop :=
  ∀ pins s σ H F ls, Inv B pins σ H s → Fz F1 H1 F H → Tr B.K F0 H0 F1 H1 F σ Γ → SetSt B F H D ls → ls.length + ks.length < 64 →
    wpAny (model B.prog B.w) B.A m (fun _ s' => ∃ H' F', Inv B pins (L2.wipe σ vs) H' s' ∧ Ex F F' ∧ Fz F1 H1 F' H' ∧ SetSt B F' H' D (ls ++ ks)) (fun _ _ => False) s
section
variable {B : Cx} {F0 H0 F1 H1 : Hp} {D : Addr} {Γ : List S} {vs : List Nat}
theorem db_elt {elt : Expr} {k : List Int} (hu : B.A.units + 64 < cLine) (hxe : B.xe = fun _ _ => False) (nD : H1 D = none) (he : JE B WF F0 H0 Γ elt (.v (ti k))) :
    DB B F0 H0 F1 H1 D Γ [] (do let v ← eval elt B.env; standAt elt.pos; let _ ← call (.builtin "set.add") [.ref D, v]) [k] := by
  intro pins s σ H F ls I z tr st few
  have r := he.run pins s σ H (fun v H' => ∃ F', Fz F H F' H' ∧ Dp B.K F' v (ti k)) I ⟨F, tr F H (Ex.refl _) z, fun v F' H' z d => ⟨F', z, d⟩⟩
  rw [hxe] at r
  refine wpAny_bind (wpAny_mono r (fun u s1 h1 => ?_) fun _ _ h => h)
  obtain ⟨v, H2, I2, rv, F2, z2, d2⟩ := h1
  refine wpAny_bind (wpAny_standAt ?_)
  cases d2 with
  | tup h1 h2 =>
    have e := da_ints h2
    subst e
    obtain ⟨L, a1, a2, a3, a4, a5, a6⟩ := st.mono z2
    cases rv
    refine wpAny_bind (addT I2 hu a1 (fun p hp => st_ex z2.s (a3 p hp)) (st_ex z2.s h1) (by simp at few; omega) fun s' L' I' c1 c2 => wpAny_pure ?_)
    have zz := z.trans z2
    have key : ∀ q ∈ L', q ∈ L ∨ q.2 = k ∧ SqT B.K F2 q.1 (q.2.map V.int) := fun q hq => by
      by_cases hk : k ∈ L.map (·.2)
      · rw [c1 hk] at hq
        exact .inl hq
      · have := (c2 hk).mem_iff.mp hq
        rcases List.mem_cons.mp this with e | e
        · subst e
          exact .inr ⟨rfl, h1⟩
        · exact .inl e
    refine ⟨_, F2, I', z2.f, ⟨zz.f, fun c o hc => ?_, fun c o hc => ?_, zz.n⟩, L', upd_same, a2, fun p hp => ?_, ?_, ?_, fun q => ?_⟩
    · rw [upd_ne (ne_of_none hc nD)]
      exact zz.h c o hc
    · rw [upd_ne (ne_of_none hc a2)]
      exact zz.s c o hc
    · rcases key p hp with h | h
      · exact a3 p h
      · exact h.2
    · by_cases hk : k ∈ L.map (·.2)
      · rw [c1 hk]; exact a4
      · refine ((c2 hk).map (·.2)).nodup_iff.mpr ?_
        rw [List.map_cons]
        exact List.nodup_cons.mpr ⟨hk, a4⟩
    · by_cases hk : k ∈ L.map (·.2)
      · rw [c1 hk, List.length_append]; omega
      · rw [(c2 hk).length_eq, List.length_cons, List.length_append, List.length_singleton]; omega
    · rw [List.mem_append, List.mem_singleton, ← a6]
      by_cases hk : k ∈ L.map (·.2)
      · rw [c1 hk]
        exact ⟨.inl, fun h => h.elim id fun e => e ▸ hk⟩
      · rw [((c2 hk).map (·.2)).mem_iff, List.map_cons, List.mem_cons]
        exact Or.comm
/-- the loop of one clause -/
theorem loop_d {R : Result → Shared → Prop} {code : Code} {m : Sem Unit} {tg : Expr} {it : Addr} {fp : List Addr} {tn : Nat → Heap → Prop} {J : It} {i : Nat} {ds : List PyData} {ks : PyData → List (List Int)} {pins : List (Addr × Obj)} {s : Shared} {σ : L2.St} {H F : Hp} {ls : List (List Int)}
    (hl : ∀ (I : Nat → Shared → Prop), (∀ n s, I n s → wpAny (model B.prog B.w) B.A (pyNext (.ref it)) (fun r s₁ => match r with
        | none => R (.ok .next) s₁
        | some v => wpAny (model B.prog B.w) B.A (letOwnedTupleGo tg (.ref it) v) (fun _ s₁' => wpAny (model B.prog B.w) B.A (assign tg B.env v) (fun _ s₂ => wpAny (model B.prog B.w) B.A m (fun _ s₃ => ∃ k, k < n ∧ I k s₃) (fun _ _ => False) s₂) (fun _ _ => False) s₁') (fun _ _ => False) s₁) (fun _ _ => False) s) →
      ∀ n s, I n s → codeAny (model B.prog B.w) B.A code R s)
    (hc : B.calm = true) (hxe : B.xe = fun _ _ => False) (hg : PG B tg (gName i)) (T : Turn B.prog B.w B.K tg J fp it tn) (I : Inv B pins σ H s) (z : Fz F1 H1 F H) (tr : Tr B.K F0 H0 F1 H1 F σ Γ) (st : SetSt B F H D ls)
    (few : ls.length + (ds.flatMap ks).length < 64) (st0 : tn 0 s.heap) (f : ∀ b ∈ fp, FpOk B pins H b) (hit : ItD B.K F J ds)
    (hb : ∀ d ∈ ds, DB B F0 H0 F1 H1 D ((wipeG Γ (i :: vs)).set i (.d d)) vs m (ks d))
    (hR : ∀ s' H' F', Inv B pins (L2.wipe σ (i :: vs)) H' s' → Ex F F' → Fz F1 H1 F' H' → SetSt B F' H' D (ls ++ ds.flatMap ks) → R (.ok .next) s') : codeAny (model B.prog B.w) B.A code R s := by
  refine hl (fun n s' => ∃ k H' F', n = ds.length - k ∧ k ≤ ds.length ∧ Inv B pins (L2.wipe σ (i :: vs)) H' s' ∧ tn k s'.heap ∧ (∀ b ∈ fp, H' b = none) ∧ Ex F F' ∧ Fz F1 H1 F' H' ∧ SetSt B F' H' D (ls ++ (ds.take k).flatMap ks)) ?_ ds.length s
    ⟨0, H, F, rfl, Nat.zero_le _, I.weak (wipe_length _ _) (fun j v e => (L2.wipe_some e).1), st0, fun b hb => (f b hb).1, Ex.refl _, z, by simpa using st⟩
  have stat : ∀ {H' : Hp}, (∀ b ∈ fp, H' b = none) → ∀ b ∈ fp, FpOk B pins H' b := fun hn b hb => ⟨hn b hb, (f b hb).2⟩
  rintro n s5 ⟨k, H5, F5, rfl, hk, I5, st5, n5, x5, z5, w5⟩
  obtain ⟨go, stop⟩ := hit F5 H5 k x5 z5.s
  by_cases hlt : k < ds.length
  · have hd : ds[k]? = some ds[k] := List.getElem?_eq_getElem hlt
    have hmem : ds[k] ∈ ds := List.getElem_mem hlt
    obtain ⟨g1, g2⟩ := go _ hd
    have htk : ds.take (k + 1) = ds.take k ++ [ds[k]] := by rw [List.take_succ, hd]; rfl
    refine wpAny_mono (T.item B rfl rfl rfl hc k pins s5 _ H5 (fun _ _ => False) I5 (stat n5) st5 g1) (fun r s6 ⟨u, hr, h6⟩ => ?_) fun _ _ h => h
    subst hr
    refine wpAny_mono h6 (fun _ s7 ⟨x, H7, I7, r7, y7, st7, n7⟩ => ?_) fun _ _ h => h
    have I7' := I7.pinned (stat n7) (T.obj _ _ st7)
    obtain ⟨F7, z7, d7⟩ := g2 x H7 y7
    have pg := hg.run _ s7 _ H7 x u (fun σ2 H2 => σ2 = (L2.wipe σ (i :: vs)).set i (some x) ∧ H2 = H7) I7' r7 ⟨rfl, rfl⟩
    rw [hxe] at pg
    refine wpAny_mono pg (fun _ s8 ⟨σ8, H8, I8, e1, e2⟩ => ?_) fun _ _ h => h
    subst e1 e2
    have few' : (ls ++ (ds.take k).flatMap ks).length + (ks ds[k]).length < 64 := by
      have h1 : ((ds.take (k + 1)).flatMap ks).length ≤ (ds.flatMap ks).length := by
        conv => rhs; rw [← List.take_append_drop (k + 1) ds]
        rw [List.flatMap_append, List.length_append]
        exact Nat.le_add_right _ _
      rw [htk, List.flatMap_append, List.length_append, List.flatMap_cons, List.flatMap_nil, List.append_nil] at h1
      rw [List.length_append]
      omega
    refine wpAny_mono (hb _ hmem _ s8 _ _ F7 _ I8 (z5.trans z7) (fun F' H' ex z' => (((tr F' H' ((x5.trans z7.f).trans ex) z').wipe (i :: vs)).set i (dp_ex ex _ _ d7))) (w5.mono z7) few') (fun _ s9 ⟨H9, F9, I9, x9, z9, w9⟩ => ?_) fun _ _ h => h
    have pin' : ∀ b ∈ fp, ∀ o, s7.heap.get? b = some o → s9.heap.get? b = some o ∧ H9 b = none := fun b hb o e =>
      let z := I9.pin (b, o) (List.mem_append_right _ (List.mem_append_right _ (mem_pinsAt hb e)))
      ⟨z.1, z.2.1⟩
    refine ⟨ds.length - (k + 1), by omega, k + 1, H9, F9, rfl, hlt, I9.unpinned.weak (by simp [wipe_length]) (fun j v e => ?_), T.keep _ _ _ st7 fun b hb o e => (pin' b hb o e).1, fun b hb => ?_, (x5.trans z7.f).trans x9, z9, ?_⟩
    · obtain ⟨e1, e2⟩ := L2.wipe_some e
      have h1 : j ≠ i := fun q => e2 (by rw [q]; exact List.mem_cons_self)
      have h2 : j ∉ vs := fun q => e2 (List.mem_cons_of_mem _ q)
      rw [L2.wipe_out h2, List.getElem?_set_ne (fun q => h1 q.symm)]
      exact e
    · obtain ⟨o, e, _⟩ := T.obj _ _ st7 b hb
      exact (pin' b hb o e).2
    · rw [htk, List.flatMap_append, List.flatMap_cons, List.flatMap_nil, List.append_nil, ← List.append_assoc]
      exact w9
  · have hke : k = ds.length := by omega
    subst hke
    refine wpAny_mono (T.done B rfl rfl rfl hc _ pins s5 _ H5 (fun _ _ => False) I5 (stat n5) st5 (stop rfl)) (fun r s6 ⟨hr, I6⟩ => ?_) fun _ _ h => h
    subst hr
    rw [List.take_length] at w5
    exact hR s6 H5 F5 I6 x5 z5 w5
def okP (P : Shared → Prop) : Result → Shared → Prop
  | .ok _, s => P s
  | .error _, _ => False
/-- the inner walk as code -/
theorem db_start {e : Expr} {j : Nat} {m : Sem Unit} {tg i1 : Expr} {i : Nat} {ds : List PyData} {ks : PyData → List (List Int)}
    (hl : ∀ (it : Addr) (R : Result → Shared → Prop) (I : Nat → Shared → Prop), (∀ n s, I n s → wpAny (model B.prog B.w) B.A (pyNext (.ref it)) (fun r s₁ => match r with
        | none => R (.ok .next) s₁
        | some v => wpAny (model B.prog B.w) B.A (letOwnedTupleGo tg (.ref it) v) (fun _ s₁' => wpAny (model B.prog B.w) B.A (assign tg B.env v) (fun _ s₂ => wpAny (model B.prog B.w) B.A m (fun _ s₃ => ∃ k, k < n ∧ I k s₃) (fun _ _ => False) s₂) (fun _ _ => False) s₁') (fun _ _ => False) s₁) (fun _ _ => False) s) →
      ∀ n s, I n s → codeAny (model B.prog B.w) B.A (.compLoop e j (.ref it) (.ref D) B.env) R s)
    (hst : ∀ (it : Value) (R : Result → Shared → Prop) (s : Shared), codeAny (model B.prog B.w) B.A (.compLoop e j it (.ref D) B.env) R s → wpAny (model B.prog B.w) B.A (pyIter it) (fun it' s' => codeAny (model B.prog B.w) B.A (.compLoop e j it' (.ref D) B.env) R s')
      (notedBy (model B.prog B.w) B.A B.env fun x s' => R (.error x) s') s → codeAny (model B.prog B.w) B.A (.compStart e j it (.ref D) B.env) R s)
    (hc : B.calm = true) (hxe : B.xe = fun _ _ => False) (hg : PG B tg (gName i)) (hi : JI B F0 H0 Γ tg i1 ds) (hs : ∀ x, foldedSetIterable i1 B.env x = pure x)
    (hb : ∀ d ∈ ds, DB B F0 H0 F1 H1 D ((wipeG Γ (i :: vs)).set i (.d d)) vs m (ks d)) :
    DB B F0 H0 F1 H1 D Γ (i :: vs) (do
      let x ← eval i1 B.env
      standAt i1.pos
      let x ← foldedSetIterable i1 B.env x
      let _ ← runOwn (.compStart e j (← holding [x] (pyIter x)) (.ref D) B.env) B.env) (ds.flatMap ks) := by
  intro pins s σ H F ls I z tr st few
  have r := hi.run pins s σ H (fun J H' => ∃ F', Fz F H F' H' ∧ ItD B.K F' J ds) I ⟨F, tr F H (Ex.refl _) z, fun J F' H' z it => ⟨F', z, it⟩⟩
  rw [hxe] at r
  refine wpAny_bind (wpAny_mono r (fun x s4 h4 => ?_) fun _ _ h => h)
  refine wpAny_bind (wpAny_standAt (wpAny_bind (wpAny_of_eq (hs x) (wpAny_bind (wpAny_holding (wpAny_mono h4 (fun itv s5 h5 => ?_) fun _ _ h' => h'))))))
  obtain ⟨it, fp, tn, J, H5, e1, I5, T, st5, f5, F5, z5, it5⟩ := h5
  subst e1
  refine wpAny_bind (wpAny_runOwn ?_)
  rw [Around.mark_none]
  have loop : codeAny (model B.prog B.w) B.A (.compLoop e j (.ref it) (.ref D) B.env) (okP fun s' => ∃ H' F', Inv B pins (L2.wipe σ (i :: vs)) H' s' ∧ Ex F F' ∧ Fz F1 H1 F' H' ∧ SetSt B F' H' D (ls ++ ds.flatMap ks)) s5 :=
    loop_d (R := okP fun s' => ∃ H' F', Inv B pins (L2.wipe σ (i :: vs)) H' s' ∧ Ex F F' ∧ Fz F1 H1 F' H' ∧ SetSt B F' H' D (ls ++ ds.flatMap ks)) (Γ := Γ) (F := F5) (ls := ls) (hl it _) hc hxe hg T I5 (z.trans z5) (fun F' H' ex z' => tr F' H' (z5.f.trans ex) z') (st.mono z5) few st5 f5 it5 hb fun s' H' F' a b c d => ⟨H', F', a, z5.f.trans b, c, d⟩
  refine codeAny_mono (hst _ _ _ loop (T.self B.A 0 _ _ _ st5 loop)) fun r s' hr => ?_
  cases r with
  | ok f => exact wpAny_pure hr
  | error e => exact hr.elim
end

theorem wipeG_len (g : List S) : ∀ vs : List Nat, (wipeG g vs).length = g.length
  | [] => rfl
  | v :: vs => by rw [wipeG, List.length_set, wipeG_len g vs]
theorem wipeG_get (g : List S) (k : Nat) : ∀ vs : List Nat, (wipeG g vs)[k]? = if k ∈ vs then (g[k]?).map (fun _ => .u) else g[k]?
  | [] => by simp [wipeG]
  | v :: vs => by
    rw [wipeG, List.getElem?_set, wipeG_len, wipeG_get g k vs]
    by_cases h : v = k
    · subst h
      rw [if_pos rfl, if_pos List.mem_cons_self]
      by_cases hl : v < g.length
      · rw [if_pos hl, List.getElem?_eq_getElem hl]
        rfl
      · rw [if_neg hl, List.getElem?_eq_none (by omega)]
        rfl
    · rw [if_neg h]
      by_cases h2 : k ∈ vs
      · rw [if_pos h2, if_pos (List.mem_cons_of_mem _ h2)]
      · rw [if_neg h2, if_neg (fun q => by rcases List.mem_cons.mp q with q | q; exact h q.symm; exact h2 q)]
theorem wipeG_idem (g : List S) (vs : List Nat) : wipeG (wipeG g vs) vs = wipeG g vs := by
  apply List.ext_getElem?
  intro k
  rw [wipeG_get, wipeG_get]
  by_cases h : k ∈ vs
  · rw [if_pos h, if_pos h]
    cases g[k]? <;> rfl
  · rw [if_neg h, if_neg h]
/-! the three clauses -/
section
variable {prog : Program} {w : World} {A : Around} {R : Result → Shared → Prop} {s : Shared} {elt t0 i0 t1 i1 t2 i2 : Expr} {scope : Scope} {pos : Pos} {it acc : Value} {env : Env}
abbrev E3 (elt t0 i0 t1 i1 t2 i2 : Expr) (scope : Scope) (pos : Pos) : Expr := .SetComp elt [⟨t0, i0, [], 0⟩, ⟨t1, i1, [], 0⟩, ⟨t2, i2, [], 0⟩] scope pos
theorem sc3_turn0 : compTurn (E3 elt t0 i0 t1 i1 t2 i2 scope pos) 0 it acc env = (do
      standAt i0.pos
      match ← pyNext it with
      | none => pure (.done .next)
      | some v =>
        letOwnedTupleGo t0 it v
        assign t0 env v
        let mut ok := true
        for c in ([] : List Expr) do
          if ok then ok ← isTrue c env (eval c env)
        if ok then
          let x ← eval i1 env
          standAt i1.pos
          let x ← foldedSetIterable i1 env x
          let _ ← runOwn (.compStart (E3 elt t0 i0 t1 i1 t2 i2 scope pos) 1 (← holding [x] (pyIter x)) acc env) env
        again (.compLoop (E3 elt t0 i0 t1 i1 t2 i2 scope pos) 0 it acc env)) := by rfl
theorem sc3_turn1 : compTurn (E3 elt t0 i0 t1 i1 t2 i2 scope pos) 1 it acc env = (do
      standAt i1.pos
      match ← pyNext it with
      | none => pure (.done .next)
      | some v =>
        letOwnedTupleGo t1 it v
        assign t1 env v
        let mut ok := true
        for c in ([] : List Expr) do
          if ok then ok ← isTrue c env (eval c env)
        if ok then
          let x ← eval i2 env
          standAt i2.pos
          let x ← foldedSetIterable i2 env x
          let _ ← runOwn (.compStart (E3 elt t0 i0 t1 i1 t2 i2 scope pos) 2 (← holding [x] (pyIter x)) acc env) env
        again (.compLoop (E3 elt t0 i0 t1 i1 t2 i2 scope pos) 1 it acc env)) := by rfl
theorem sc3_turn2 : compTurn (E3 elt t0 i0 t1 i1 t2 i2 scope pos) 2 it acc env = (do
      standAt i2.pos
      match ← pyNext it with
      | none => pure (.done .next)
      | some v =>
        letOwnedTupleGo t2 it v
        assign t2 env v
        let mut ok := true
        for c in ([] : List Expr) do
          if ok then ok ← isTrue c env (eval c env)
        if ok then
          (do let v ← eval elt env; standAt elt.pos; let _ ← call (.builtin "set.add") [acc, v])
        again (.compLoop (E3 elt t0 i0 t1 i1 t2 i2 scope pos) 2 it acc env)) := by rfl
theorem wpAny_cast {α : Type} {M : Model} {A : Around} {E : Value → Shared → Prop} {s : Shared} {t t' : Sem α} {Q : α → Shared → Prop} (e : t = t') (h : wpAny M A t' Q E s) : wpAny M A t Q E s := e ▸ h
/-- what a turn asks, m being what it does -/
def TurnOf (prog : Program) (w : World) (A : Around) (R : Result → Shared → Prop) (it : Value) (tg : Expr) (env : Env) (m : Sem Unit) (I : Nat → Shared → Prop) : Prop :=
  ∀ n s, I n s → wpAny (model prog w) A (pyNext it) (fun r s₁ => match r with
        | none => R (.ok .next) s₁
        | some v => wpAny (model prog w) A (letOwnedTupleGo tg it v) (fun _ s₁' => wpAny (model prog w) A (assign tg env v) (fun _ s₂ => wpAny (model prog w) A m (fun _ s₃ => ∃ k, k < n ∧ I k s₃) (fun _ _ => False) s₂) (fun _ _ => False) s₁') (fun _ _ => False) s₁) (fun _ _ => False) s
theorem sc3_loop0 (I : Nat → Shared → Prop) (turn : TurnOf prog w A R it t0 env (do
          let x ← eval i1 env
          standAt i1.pos
          let x ← foldedSetIterable i1 env x
          let _ ← runOwn (.compStart (E3 elt t0 i0 t1 i1 t2 i2 scope pos) 1 (← holding [x] (pyIter x)) acc env) env) I) (n : Nat) (s : Shared) (h : I n s) :
    codeAny (model prog w) A (.compLoop (E3 elt t0 i0 t1 i1 t2 i2 scope pos) 0 it acc env) R s := by
  refine codeAny_loop rfl I (fun n s hI => ?_) n h
  show wpAny _ A ((compTurn (E3 elt t0 i0 t1 i1 t2 i2 scope pos) 0 it acc env).onRaise (fun x => do noteFrame x env; theTreesLotGoes x)) _ _ s
  refine wpAny_noted ?_
  rw [sc3_turn0]
  refine wpAny_bind (wpAny_standAt (wpAny_bind (wpAny_mono (turn n s hI) (fun r s₁ h₁ => ?_) fun _ _ h' => h'.elim)))
  cases r with
  | none => exact wpAny_pure h₁
  | some v =>
    refine wpAny_bind (wpAny_mono h₁ (fun _ s₁' h₁' => ?_) fun _ _ h' => h'.elim)
    refine wpAny_bind (wpAny_mono h₁' (fun _ s₂ h₂ => wpAny_bind (wpAny_tests_nil ?_)) fun _ _ h' => h'.elim)
    exact wpAny_cast (t' := (do
          let x ← eval i1 env
          standAt i1.pos
          let x ← foldedSetIterable i1 env x
          let _ ← runOwn (.compStart (E3 elt t0 i0 t1 i1 t2 i2 scope pos) 1 (← holding [x] (pyIter x)) acc env) env : Sem Unit) >>= fun _ => again (.compLoop (E3 elt t0 i0 t1 i1 t2 i2 scope pos) 0 it acc env)) (by simp only [bind_assoc, if_true]; try rfl)
      (wpAny_bind (wpAny_mono h₂ (fun _ s₃ h₃ => wpAny_pure ⟨rfl, h₃⟩) fun _ _ h' => h'.elim))
theorem sc3_loop1 (I : Nat → Shared → Prop) (turn : TurnOf prog w A R it t1 env (do
          let x ← eval i2 env
          standAt i2.pos
          let x ← foldedSetIterable i2 env x
          let _ ← runOwn (.compStart (E3 elt t0 i0 t1 i1 t2 i2 scope pos) 2 (← holding [x] (pyIter x)) acc env) env) I) (n : Nat) (s : Shared) (h : I n s) :
    codeAny (model prog w) A (.compLoop (E3 elt t0 i0 t1 i1 t2 i2 scope pos) 1 it acc env) R s := by
  refine codeAny_loop rfl I (fun n s hI => ?_) n h
  show wpAny _ A ((compTurn (E3 elt t0 i0 t1 i1 t2 i2 scope pos) 1 it acc env).onRaise (fun x => do noteFrame x env; theTreesLotGoes x)) _ _ s
  refine wpAny_noted ?_
  rw [sc3_turn1]
  refine wpAny_bind (wpAny_standAt (wpAny_bind (wpAny_mono (turn n s hI) (fun r s₁ h₁ => ?_) fun _ _ h' => h'.elim)))
  cases r with
  | none => exact wpAny_pure h₁
  | some v =>
    refine wpAny_bind (wpAny_mono h₁ (fun _ s₁' h₁' => ?_) fun _ _ h' => h'.elim)
    refine wpAny_bind (wpAny_mono h₁' (fun _ s₂ h₂ => wpAny_bind (wpAny_tests_nil ?_)) fun _ _ h' => h'.elim)
    exact wpAny_cast (t' := (do
          let x ← eval i2 env
          standAt i2.pos
          let x ← foldedSetIterable i2 env x
          let _ ← runOwn (.compStart (E3 elt t0 i0 t1 i1 t2 i2 scope pos) 2 (← holding [x] (pyIter x)) acc env) env : Sem Unit) >>= fun _ => again (.compLoop (E3 elt t0 i0 t1 i1 t2 i2 scope pos) 1 it acc env)) (by simp only [bind_assoc, if_true]; try rfl)
      (wpAny_bind (wpAny_mono h₂ (fun _ s₃ h₃ => wpAny_pure ⟨rfl, h₃⟩) fun _ _ h' => h'.elim))
theorem sc3_loop2 (I : Nat → Shared → Prop) (turn : TurnOf prog w A R it t2 env (do let v ← eval elt env; standAt elt.pos; let _ ← call (.builtin "set.add") [acc, v]) I) (n : Nat) (s : Shared) (h : I n s) :
    codeAny (model prog w) A (.compLoop (E3 elt t0 i0 t1 i1 t2 i2 scope pos) 2 it acc env) R s := by
  refine codeAny_loop rfl I (fun n s hI => ?_) n h
  show wpAny _ A ((compTurn (E3 elt t0 i0 t1 i1 t2 i2 scope pos) 2 it acc env).onRaise (fun x => do noteFrame x env; theTreesLotGoes x)) _ _ s
  refine wpAny_noted ?_
  rw [sc3_turn2]
  refine wpAny_bind (wpAny_standAt (wpAny_bind (wpAny_mono (turn n s hI) (fun r s₁ h₁ => ?_) fun _ _ h' => h'.elim)))
  cases r with
  | none => exact wpAny_pure h₁
  | some v =>
    refine wpAny_bind (wpAny_mono h₁ (fun _ s₁' h₁' => ?_) fun _ _ h' => h'.elim)
    refine wpAny_bind (wpAny_mono h₁' (fun _ s₂ h₂ => wpAny_bind (wpAny_tests_nil ?_)) fun _ _ h' => h'.elim)
    exact wpAny_cast (t' := (do let v ← eval elt env; standAt elt.pos; let _ ← call (.builtin "set.add") [acc, v] : Sem Unit) >>= fun _ => again (.compLoop (E3 elt t0 i0 t1 i1 t2 i2 scope pos) 2 it acc env)) (by simp only [bind_assoc, if_true]; try rfl)
      (wpAny_bind (wpAny_mono h₂ (fun _ s₃ h₃ => wpAny_pure ⟨rfl, h₃⟩) fun _ _ h' => h'.elim))
theorem sc3_start1 (h0 : codeAny (model prog w) A (.compLoop (E3 elt t0 i0 t1 i1 t2 i2 scope pos) 1 it acc env) R s)
    (h : wpAny (model prog w) A (pyIter it) (fun it' s' => codeAny (model prog w) A (.compLoop (E3 elt t0 i0 t1 i1 t2 i2 scope pos) 1 it' acc env) R s')
      (notedBy (model prog w) A env fun x s' => R (.error x) s') s) :
    codeAny (model prog w) A (.compStart (E3 elt t0 i0 t1 i1 t2 i2 scope pos) 1 it acc env) R s := by
  refine codeAny_of_tree ?_
  show wpAny _ _ ((compStart (E3 elt t0 i0 t1 i1 t2 i2 scope pos) 1 it acc env).onRaise (fun x => do noteFrame x env; standAt theWindowsPlace)) _ _ s
  refine wpAny_notedAt ?_
  unfold compStart
  show wpAny _ _ (ask >>= _) _ _ s
  refine wpAny_bind (wpAny_askSetting (wpAny_ite ?_))
  split
  · first
      | exact wpAny_bind (wpAny_pure (wpAny_pure (And.intro rfl h0)))
      | exact wpAny_pure (And.intro rfl h0)
  · first
      | exact wpAny_bind (wpAny_rule (wpAny_bind (wpAny_standAt (wpAny_bind (wpAny_mono h (fun it' s' h' => wpAny_pure (And.intro rfl h')) fun _ _ x => x)))))
      | (refine wpAny_bind (wpAny_rule ?_); show wpAny _ _ (standAt i1.pos >>= _) _ _ s; exact wpAny_bind (wpAny_standAt (wpAny_bind (wpAny_mono h (fun it' s' h' => wpAny_pure (And.intro rfl h')) fun _ _ x => x))))
theorem sc3_start2 (h0 : codeAny (model prog w) A (.compLoop (E3 elt t0 i0 t1 i1 t2 i2 scope pos) 2 it acc env) R s)
    (h : wpAny (model prog w) A (pyIter it) (fun it' s' => codeAny (model prog w) A (.compLoop (E3 elt t0 i0 t1 i1 t2 i2 scope pos) 2 it' acc env) R s')
      (notedBy (model prog w) A env fun x s' => R (.error x) s') s) :
    codeAny (model prog w) A (.compStart (E3 elt t0 i0 t1 i1 t2 i2 scope pos) 2 it acc env) R s := by
  refine codeAny_of_tree ?_
  show wpAny _ _ ((compStart (E3 elt t0 i0 t1 i1 t2 i2 scope pos) 2 it acc env).onRaise (fun x => do noteFrame x env; standAt theWindowsPlace)) _ _ s
  refine wpAny_notedAt ?_
  unfold compStart
  show wpAny _ _ (ask >>= _) _ _ s
  refine wpAny_bind (wpAny_askSetting (wpAny_ite ?_))
  split
  · first
      | exact wpAny_bind (wpAny_pure (wpAny_pure (And.intro rfl h0)))
      | exact wpAny_pure (And.intro rfl h0)
  · first
      | exact wpAny_bind (wpAny_rule (wpAny_bind (wpAny_standAt (wpAny_bind (wpAny_mono h (fun it' s' h' => wpAny_pure (And.intro rfl h')) fun _ _ x => x)))))
      | (refine wpAny_bind (wpAny_rule ?_); show wpAny _ _ (standAt i2.pos >>= _) _ _ s; exact wpAny_bind (wpAny_standAt (wpAny_bind (wpAny_mono h (fun it' s' h' => wpAny_pure (And.intro rfl h')) fun _ _ x => x))))
end
section
variable {X : Cx} {F0 H0 : Hp} {Γ : List S} {elt t0 i0 t1 i1 t2 i2 : Expr} {scope : Scope} {pos : Pos}
/-- the new set -/
def tSc3 (X : Cx) (F0 H0 : Hp) (Γ : List S) (ls : List (List Int)) : TE := fun σ H Q => ∃ F, Ok X.K F0 H0 F σ H Γ ∧ ∀ D F' H', Fz F H F' H' → H D = none → SetSt X F' H' D ls → Q (.ref D) H'
theorem pe_sc3 {own : List (Str × Nat)} (a0 a1 a2 : Nat) {d0 : List PyData} {d1 : PyData → List PyData} {d2 : PyData → PyData → List PyData} {f : PyData → PyData → PyData → List Int} (hc : X.calm = true) (hN : X.N.Nodup) (hu : X.A.units + 64 < cLine)
    (ok3 : BlkOk X.N X.env.scope scope own) (hw : own.map (·.2) = [a0, a1, a2])
    (hi0 : JI X F0 H0 Γ t0 i0 d0)
    (hg0 : ∀ (s : Shared) (H : Hp) (C : Addr) (cl : List (Str × Addr)) (fp : List Addr), PG (Bk X s H scope C cl fp) t0 (gName a0))
    (hg1 : ∀ (s : Shared) (H : Hp) (C : Addr) (cl : List (Str × Addr)) (fp : List Addr), PG (Bk X s H scope C cl fp) t1 (gName a1))
    (hg2 : ∀ (s : Shared) (H : Hp) (C : Addr) (cl : List (Str × Addr)) (fp : List Addr), PG (Bk X s H scope C cl fp) t2 (gName a2))
    (hi1 : ∀ x ∈ d0, ∀ (s : Shared) (H : Hp) (C : Addr) (cl : List (Str × Addr)) (fp : List Addr), JI (Bk X s H scope C cl fp) F0 H0 ((wipeG Γ [a0, a1, a2]).set a0 (.d x)) t1 i1 (d1 x))
    (hi2 : ∀ x ∈ d0, ∀ y ∈ d1 x, ∀ (s : Shared) (H : Hp) (C : Addr) (cl : List (Str × Addr)) (fp : List Addr), JI (Bk X s H scope C cl fp) F0 H0 ((wipeG ((wipeG Γ [a0, a1, a2]).set a0 (.d x)) [a1, a2]).set a1 (.d y)) t2 i2 (d2 x y))
    (he : ∀ x ∈ d0, ∀ y ∈ d1 x, ∀ z ∈ d2 x y, ∀ (s : Shared) (H : Hp) (C : Addr) (cl : List (Str × Addr)) (fp : List Addr), JE (Bk X s H scope C cl fp) WF F0 H0 ((wipeG ((wipeG ((wipeG Γ [a0, a1, a2]).set a0 (.d x)) [a1, a2]).set a1 (.d y)) [a2]).set a2 (.d z)) elt (.v (ti (f x y z))))
    (few : (d0.flatMap fun x => (d1 x).flatMap fun y => (d2 x y).flatMap fun z => [f x y z]).length < 64)
    (hs0 : ∀ x, foldedSetIterable i0 X.env x = pure x := by intro _; rfl) (hs1 : ∀ env x, foldedSetIterable i1 env x = pure x := by intro _ _; rfl) (hs2 : ∀ env x, foldedSetIterable i2 env x = pure x := by intro _ _; rfl) :
    PE X (E3 elt t0 i0 t1 i1 t2 i2 scope pos) (tSc3 X F0 H0 Γ (d0.flatMap fun x => (d1 x).flatMap fun y => (d2 x y).flatMap fun z => [f x y z])) := by
  refine ⟨fun pins s0 σ H Q I0 ⟨F, ok, hq⟩ => ?_⟩
  unfold E3
  rw [PpSet.eval_SetComp]
  have capt : ∀ y ∈ scope.names, y.2 = .free → ∃ c, X.env.cells.lookup y.1 = some c := fun y hy e => (ok3.free y hy e).elim (fun k => I0.ok.has _ (.inl k)) (fun k => I0.ok.has _ (.inr k))
  refine wpAny_comprehension_free rfl hs0 (closure_ok capt) ok3.kind (fun y hy e => by rw [ok3.uniq y hy, e]) (thn (hi0.run pins s0 σ H (fun J H' => ∃ F', Fz F H F' H' ∧ ItD X.K F' J d0) I0 ⟨F, ok, fun J F' H' z it => ⟨F', z, it⟩⟩) fun xv sa ha => thn ha fun itv sb hb => ?_)
  obtain ⟨it, fp, tn, J, Hb, eit, Ib, T, stb, fb, Fb, zb, itb⟩ := hb
  subst eit
  refine PpSet.newSet_ok (newEnv_comp ?_)
  generalize hD : sb.heap.objs.size = D
  have nD : Hb D = none := Ib.hok.fresh (Nat.le_of_eq hD)
  generalize hsc : ({ sb with heap := sb.heap.push { cls := .type "set", dict := none, data := .set #[] 0 (.fresh 0 0 (!X.w.params.followText "set-order")) } } : Shared) = sc
  have hsh : sc.heap = sb.heap.push { cls := .type "set", dict := none, data := .set #[] 0 (.fresh 0 0 (!X.w.params.followText "set-order")) } := by rw [← hsc]
  have Ic : Inv X pins σ (upd Hb D (SetTO X.prog X.w D [])) sc := by
    rw [← hsc]
    refine Ib.laid (t' := sb.toks) (fun b o e => Heap.get?_push_of_some _ e) (Nat.le_of_eq hD) ?_
    rw [← hD]
    exact setTO_new (setTR_fresh (P := X.prog) (w := X.w) (Heap.get?_push_size _ rfl)).t0
  have small : ∀ b ∈ fp, b < sb.heap.objs.size := fun b hbm => by
    obtain ⟨o, e, _⟩ := T.obj _ _ stb b hbm; exact Heap.lt_size e
  have fc : ∀ b ∈ fp, FpOk X pins (upd Hb D (SetTO X.prog X.w D [])) b ∧ b < sc.heap.objs.size := fun b hbm => by
    have hlt := small b hbm
    refine ⟨⟨?_, (fb b hbm).2⟩, by rw [hsh, Heap.size_push]; exact Nat.lt_succ_of_lt hlt⟩
    rw [upd_ne (by rw [← hD]; exact Nat.ne_of_lt hlt)]; exact (fb b hbm).1
  have stc : tn 0 sc.heap := T.keep _ _ _ stb fun b _ o e => by rw [hsh]; exact Heap.get?_push_of_some _ e
  have Id := block_start Ic ok3 hN fc
  have zc : Fz Fb Hb Fb (upd Hb D (SetTO X.prog X.w D [])) := Fz.fresh zb.s nD
  have pe : ∀ x ∈ d0, ∀ y ∈ d1 x, ∀ z ∈ d2 x y, JE (X.blk sc (upd Hb D (SetTO X.prog X.w D [])) scope (compEnvC scope (cellsFrom (sc.heap.objs.size + 1) scope.names (cloFrom X.env.cells scope.names [])) sc.heap.objs.size X.env) fp) WF F0 H0 ((wipeG ((wipeG ((wipeG Γ [a0, a1, a2]).set a0 (.d x)) [a1, a2]).set a1 (.d y)) [a2]).set a2 (.d z)) elt (.v (ti (f x y z))) := fun x hx y hy z hz => he x hx y hy z hz sc (upd Hb D (SetTO X.prog X.w D [])) sc.heap.objs.size (cellsFrom (sc.heap.objs.size + 1) scope.names (cloFrom X.env.cells scope.names [])) fp
  have p1 : ∀ x ∈ d0, JI (X.blk sc (upd Hb D (SetTO X.prog X.w D [])) scope (compEnvC scope (cellsFrom (sc.heap.objs.size + 1) scope.names (cloFrom X.env.cells scope.names [])) sc.heap.objs.size X.env) fp) F0 H0 ((wipeG Γ [a0, a1, a2]).set a0 (.d x)) t1 i1 (d1 x) := fun x hx => hi1 x hx sc (upd Hb D (SetTO X.prog X.w D [])) sc.heap.objs.size (cellsFrom (sc.heap.objs.size + 1) scope.names (cloFrom X.env.cells scope.names [])) fp
  have p2 : ∀ x ∈ d0, ∀ y ∈ d1 x, JI (X.blk sc (upd Hb D (SetTO X.prog X.w D [])) scope (compEnvC scope (cellsFrom (sc.heap.objs.size + 1) scope.names (cloFrom X.env.cells scope.names [])) sc.heap.objs.size X.env) fp) F0 H0 ((wipeG ((wipeG Γ [a0, a1, a2]).set a0 (.d x)) [a1, a2]).set a1 (.d y)) t2 i2 (d2 x y) := fun x hx y hy => hi2 x hx y hy sc (upd Hb D (SetTO X.prog X.w D [])) sc.heap.objs.size (cellsFrom (sc.heap.objs.size + 1) scope.names (cloFrom X.env.cells scope.names [])) fp
  have q0 : PG (X.blk sc (upd Hb D (SetTO X.prog X.w D [])) scope (compEnvC scope (cellsFrom (sc.heap.objs.size + 1) scope.names (cloFrom X.env.cells scope.names [])) sc.heap.objs.size X.env) fp) t0 (gName a0) := hg0 sc (upd Hb D (SetTO X.prog X.w D [])) sc.heap.objs.size (cellsFrom (sc.heap.objs.size + 1) scope.names (cloFrom X.env.cells scope.names [])) fp
  have q1 : PG (X.blk sc (upd Hb D (SetTO X.prog X.w D [])) scope (compEnvC scope (cellsFrom (sc.heap.objs.size + 1) scope.names (cloFrom X.env.cells scope.names [])) sc.heap.objs.size X.env) fp) t1 (gName a1) := hg1 sc (upd Hb D (SetTO X.prog X.w D [])) sc.heap.objs.size (cellsFrom (sc.heap.objs.size + 1) scope.names (cloFrom X.env.cells scope.names [])) fp
  have q2 : PG (X.blk sc (upd Hb D (SetTO X.prog X.w D [])) scope (compEnvC scope (cellsFrom (sc.heap.objs.size + 1) scope.names (cloFrom X.env.cells scope.names [])) sc.heap.objs.size X.env) fp) t2 (gName a2) := hg2 sc (upd Hb D (SetTO X.prog X.w D [])) sc.heap.objs.size (cellsFrom (sc.heap.objs.size + 1) scope.names (cloFrom X.env.cells scope.names [])) fp
  show codeAny _ _ (.compStart (E3 elt t0 i0 t1 i1 t2 i2 scope pos) 0 (.ref it) (.ref D) (compEnvC scope (cellsFrom (sc.heap.objs.size + 1) scope.names (cloFrom X.env.cells scope.names [])) sc.heap.objs.size X.env)) (compPost (model X.prog X.w) X.A X.xe none (EP X pins σ Q) (.ref D) sc.heap.objs.size) { sc with heap := pushCells (sc.heap.push { cls := .type "dict", data := .dict #[] }) scope.names }
  have nofp : ∀ b ∈ fp, (upd Hb D (SetTO X.prog X.w D [])) b = none := fun b hbm => (fc b hbm).1.1
  generalize hce : compEnvC scope (cellsFrom (sc.heap.objs.size + 1) scope.names (cloFrom X.env.cells scope.names [])) sc.heap.objs.size X.env = ce at Id pe p1 p2 q0 q1 q2 ⊢
  have cL : ce.locals = sc.heap.objs.size := by subst hce; rfl
  generalize hHc : upd Hb D (SetTO X.prog X.w D []) = Hc at Ic Id pe p1 p2 q0 q1 q2 nofp fc zc
  generalize hsd : ({ sc with heap := pushCells (sc.heap.push { cls := .type "dict", data := .dict #[] }) scope.names } : Shared) = sd at Id ⊢
  have std : tn 0 sd.heap := T.keep _ _ _ stc fun b _ o e => by rw [← hsd]; exact pushCells_keeps _ _ _ _ (Heap.get?_push_of_some _ e)
  have still : ∀ {σ' : L2.St} {H' : Hp} {s' : Shared}, Inv (X.blk sc Hc scope ce fp) [] σ' H' s' → (∀ b ∈ fp, H' b = none) → ∀ b ∈ fp, FpOk (X.blk sc Hc scope ce fp) [] H' b := fun {σ' H' s'} I' hn b hbm =>
    ⟨hn b hbm, (I'.ok.exf b hbm).1, I'.ok.exfs b hbm, .inl hbm, fun x c e => (I'.ok.exf b hbm).2 x c e, fun p hp => absurd (show p ∈ ([] : List (Addr × Obj)) ++ [] from hp) (by simp)⟩
  have st0 : SetSt (X.blk sc Hc scope ce fp) Fb Hc D [] := by
    refine ⟨[], ?_, zb.s.none nD, ?_, List.nodup_nil, Nat.le_refl _, fun k => Iff.rfl⟩
    · rw [← hHc]; exact upd_same
    · intro p hp; cases hp
  have tr0 : Tr X.K F0 H0 Fb Hb Fb (L2.wipe σ (own.map (·.2))) (wipeG Γ [a0, a1, a2]) := fun F' H' ex z => by
    rw [hw]
    exact ((ok.mono zb).mono z).wipe [a0, a1, a2]
  have loop : codeAny (model X.prog X.w) X.A (.compLoop (E3 elt t0 i0 t1 i1 t2 i2 scope pos) 0 (.ref it) (.ref D) ce) (compPost (model X.prog X.w) X.A X.xe none (EP X pins σ Q) (.ref D) sc.heap.objs.size) sd := by
    refine loop_d (B := X.blk sc Hc scope ce fp) (F0 := F0) (H0 := H0) (F1 := Fb) (H1 := Hb) (D := D) (vs := [a1, a2]) (i := a0) (ls := []) (fun I turn n s h => sc3_loop0 I turn n s h) hc rfl q0 T Id zc tr0 st0 (by simpa using few) std (still Id nofp) itb
      (ks := fun x => (d1 x).flatMap fun y => (d2 x y).flatMap fun z => [f x y z]) (fun x hx => ?_) (fun s6 H5 F5 I6 x5 z5 w5 => ?_)
    · rw [wipeG_idem]
      refine db_start (B := X.blk sc Hc scope ce fp) (e := E3 elt t0 i0 t1 i1 t2 i2 scope pos) (j := 1) (i := a1) (vs := [a2]) (fun it R I turn n s h => sc3_loop1 I turn n s h) (fun it R s h0 h => sc3_start1 h0 h) hc rfl q1 (p1 x hx) (hs1 ce) fun y hy => ?_
      refine db_start (B := X.blk sc Hc scope ce fp) (e := E3 elt t0 i0 t1 i1 t2 i2 scope pos) (j := 2) (i := a2) (vs := []) (fun it R I turn n s h => sc3_loop2 I turn n s h) (fun it R s h0 h => sc3_start2 h0 h) hc rfl q2 (p2 x hx y hy) (hs2 ce) fun z hz => ?_
      exact db_elt (B := X.blk sc Hc scope ce fp) hu rfl nD (pe x hx y hy z hz)
    · have Ig : Inv X pins σ H5 s6 := Ic.call' (ch := fp) I6.os I6.base I6.hok I6.bare fun b hbm => ⟨(fc b hbm).1.2.2.2.1, (fc b hbm).1.2.1, (fc b hbm).1.2.2.2.2.1, (fc b hbm).1.2.2.2.2.2⟩
      have nC : H5 sc.heap.objs.size = none := by rw [← cL]; exact I6.free
      obtain ⟨m, hn, _⟩ := I6.loc
      have hn : s6.heap.Ns sc.heap.objs.size m := by rw [← cL]; exact hn
      obtain ⟨f0, f1, f2, f3, f4, f5⟩ := Ic.fpOk (Nat.le_refl _) nC
      exact ⟨m, hn, fun h'' same => ⟨.ref D, H5, Ig.turned (t' := s6.toks) (fun b o hb e => (same.2 b hb).trans e) f0 f1 f3 f4 f5, rfl, hq D F5 H5 (zb.trans z5) (zb.h.none nD) w5⟩⟩
  exact PpSet.codeAny_compStart_set loop (T.self X.A 0 _ _ _ std loop)
end
end TB

namespace TB
open PySem L2 PySem.Spec PyProof.Rows
/-! ### sorted of a set of tuples of any ints -/
theorem reads_ints {h : Heap} : ∀ {vs : List Value} {k : List Int}, IntsAre vs k → ReadsAll h vs (k.map .int) []
  | _, _, .nil => .nil
  | _, _, .cons k t r => .cons (.int k t) (reads_ints r)
theorem reads_isT {P : Program} {w : World} {h : Heap} {k : List Int} {b : Addr} (x : IsT P w h k b) : Reads h (.ref b) (ti k) [] := by
  obtain ⟨o, items, n, ho, hc, hd, hi⟩ := x
  exact .tuple ho hc hd (reads_ints (ints_of_items hi))
def nubL : List (List Int) → List (List Int)
  | [] => []
  | x :: xs => if x ∈ xs then nubL xs else x :: nubL xs
theorem nub_mem {k : List Int} : ∀ xs : List (List Int), k ∈ nubL xs ↔ k ∈ xs
  | [] => Iff.rfl
  | x :: xs => by
    unfold nubL
    by_cases h : x ∈ xs
    · rw [if_pos h, nub_mem xs, List.mem_cons]
      exact ⟨.inr, fun q => q.elim (fun e => e ▸ h) id⟩
    · rw [if_neg h, List.mem_cons, List.mem_cons, nub_mem xs]
theorem nub_nodup : ∀ xs : List (List Int), (nubL xs).Nodup
  | [] => List.nodup_nil
  | x :: xs => by
    unfold nubL
    by_cases h : x ∈ xs
    · rw [if_pos h]
      exact nub_nodup xs
    · rw [if_neg h]
      exact List.nodup_cons.mpr ⟨fun q => h ((nub_mem xs).mp q), nub_nodup xs⟩
/-- the set's tuples in order -/
def sortN (ls : List (List Int)) : List (List Int) := sortLL (nubL ls)
theorem sortN_of {ls xs : List (List Int)} (hn : xs.Nodup) (h : ∀ k, k ∈ xs ↔ k ∈ ls) : sortLL xs = sortN ls :=
  sort_congr ((List.perm_ext_iff_of_nodup hn (nub_nodup ls)).mpr fun k => (h k).trans (nub_mem ls).symm)
section
variable {P : Program} {w : World} {A : Around} {E : Value → Shared → Prop} {s : Shared}
theorem sorted_setU {a : Addr} {L : List (Addr × List Int)} {es : Array (Int × Value)} {ep : Nat} {t : SetTable} {Q : Value → Shared → Prop} (R : SetTR P w s.heap a L es ep t) (hh : A.handled = none) (hu : A.units + 64 < cLine) (hne : ∀ p ∈ L, p.2 ≠ [])
    (hQ : ∀ s' p (out : List Value) (c : Nat), (∀ b o, s.heap.get? b = some o → s'.heap.get? b = some o) → s'.gens = s.gens → s'.os = s.os → s.heap.objs.size ≤ p →
      s'.heap.get? p = some (seqObj "list" out.toArray c) → PySem.W.EachIs (fun u (l : List Int) => ∃ q ∈ L, u = Value.ref q.1 ∧ q.2 = l) out (sortLL (L.map (·.2))) → Q (.ref p) s') :
    wpAny (model P w) A (call (.builtin "sorted") [.ref a]) Q E s := by
  obtain ⟨o, ho, hex, hd⟩ := R.ob
  have hsz := R.size
  have hfew := R.few
  refine Calls.call_function_entry kind_sorted plain_sorted entry_sorted (args_sorted1 _) ?_
  unfold Builtin.«sorted»
  refine wpAny_bind (m := checkCount "sorted" 1 1 _) (wpAny_pure ?_)
  refine wpAny_bind (collect_set (A := A.in1) hh ⟨o, ho, hex.1, hd⟩ R.fits (by unfold scanBound; omega) R.tab.ris R.led fun s1 vs k1 hz g1 o1 pm => ?_)
  have hes : es.toList.map (·.2) = L.map fun q => Value.ref q.1 := by
    rw [R.rows]
    unfold rowsOf
    rw [List.map_map] <;> rfl
  rw [hes] at pm
  have ord : ∀ vs : List Value, (∀ v ∈ vs, ∃ q ∈ L, v = Value.ref q.1) → ∃ L1 : List (Addr × List Int), vs = L1.map (fun q => Value.ref q.1) ∧ ∀ q ∈ L1, q ∈ L := by
    intro vs
    induction vs with
    | nil => intro _; exact ⟨[], rfl, fun q hq => (by cases hq)⟩
    | cons v vs ih =>
      intro hv
      obtain ⟨q, hq, e⟩ := hv v List.mem_cons_self
      obtain ⟨L1, e1, hs⟩ := ih fun u hu => hv u (List.mem_cons_of_mem _ hu)
      refine ⟨q :: L1, by rw [List.map_cons, e, e1], fun r hr => ?_⟩
      rcases List.mem_cons.mp hr with z | z
      · rw [z]; exact hq
      · exact hs r z
  have one : ∀ q ∈ L, ∀ r ∈ L, q.1 = r.1 → q = r := fun q hq r hr e => by
    have a1 := R.tup q hq
    have a2 := R.tup r hr
    rw [e] at a1
    exact Prod.ext e (a1.inj a2)
  have perm_of : ∀ L1 : List (Addr × List Int), (∀ q ∈ L1, q ∈ L) → (L1.map (fun q => Value.ref q.1)).Perm (L.map fun q => Value.ref q.1) → L1.Perm L := by
    intro L1 hs pm1
    have nL : L.Nodup := nodup_of_map R.nd
    have nref : (L.map fun q => Value.ref q.1).Nodup := by
      refine List.pairwise_map.mpr (List.Pairwise.imp_of_mem (fun {q r} hq hr hne e => ?_) nL)
      injection e with e
      exact hne (one q hq r hr e)
    have n1 : L1.Nodup := nodup_of_map (pm1.nodup_iff.mpr nref)
    refine (List.perm_ext_iff_of_nodup n1 nL).mpr fun q => ⟨hs q, fun hq => ?_⟩
    have hm : Value.ref q.1 ∈ L1.map (fun q => Value.ref q.1) := pm1.mem_iff.mpr (List.mem_map.mpr ⟨q, hq, rfl⟩)
    obtain ⟨r, hr, e⟩ := List.mem_map.mp hm
    injection e with e
    rw [← one r (hs r hr) q hq e]
    exact hr
  have hvl : vs.length < 64 := by rw [pm.length_eq, List.length_map]; exact hfew
  obtain ⟨L1, e1, hs1⟩ := ord vs fun v hv => by
    obtain ⟨q, hq, e⟩ := List.mem_map.mp (pm.mem_iff.mp hv)
    exact ⟨q, hq, e.symm⟩
  have p1 : L1.Perm L := perm_of L1 hs1 (by rw [← e1]; exact pm)
  refine wpAny_bind (wpAny_newList ?_ (by rw [sizeLine_eq]; omega))
  have hoL : (s1.heap.push (seqObj "list" vs.toArray 0)).get? s1.heap.objs.size = some (seqObj "list" vs.toArray 0) := Heap.get?_push_size _ rfl
  have tk : ∀ q ∈ L, IsT P w (s1.heap.push (seqObj "list" vs.toArray 0)) q.2 q.1 := fun q hq => isT_keep (R.tup q hq) fun b u e => Heap.get?_push_of_some _ (k1 b u e)
  have each : ∀ {T : Value → List Int → Prop} (L2 : List (Addr × List Int)), (∀ q ∈ L2, T (Value.ref q.1) q.2) → PySem.W.EachIs T (L2.map fun q => Value.ref q.1) (L2.map (·.2)) := by
    intro T L2
    induction L2 with
    | nil => intro _; exact .nil
    | cons q L2 ih => intro h; exact .cons (h q List.mem_cons_self) (ih fun r hr => h r (List.mem_cons_of_mem _ hr))
  have hlen1 : (L1.map (·.2)).length = vs.length := by rw [e1, List.length_map, List.length_map]
  refine wpAny_bind (wpAny_holding (PySem.W.list_sort_data (s := { s1 with heap := s1.heap.push (seqObj "list" vs.toArray 0) }) (enc := ti) (bs := L1.map (·.2)) (R := fun u (l : List Int) => ∃ q ∈ L, u = Value.ref q.1 ∧ q.2 = l) hoL
    (by rw [e1]; exact each L1 fun q hq => ⟨q, hs1 q hq, rfl, rfl⟩) (by rw [e1]; exact each L1 fun q hq => ⟨[], by have := reads_isT (tk q (hs1 q hq)); rw [e1] at this; exact this, by simp⟩)
    (PySem.W.AllAlike.of alike_ti) (.inl fun d hd => ?_) (by rw [hlen1, sizeLine_eq]; omega) (fun b _ => ?_) fun out hol eo => ?_))
  · obtain ⟨l, hl, rfl⟩ := List.mem_map.mp hd
    obtain ⟨q, hq, rfl⟩ := List.mem_map.mp hl
    have := hne q (hs1 q hq)
    cases hq2 : q.2 with
    | nil => exact absurd hq2 this
    | cons x r => exact ⟨_, _, rfl⟩
  · have e1 : (ti b).depth = 1 := by
      show PyData.depth (.tuple _) = 1
      rw [PyData.depth, PySem.W.depth_ints]
    rw [e1]
    simp
    omega
  · rw [le_ti] at eo
    have eo' : PySem.W.EachIs (fun u (l : List Int) => ∃ q ∈ L, u = Value.ref q.1 ∧ q.2 = l) out (sortLL (L.map (·.2))) := by
      rw [← sort_congr (p1.map (·.2))]
      exact eo
    obtain ⟨c, hc⟩ := sortedHeap_at (vs := vs) (out := out.toArray) hoL
    refine wpAny_pure ⟨_, rfl, hQ _ s1.heap.objs.size out c (fun b u e => ?_) g1 o1 hz hc eo'⟩
    have q := k1 b u e
    have hlt := Heap.lt_size q
    show (sortedHeap (s1.heap.push (seqObj "list" vs.toArray 0)) s1.heap.objs.size vs out.toArray).get? b = some u
    rw [sortedHeap_old (Nat.ne_of_lt hlt) (by rw [size_push']; exact Nat.lt_succ_of_lt hlt)]
    exact Heap.get?_push_of_some _ q
end
section
variable {X : Cx}
def rSortSet (X : Cx) : List V → Hp → VK → Prop := fun vs H Q => ∃ (F : Hp) (a : Addr) (ls : List (List Int)), Ex F H ∧ vs = [V.ref a] ∧ SetSt X F H a ls ∧ (∀ l ∈ ls, l ≠ []) ∧
  ∀ (ys : List V) (p : Addr), DpAll X.K F ys ((sortN ls).map ti) → H p = none → Q (.ref p) (upd H p (.lst ys))
theorem back_dp {K : PySem.W.Frag} {F : Hp} {L : List (Addr × List Int)} (hL : ∀ p ∈ L, SqT K F p.1 (p.2.map V.int)) : ∀ {out : List Value} {ls : List (List Int)}, PySem.W.EachIs (fun u (l : List Int) => ∃ q ∈ L, u = Value.ref q.1 ∧ q.2 = l) out ls → Vals (out.map bkV) out ∧ DpAll K F (out.map bkV) (ls.map ti)
  | _, _, .nil => ⟨.nil, .nil⟩
  | _, _, .cons ⟨q, hq, e, e2⟩ r => by
    subst e e2
    obtain ⟨h1, h2⟩ := back_dp hL r
    exact ⟨.cons (show RelV (.ref q.1) (.ref q.1) from rfl) h1, .cons (.tup (hL q hq) (da_of_ints _)) h2⟩
theorem cr_sortSet (hc : X.calm = true) (hu : X.A.units + 64 < cLine) : CallR X (.builtin "sorted") (rSortSet X) := by
  intro pins s σ H vs us Q I r h
  obtain ⟨F, a, ls, ex, rfl, ⟨L, a1, a2, a3, a4, a5, a6⟩, hne, q⟩ := h
  have R0 : SetT0 X.prog X.w s.heap a L := (I.hok a _ a1).1
  obtain ⟨es, ep, t, R⟩ := R0.full fun p hp => I.isT (st_ex ex (a3 p hp))
  rw [Vals.ref1 r]
  refine sorted_setU R (I.ok.hd hc) hu (fun p hp => hne _ ((a6 _).mp (List.mem_map_of_mem hp))) fun s' p out c k g o hp hg eo => ?_
  rw [sortN_of a4 a6] at eo
  obtain ⟨hv, hd⟩ := back_dp a3 eo
  have hfew : (out.map bkV).length < 64 := by
    rw [da_len hd, List.length_map, ← sortN_of a4 a6, (sort_perm _).length_eq, List.length_map]
    exact R.few
  have hn : H p = none := I.hok.fresh hp
  have J : Inv X pins σ (upd H p (.lst (out.map bkV))) { s with heap := s'.heap, gens := s'.gens, drawn := s'.drawn, toks := s'.toks } :=
    I.call (ch := []) (Un.laid k hp hn) (I.hok.laid k hp ⟨by rw [sizeLine_eq]; omega, out, c, hv, hg⟩) (by rw [g]; exact I.bare) (fun _ z => nomatch z)
  have e : s' = { s with heap := s'.heap, gens := s'.gens, drawn := s'.drawn, toks := s'.toks } := by
    cases s'
    cases s
    cases o
    rfl
  rw [e]
  exact ⟨.ref p, _, J, rfl, q _ p hd hn⟩
theorem je_sortSet {W : WX} {F0 H0 : Hp} {Γ : List S} {e : Expr} {np pos : Pos} {ls : List (List Int)} (hc : X.calm = true) (hu : X.A.units + 64 < cLine) (hne : ∀ l ∈ ls, l ≠ []) (hm : X.mg "sorted" = none) (h : PE X e (tSc3 X F0 H0 Γ ls)) (hg : Gl X "sorted" := by rfl)
    (s1 : starEach [e] X.env = (false, eval e X.env) :: starEach [] X.env := by rfl) : JE X W F0 H0 Γ (.Call (.Name "sorted" np) [e] [] pos) (.o ((sortN ls).map ti)) :=
  pe_imp (pe_callB (cr_sortSet hc hu) hg hm (by decide +kernel) (pa_cons h pa_nil s1) (by decide) (by decide) s1 rfl) fun σ H Q ⟨F, ok, q⟩ => ⟨F, ok, fun D F1 H1 z1 nD st =>
    ⟨F1, D, ls, z1.s, rfl, st, hne, fun ys p d hp => q p ys F1 _ (z1.trans (Fz.fresh z1.s hp)) (z1.h.none hp) upd_same (z1.s.none hp) d⟩⟩
end
end TB

namespace TB
open PySem L2 PySem.Spec PyProof.Rows
/-! ### range with the step 2; loops that break -/
def upN (i j : Int) : Nat := if i < j then ((j - i - 1) / 2 + 1).toNat else 0
theorem rgc_up {i j : Int} (h : -(2 ^ 60) ≤ i ∧ i < 2 ^ 60 ∧ -(2 ^ 60) ≤ j ∧ j < 2 ^ 60) : RgC i j 2 (upN i j) := by
  have e : Builtin.Range.rangeSize i j 2 = (upN i j : Nat) := by
    unfold Builtin.Range.rangeSize upN
    rw [if_pos (by decide)]
    split <;> omega
  refine ⟨by decide, by decide, ?_, e⟩
  unfold Builtin.Range.small
  rw [e]
  unfold upN
  simp only [Builtin.Range.rangeFitsLong, Bool.and_eq_true, Bool.or_eq_true, decide_eq_true_eq, beq_iff_eq, show ((2 : Int) > 0) by decide, if_true]
  split <;> omega
section
variable {X : Cx} {W : WX} {F0 H0 : Hp} {Γ : List S} {a b c tg it : Expr} {pos np : Pos} {i j : Int} {body : List Stmt} {α β : Type}
theorem ji_up2 (hm : X.mg "range" = none) (h0 : -(2 ^ 60) ≤ i ∧ i < 2 ^ 60 ∧ -(2 ^ 60) ≤ j ∧ j < 2 ^ 60) (ha : JE X WF F0 H0 Γ a (.v (.int i))) (hb : JE X WF F0 H0 Γ b (.v (.int j))) (hc : JE X WF F0 H0 Γ c (.v (.int 2))) (hg : Gl X "range" := by rfl)
    (hs : starEach [a, b, c] X.env = (false, eval a X.env) :: starEach [b, c] X.env := by rfl) (hs2 : starEach [b, c] X.env = (false, eval b X.env) :: starEach [c] X.env := by rfl) (hs3 : starEach [c] X.env = (false, eval c X.env) :: starEach [] X.env := by rfl) (hpl : (backTo pos (starEach [b, c] X.env)).any (·.1) = false := by rfl) :
    JI X F0 H0 Γ tg (.Call (.Name "range" np) [a, b, c] [] pos) (rngC i 2 (upN i j)) :=
  pi_imp (pi_range3 hg hm (ja_cons ha (ja_cons hb (ja_cons hc ja_nil hs3) hs2) hs) hs hpl) fun σ H R ⟨F, ok, q⟩ => ⟨F, ok, fun vs F1 H1 z1 d1 => by
    cases d1 with
    | cons k1 k2 =>
      cases k2 with
      | cons k2 k3 =>
        cases k3 with
        | cons k3 k4 =>
          cases k1; cases k2; cases k3; cases k4
          exact ⟨i, j, 2, upN i j, rfl, rgc_up h0, q _ F1 H1 z1 itc_d⟩⟩
theorem take_while (p : α → Bool) : ∀ xs : List α, xs.take (xs.takeWhile p).length = xs.takeWhile p
  | [] => rfl
  | x :: xs => by
    rw [List.takeWhile_cons]
    split
    · rw [List.length_cons, List.take_succ_cons, take_while p xs]
    · rfl
theorem while_le (p : α → Bool) : ∀ xs : List α, (xs.takeWhile p).length ≤ xs.length
  | [] => Nat.le_refl _
  | x :: xs => by
    rw [List.takeWhile_cons]
    split
    · rw [List.length_cons, List.length_cons]; exact Nat.succ_le_succ (while_le p xs)
    · exact Nat.zero_le _
theorem while_in (p : α → Bool) : ∀ (xs : List α) (k : Nat) (a : α), xs[k]? = some a → k < (xs.takeWhile p).length → p a = true
  | [], k, a, h, _ => by simp at h
  | x :: xs, k, a, h, hk => by
    rw [List.takeWhile_cons] at hk
    by_cases c : p x = true
    · rw [if_pos c, List.length_cons] at hk
      cases k with
      | zero => simp at h; subst h; exact c
      | succ k => exact while_in p xs k a (by simpa using h) (by omega)
    · rw [if_neg c] at hk
      simp at hk
theorem while_out (p : α → Bool) : ∀ (xs : List α) (a : α), xs[(xs.takeWhile p).length]? = some a → p a = false
  | [], a, h => by simp at h
  | x :: xs, a, h => by
    rw [List.takeWhile_cons] at h
    by_cases c : p x = true
    · rw [if_pos c, List.length_cons] at h
      exact while_out p xs a (by simpa using h)
    · rw [if_neg c] at h
      simp at h
      subst h
      cases q : p x with
      | true => exact absurd q c
      | false => rfl
/-- for a in xs, until p is not true, where the loop is left -/
theorem js_forBrk {T : List S → D → List S → Prop} {xs : List α} {enc : α → D} (G : β → List S) (Gt : β → α → List S) (step : β → α → β) (b0 : β) (inv : Nat → β → Prop) (p : α → Bool) (hp : PassesOwn (model X.prog X.w) X.A X.env X.xe) (hc : X.calm = true) (hi : JI X F0 H0 Γ tg it (xs.map enc)) (hg : JG X F0 H0 tg T) (h0 : Le Γ (G b0)) (hi0 : inv 0 b0)
    (ht : ∀ b a, T (G b) (enc a) (Gt b a)) (hb : ∀ k b a, xs[k]? = some a → inv k b → p a = true → (∃ so, JSs X W F0 H0 (Gt b a) body so ∧ Turns (G (step b a)) so) ∧ inv (k + 1) (step b a))
    (hbk : ∀ k b a, xs[k]? = some a → inv k b → p a = false → JSs X W F0 H0 (Gt b a) body (.bk (G b))) (hs : ∀ x, foldedSetIterable it X.env x = pure x := by intro _; rfl) :
    JS X W F0 H0 Γ (.For tg it body [] pos) (.nx (G ((xs.takeWhile p).foldl step b0))) ∧ inv (xs.takeWhile p).length ((xs.takeWhile p).foldl step b0) := by
  have hml := while_le p xs
  have hinv : ∀ k, k ≤ (xs.takeWhile p).length → inv k ((xs.take k).foldl step b0) := fun k => by
    induction k with
    | zero => intro _; rw [List.take_zero]; exact hi0
    | succ k ih =>
      intro hk
      have e : xs[k]? = some xs[k] := List.getElem?_eq_getElem (by omega)
      rw [foldl_take_succ e]
      exact (hb k _ _ e (ih (by omega)) (while_in p xs k _ e (by omega))).2
  refine ⟨?_, by have := hinv _ (Nat.le_refl _); rwa [take_while] at this⟩
  refine js_for (W := W) (pos := pos) (so := .nx (G ((xs.takeWhile p).foldl step b0))) (ds := xs.map enc) (fun k => G ((xs.take k).foldl step b0)) (fun k => match xs[k]? with | some a => Gt ((xs.take k).foldl step b0) a | none => []) (xs.takeWhile p).length hp hc hi hg (by simpa using h0) (by rw [List.length_map]; exact hml)
    (fun k d ed _ => by
      rw [List.getElem?_map] at ed
      cases q : xs[k]? with
      | none => rw [q] at ed; cases ed
      | some a =>
        rw [q] at ed
        cases ed
        exact ht _ _) (fun k d ed hk => by
      rw [List.getElem?_map] at ed
      cases q : xs[k]? with
      | none => rw [q] at ed; cases ed
      | some a =>
        show ∃ so, JSs X W F0 H0 (Gt ((xs.take k).foldl step b0) a) body so ∧ Turns (G ((xs.take (k + 1)).foldl step b0)) so
        rw [foldl_take_succ q]
        exact (hb k _ a q (hinv k (by omega)) (while_in p xs k a q hk)).1) (fun h => ?_) (fun _ => by
      show SO.nx (G ((xs.takeWhile p).foldl step b0)) = SO.nx (G ((xs.take (xs.takeWhile p).length).foldl step b0))
      rw [take_while]) hs
  rw [List.length_map] at h
  have e : xs[(xs.takeWhile p).length]? = some xs[(xs.takeWhile p).length] := List.getElem?_eq_getElem h
  refine ⟨.bk (G ((xs.takeWhile p).foldl step b0)), ?_, trivial, .inr ⟨_, rfl, rfl⟩⟩
  have := hbk _ _ _ e (hinv _ (Nat.le_refl _)) (while_out p xs _ e)
  rw [take_while] at this
  show JSs X W F0 H0 (match xs[(xs.takeWhile p).length]? with | some a => Gt ((xs.take (xs.takeWhile p).length).foldl step b0) a | none => []) body _
  rw [e, take_while]
  exact this
end
/-! ### the numbers of a prime norm -/
def ldR (t a b c : Int) : Int := t - a * a - b * b - c * c
def ldC (t a b : Int) (F : List (List Int)) (l : Nat) : List (List Int) :=
  if rootI (ldR t a b (a % 2 + (l : Nat) * 2)) * rootI (ldR t a b (a % 2 + (l : Nat) * 2)) = ldR t a b (a % 2 + (l : Nat) * 2) ∧ b + (a % 2 + (l : Nat) * 2) + rootI (ldR t a b (a % 2 + (l : Nat) * 2)) ≤ a
  then F ++ [[a, b, a % 2 + (l : Nat) * 2, rootI (ldR t a b (a % 2 + (l : Nat) * 2))]] else F
def ldP (t a b : Int) (l : Nat) : Bool := !decide (ldR t a b (a % 2 + (l : Nat) * 2) < 0)
def ldB (t a : Int) (F : List (List Int)) (j : Nat) : List (List Int) :=
  ((List.range (upN (a % 2) (a - (a % 2 + (j : Nat) * 2) + 1))).takeWhile (ldP t a (a % 2 + (j : Nat) * 2))).foldl (ldC t a (a % 2 + (j : Nat) * 2)) F
def ldA (t : Int) (F : List (List Int)) (i : Nat) : List (List Int) := (List.range (upN ((0 + (i : Int)) % 2) (0 + (i : Int) + 1))).foldl (ldB t (0 + (i : Int))) F
def leadF (t : Int) : List (List Int) := (List.range (rootI t + 1).toNat).foldl (ldA t) []
def signF (a b c d : Int) : List (List Int) := [[a, b, c, d], [a, b, c, -d], [a, b, -c, d], [a, b, -c, -d], [a, -b, c, d], [a, -b, c, -d], [a, -b, -c, d], [a, -b, -c, -d]]
def signsQ (q : List Int) : List (List Int) := signF (q.getD 0 0) (q.getD 1 0) (q.getD 2 0) (q.getD 3 0)
def numsF (p : Int) : List (List Int) := (leadF (4 * p)).flatMap fun q => sortN (signsQ q)
def numsV (p : Int) : List (List Int) := (leadF (4 * p)).flatMap fun q => isortL (nubL (signsQ q))
theorem sortN_V (ls : List (List Int)) : sortN ls = isortL (nubL ls) := by unfold sortN; exact sort_ins (nubL ls)
theorem nums_V (p : Int) : numsF p = numsV p := by
  have e : (fun q => sortN (signsQ q)) = fun q => isortL (nubL (signsQ q)) := funext fun q => sortN_V (signsQ q)
  exact congrArg (fun f => (leadF (4 * p)).flatMap f) e
def primF (p : Int) : List (List Int) := sortLL ((numsF p).filter fun x => decide (canonL x = x))
def primV (p : Int) : List (List Int) := isortL ((numsV p).filter fun x => decide (lcanL x = x))
theorem prim_V (p : Int) : primF p = primV p := by
  have e : (fun x : List Int => decide (canonL x = x)) = fun x => decide (lcanL x = x) := funext fun x => by rw [lcan_canon]
  unfold primF primV
  rw [e, nums_V, sort_ins]
def elevP : List Int := [2, 3, 5, 7, 11, 13, 17, 19, 23, 29, 31]
def elevOk (p : Int) : Bool := isPrimeF p && decide (primV p = lprV p) && prOk p && decide ((lprV p).length = (if p = 2 then 1 else p + 1).toNat) && (leadF (4 * p)).all (fun q => decide (q.length = 4)) && decide ((leadF (4 * p)).length ≤ 100) && decide ((numsV p).length ≤ 1000) && (numsV p).all fun x => isNum x && !zeroB x && x.all fun z => decide (z.natAbs < 100)
theorem ev_2 : elevOk 2 = true := by decide +kernel
theorem ev_3 : elevOk 3 = true := by decide +kernel
theorem ev_5 : elevOk 5 = true := by decide +kernel
theorem ev_7 : elevOk 7 = true := by decide +kernel
theorem ev_11 : elevOk 11 = true := by decide +kernel
theorem ev_13 : elevOk 13 = true := by decide +kernel
theorem ev_17 : elevOk 17 = true := by decide +kernel
theorem ev_19 : elevOk 19 = true := by decide +kernel
theorem ev_23 : elevOk 23 = true := by decide +kernel
theorem ev_29 : elevOk 29 = true := by decide +kernel
theorem ev_31 : elevOk 31 = true := by decide +kernel
theorem elev_all : elevP.all elevOk = true := by
  simp only [elevP, List.all_cons, List.all_nil, ev_2, ev_3, ev_5, ev_7, ev_11, ev_13, ev_17, ev_19, ev_23, ev_29, ev_31, Bool.and_self]
theorem elev_ok {p : Int} (h : p ∈ elevP) : isPrimeF p = true ∧ primF p = lprimes p ∧ (lprimes p).length = (if p = 2 then 1 else p + 1).toNat ∧ (∀ q ∈ leadF (4 * p), q.length = 4) ∧ (leadF (4 * p)).length ≤ 100 ∧ (numsF p).length ≤ 1000 ∧ ∀ x ∈ numsF p, G 7 x ∧ zeroB x = false := by
  have := List.all_eq_true.mp elev_all p h
  unfold elevOk at this
  simp only [Bool.and_eq_true] at this
  obtain ⟨⟨⟨⟨⟨⟨⟨h1, h2⟩, h3⟩, h4⟩, h5⟩, h6⟩, h7⟩, h8⟩ := this
  refine ⟨h1, ?_, ?_, fun q hq => of_decide_eq_true (List.all_eq_true.mp h5 q hq), of_decide_eq_true h6, ?_, fun x hx => ?_⟩
  · rw [prim_V, lpr_V]; exact of_decide_eq_true h2
  · rw [lpr_V]; exact of_decide_eq_true h4
  · rw [nums_V]; exact of_decide_eq_true h7
  · rw [nums_V] at hx
    have := List.all_eq_true.mp h8 x hx
    simp only [Bool.and_eq_true] at this
    obtain ⟨⟨g1, g2⟩, g3⟩ := this
    refine ⟨⟨g1, fun z hz => ?_⟩, by simpa using g2⟩
    have := of_decide_eq_true (List.all_eq_true.mp g3 z hz)
    unfold Bt
    omega
theorem elev_pr {p : Int} (h : p ∈ elevP) : 2 ≤ p ∧ p ≤ 31 := by
  unfold elevP at h
  simp only [List.mem_cons, List.not_mem_nil, or_false] at h
  omega
theorem elev_lp {p : Int} (h : p ∈ elevP) : ∀ x ∈ lprimes p, G 7 x ∧ normL x = p ∧ lcanL x = x := by
  have := List.all_eq_true.mp elev_all p h
  unfold elevOk at this
  simp only [Bool.and_eq_true] at this
  obtain ⟨⟨⟨⟨⟨⟨⟨h1, h2⟩, h3⟩, h4⟩, h5⟩, h6⟩, h7⟩, h8⟩ := this
  unfold prOk at h3
  simp only [Bool.and_eq_true] at h3
  intro x hx
  rw [lpr_V] at hx
  have := List.all_eq_true.mp h3.2 x hx
  simp only [Bool.and_eq_true] at this
  obtain ⟨⟨⟨g1, g2⟩, g3⟩, g4⟩ := this
  refine ⟨⟨g1, fun z hz => ?_⟩, of_decide_eq_true g2, of_decide_eq_true g3⟩
  have := of_decide_eq_true (List.all_eq_true.mp g4 z hz)
  unfold Bt
  omega
/-- each turn appends at most one -/
theorem ldC_len (t a b : Int) (F : List (List Int)) (l : Nat) : (ldC t a b F l).length ≤ F.length + 1 := by
  unfold ldC
  split
  · rw [List.length_append]; exact Nat.le_refl _
  · omega
def R_lead : List D → Out → Prop := fun ds o => ∃ t : Int, ds = [.int t] ∧ 0 ≤ t ∧ t ≤ 4000 ∧ o = .o ((leadF t).map ti)
def R_wsigns : List D → Out → Prop := fun ds o => ∃ a b c d : Int, ds = [ti [a, b, c, d]] ∧ o = .o ((sortN (signF a b c d)).map ti)
def R_chkp : List D → Out → Prop := fun ds o => ∃ p : Int, ds = [.int p] ∧ p ≤ 1000 ∧ isPrimeF p = true ∧ o = .v .none
def R_prof : List D → Out → Prop := fun ds o => ∃ p : Int, ds = [.int p] ∧ p ∈ elevP ∧ o = .o ((lprimes p).map ti)
end TB

namespace TB
open PySem L2 PySem.Spec PyProof.Rows
theorem rootL {t : Int} (h1 : t ≤ 4000) : 0 ≤ rootI t ∧ rootI t ≤ 63 := by
  unfold rootI
  have := (isqrt_small (n := t.toNat) (by omega)).1
  generalize Float64.isqrt t.toNat = r at this
  refine ⟨by omega, ?_⟩
  have : ¬ 64 ≤ r := fun h => by
    have : 64 * 64 ≤ r * r := Nat.mul_le_mul h h
    omega
  omega
theorem fold_len {α β : Type} {step : List β → α → List β} {c : Nat} (h : ∀ F x, (step F x).length ≤ F.length + c) : ∀ (xs : List α) (F : List β), (xs.foldl step F).length ≤ F.length + xs.length * c
  | [], F => by simp
  | x :: xs, F => by
    have h1 := fold_len h xs (step F x)
    have h2 := h F x
    rw [List.foldl_cons, List.length_cons, Nat.succ_mul]
    omega
theorem ldB_len {t a : Int} (ha : a ≤ 63) (h0 : 0 ≤ a) (F : List (List Int)) (j : Nat) : (ldB t a F j).length ≤ F.length + 33 := by
  have h1 := fold_len (ldC_len t a (a % 2 + (j : Nat) * 2)) ((List.range (upN (a % 2) (a - (a % 2 + (j : Nat) * 2) + 1))).takeWhile (ldP t a (a % 2 + (j : Nat) * 2))) F
  have h2 := while_le (ldP t a (a % 2 + (j : Nat) * 2)) (List.range (upN (a % 2) (a - (a % 2 + (j : Nat) * 2) + 1)))
  rw [List.length_range] at h2
  have h3 : upN (a % 2) (a - (a % 2 + (j : Nat) * 2) + 1) ≤ 33 := by unfold upN; split <;> omega
  unfold ldB
  omega
theorem ldA_len {t : Int} (F : List (List Int)) {i : Nat} (hi : i ≤ 63) : (ldA t F i).length ≤ F.length + 1089 := by
  have h1 := fold_len (step := ldB t (0 + (i : Int))) (fun F j => ldB_len (t := t) (a := 0 + (i : Int)) (by omega) (by omega) F j) (List.range (upN ((0 + (i : Int)) % 2) (0 + (i : Int) + 1))) F
  have h3 : upN ((0 + (i : Int)) % 2) (0 + (i : Int) + 1) ≤ 33 := by unfold upN; split <;> omega
  rw [List.length_range] at h1
  have : upN ((0 + (i : Int)) % 2) (0 + (i : Int) + 1) * 33 ≤ 33 * 33 := Nat.mul_le_mul_right _ h3
  unfold ldA
  omega
theorem upN_lt {i j : Int} {k : Nat} (h : k < upN i j) : i + (k : Int) * 2 < j := by
  unfold upN at h
  split at h <;> omega
theorem sign_ne {a b c d : Int} : ∀ l ∈ signF a b c d, l ≠ [] := fun l hl e => by
  subst e
  unfold signF at hl
  simp at hl
theorem jt_lt_ok {r : Int} {b : Bool} (h : (!decide (r < 0)) = b) : decide (r < 0) = !b := by cases q : decide (r < 0) <;> rw [q] at h <;> subst h <;> rfl
theorem nums_map (p : Int) : ((leadF (4 * p)).filter fun _ => true).flatMap (fun q => ((sortN (signsQ q)).filter fun _ => true).map ti) = (numsF p).map ti := by
  have e : ∀ xs : List (List Int), xs.filter (fun _ => true) = xs := fun xs => List.filter_eq_self.mpr fun _ _ => rfl
  rw [e]
  unfold numsF
  rw [List.map_flatMap]
  congr 1
  funext q
  rw [e]
theorem numsF_len {p : Int} (h : (numsF p).length ≤ 1000) : (((leadF (4 * p)).filter fun _ => true).flatMap fun q => (sortN (signsQ q)).filter fun _ => true).length ≤ 1000 := by
  have e : ∀ xs : List (List Int), xs.filter (fun _ => true) = xs := fun xs => List.filter_eq_self.mpr fun _ _ => rfl
  have e2 : (fun q => (sortN (signsQ q)).filter fun _ => true) = fun q => sortN (signsQ q) := funext fun q => e _
  rw [e, e2]
  exact h
end TB

namespace TB
open PySem L2 PySem.Spec PyProof.Rows
/-! ### k23 -/
end TB

namespace TB
open PySem L2 PySem.Spec PyProof.Rows
/-! ### dividing by a number on the left -/
theorem ldivF_mul {f y : List Int} (hf : isNum f = true) (hy : isNum y = true) (hv : 0 < normL f) : ldivF f (mulL f y) = some y := by
  have ew : mulL (conjL f) (mulL f y) = timesL (normL f) y := by rw [← mul_asc (num_conj hf) hf hy, (mul_conj hf).2, (mul_int _ hy).1]
  unfold ldivF
  simp only [ew]
  generalize normL f = v at hv
  obtain ⟨a, b, c, d, e4⟩ := four (num_len hy)
  rw [e4] at hy ⊢
  have par := (isNum4 _ _ _ _).mp hy
  have m0 : ∀ z : Int, z * v % v = 0 := fun z => Int.mul_emod_left _ _
  have q0 : ∀ z : Int, z * v / v = z := fun z => Int.mul_ediv_cancel _ (by omega)
  simp only [timesL, quoL, List.map_cons, List.map_nil, List.any_cons, List.any_nil, m0, q0, List.getD_cons_zero]
  obtain ⟨p1, p2, p3⟩ := par
  have s0 : (a - a) % 2 = 0 := by omega
  have s1 : (b - a) % 2 = 0 := by omega
  have s2 : (c - a) % 2 = 0 := by omega
  have s3 : (d - a) % 2 = 0 := by omega
  simp [s1, s2, s3]
theorem ldivF_some {f n q : List Int} (hf : isNum f = true) (hn : isNum n = true) (hv : 0 < normL f) (h : ldivF f n = some q) : isNum q = true ∧ n = mulL f q := by
  have hw := num_mul (num_conj hf) hn
  have key : ∀ w : List Int, isNum w = true → (if (w.any fun z => decide (z % normL f ≠ 0)) = true then none else if ((quoL (normL f) w).any fun s => decide ((s - (quoL (normL f) w).getD 0 0) % 2 ≠ 0)) = true then none else some (quoL (normL f) w)) = some q → isNum q = true ∧ w = timesL (normL f) q := by
    intro w hw h
    generalize normL f = v at hv h
    split at h
    · cases h
    · rename_i c1
      split at h
      · cases h
      · rename_i c2
        have e := Option.some.inj h
        obtain ⟨a, b, c, d, rfl⟩ := four (num_len hw)
        simp only [quoL, List.map_cons, List.map_nil, List.any_cons, List.any_nil, List.getD_cons_zero, Bool.or_false, Bool.or_eq_true, decide_eq_true_eq, not_or, Classical.not_not] at c1 c2 e
        obtain ⟨a1, a2, a3, a4⟩ := c1
        obtain ⟨b0, b1, b2, b3⟩ := c2
        subst e
        refine ⟨(isNum4 _ _ _ _).mpr ⟨by omega, by omega, by omega⟩, ?_⟩
        show [a, b, c, d] = [a / v * v, b / v * v, c / v * v, d / v * v]
        rw [Int.ediv_mul_cancel (Int.dvd_of_emod_eq_zero a1), Int.ediv_mul_cancel (Int.dvd_of_emod_eq_zero a2), Int.ediv_mul_cancel (Int.dvd_of_emod_eq_zero a3), Int.ediv_mul_cancel (Int.dvd_of_emod_eq_zero a4)]
  obtain ⟨hq, e⟩ := key _ hw h
  refine ⟨hq, ?_⟩
  have e2 := congrArg (mulL f) e
  rw [← mul_asc hf (num_conj hf) hn, (mul_conj hf).1, (mul_int _ hn).1, ← (mul_int (normL f) hq).2, ← mul_asc hf hq (num_int _), (mul_int (normL f) (num_mul hf hq)).2] at e2
  exact times_inj (by omega) e2
theorem ldivF_iff {f n : List Int} (hf : isNum f = true) (hn : isNum n = true) (hv : 0 < normL f) : (ldivF f n).isSome = true ↔ LDiv f n := by
  constructor
  · intro h
    obtain ⟨q, e⟩ := Option.isSome_iff_exists.mp h
    obtain ⟨hq, en⟩ := ldivF_some hf hn hv e
    exact ⟨q, hq, en⟩
  · rintro ⟨y, hy, rfl⟩
    rw [ldivF_mul hf hy hv]
    rfl
/-! ### the greatest common left divisor with a prime, 2 among them -/
theorem elev_sq : ∀ p ∈ elevP, ∀ n ∈ List.range 962, n ≠ 0 → (p * p) % (n : Int) = 0 → (n : Int) = 1 ∨ (n : Int) = p ∨ (n : Int) = p * p := by decide +kernel
theorem wp_elev {p : Int} (hp : p ∈ elevP) : isNum (wp p) = true ∧ zeroB (wp p) = false ∧ normL (wp p) = p * p ∧ conjL (wp p) = wp p ∧ G 10 (wp p) := by
  revert p
  have h : ∀ p ∈ elevP, isNum (wp p) = true ∧ zeroB (wp p) = false ∧ normL (wp p) = p * p ∧ conjL (wp p) = wp p ∧ ∀ z ∈ wp p, z.natAbs < 2 ^ 10 := by decide +kernel
  intro p hp
  obtain ⟨h1, h2, h3, h4, h5⟩ := h p hp
  exact ⟨h1, h2, h3, h4, h1, h5⟩
theorem lg_elev {p : Int} {x : List Int} (hp : p ∈ elevP) (hx : isNum x = true) (hd : ¬ Div p x) (h : normL x % p = 0) : normL (lgcd x (wp p)) = p := by
  obtain ⟨w1, w2, w3, w4, _⟩ := wp_elev hp
  obtain ⟨p1, p2⟩ := elev_pr hp
  have hz : ¬ (zeroB x = true ∧ zeroB (wp p) = true) := by rw [w2]; exact fun h => Bool.noConfusion h.2
  have sp := lgcd_spec hx w1 hz
  obtain ⟨hdn, hdz, ⟨f, hf, ef⟩, ⟨e, he, ee⟩, x', y', hx', hy', es⟩ := sp
  generalize lgcd x (wp p) = d at *
  have n1 := norm_pos hdn hdz
  have en := congrArg normL ee
  rw [w3, norm_mul hdn he] at en
  have n2 : 0 < normL e := by
    have n2' := norm_nn he
    rcases Int.lt_or_eq_of_le n2' with q | q
    · exact q
    · rw [← q, Int.mul_zero] at en
      have : 0 < p * p := Int.mul_pos (by omega) (by omega)
      omega
  have hdv : normL d ∣ p * p := ⟨_, en⟩
  have hp2 : p * p ≤ 961 := by
    have : p * p ≤ 31 * 31 := Int.mul_le_mul p2 p2 (by omega) (by decide)
    omega
  have hle := Int.le_of_dvd (Int.mul_pos (by omega) (by omega)) hdv
  have cs := elev_sq p hp (normL d).toNat (List.mem_range.mpr (by omega)) (by omega)
  have e1 : (((normL d).toNat : Nat) : Int) = normL d := by omega
  rw [e1] at cs
  rcases cs (Int.emod_eq_zero_of_dvd hdv) with c | c | c
  · exfalso
    refine hd ?_
    have e2 : ([2, 0, 0, 0] : List Int) = addL (mulL x (mulL x' (conjL d))) (mulL (wp p) (mulL y' (conjL d))) := by
      rw [← mul_asc hx hx' (num_conj hdn), ← mul_asc w1 hy' (num_conj hdn), ← mul_addl (num_mul hx hx') (num_mul w1 hy') (num_conj hdn), ← es, (mul_conj hdn).1, c]
      rfl
    have hX := num_mul hx' (num_conj hdn)
    have hY := num_mul hy' (num_conj hdn)
    generalize mulL x' (conjL d) = X at *
    generalize mulL y' (conjL d) = Y at *
    obtain ⟨k, ek⟩ : p ∣ normL x := Int.dvd_of_emod_eq_zero h
    have e3 : conjL x = timesL p (addL (timesL k X) (mulL (conjL x) Y)) := by
      have e4 := congrArg (mulL (conjL x)) e2
      rw [mul_oneR (num_conj hx), mul_addr (num_conj hx) (num_mul hx hX) (num_mul w1 hY), ← mul_asc (num_conj hx) hx hX, (mul_conj hx).2, (mul_int (normL x) hX).1] at e4
      have e5 : mulL (conjL x) (mulL (wp p) Y) = timesL p (mulL (conjL x) Y) := by
        unfold wp
        rw [(mul_int p hY).1, ← (mul_int p hY).2, ← mul_asc (num_conj hx) hY (num_int p), (mul_int p (num_mul (num_conj hx) hY)).2]
      rw [e5, ek] at e4
      refine e4.trans ?_
      have hZ := num_mul (num_conj hx) hY
      generalize mulL (conjL x) Y = Z at hZ
      obtain ⟨a, b, c', d', rfl⟩ := four (num_len hX)
      obtain ⟨q, r, s, t, rfl⟩ := four (num_len hZ)
      show [a * (p * k) + q * p, b * (p * k) + r * p, c' * (p * k) + s * p, d' * (p * k) + t * p] = [(a * k + q) * p, (b * k + r) * p, (c' * k + s) * p, (d' * k + t) * p]
      congr 1
      · grind
      congr 1
      · grind
      congr 1
      · grind
      congr 1
      grind
    have hW : isNum (addL (timesL k X) (mulL (conjL x) Y)) = true := num_add (num_times k hX) (num_mul (num_conj hx) hY)
    refine ⟨conjL (addL (timesL k X) (mulL (conjL x) Y)), num_conj hW, ?_⟩
    rw [← conj_timesL p hW, ← e3, conj_conj hx]
  · exact c
  · exfalso
    refine hd ?_
    have ne : normL e = 1 := by
      rw [c] at en
      have hpp : 0 < p * p := Int.mul_pos (by omega) (by omega)
      have : p * p * normL e = p * p * 1 := by rw [Int.mul_one]; exact en.symm
      exact Int.eq_of_mul_eq_mul_left (by omega) this
    have e2 : d = timesL p (conjL e) := by
      have := congrArg (fun z => mulL z (conjL e)) ee
      have this : mulL (wp p) (conjL e) = mulL (mulL d e) (conjL e) := this
      rw [mul_asc hdn he (num_conj he), (mul_conj he).1, ne] at this
      rw [show ([2 * 1, 0, 0, 0] : List Int) = [2, 0, 0, 0] from rfl, mul_oneR hdn] at this
      rw [← this]
      unfold wp
      exact (mul_int p (num_conj he)).1
    refine ⟨mulL (conjL e) f, num_mul (num_conj he) hf, ?_⟩
    rw [ef, e2, times_mul p (num_conj he) hf]
/-! ### all canonical numbers of a small prime norm -/
def smP : List Int := [2, 3, 5, 7, 11, 13, 17]
theorem sm_elev : ∀ p ∈ smP, p ∈ elevP := by decide
def litP : Int → List (List Int)
  | 2 => [[2, 2, 0, 0]]
  | 3 => [[3, 1, -1, -1], [3, 1, -1, 1], [3, 1, 1, -1], [3, 1, 1, 1]]
  | 5 => [[4, -2, 0, 0], [4, 0, -2, 0], [4, 0, 0, -2], [4, 0, 0, 2], [4, 0, 2, 0], [4, 2, 0, 0]]
  | 7 => [[5, -1, -1, -1], [5, -1, -1, 1], [5, -1, 1, -1], [5, -1, 1, 1], [5, 1, -1, -1], [5, 1, -1, 1], [5, 1, 1, -1], [5, 1, 1, 1]]
  | 11 => [[6, -2, -2, 0], [6, -2, 0, -2], [6, -2, 0, 2], [6, -2, 2, 0], [6, 0, -2, -2], [6, 0, -2, 2], [6, 0, 2, -2], [6, 0, 2, 2], [6, 2, -2, 0], [6, 2, 0, -2], [6, 2, 0, 2], [6, 2, 2, 0]]
  | 13 => [[6, -4, 0, 0], [6, 0, -4, 0], [6, 0, 0, -4], [6, 0, 0, 4], [6, 0, 4, 0], [6, 4, 0, 0], [7, -1, -1, -1], [7, -1, -1, 1], [7, -1, 1, -1], [7, -1, 1, 1], [7, 1, -1, -1], [7, 1, -1, 1], [7, 1, 1, -1], [7, 1, 1, 1]]
  | 17 => [[7, 1, -3, -3], [7, 1, -3, 3], [7, 1, 3, -3], [7, 1, 3, 3], [7, 3, -3, -1], [7, 3, -3, 1], [7, 3, -1, -3], [7, 3, -1, 3], [7, 3, 1, -3], [7, 3, 1, 3], [7, 3, 3, -1], [7, 3, 3, 1], [8, -2, 0, 0], [8, 0, -2, 0], [8, 0, 0, -2], [8, 0, 0, 2], [8, 0, 2, 0], [8, 2, 0, 0]]
  | _ => []
def litOk (p : Int) : Bool := decide (lprV p = litP p) && decide ((litP p).Nodup)
theorem lit_2 : litOk 2 = true := by decide +kernel
theorem lit_3 : litOk 3 = true := by decide +kernel
theorem lit_5 : litOk 5 = true := by decide +kernel
theorem lit_7 : litOk 7 = true := by decide +kernel
theorem lit_11 : litOk 11 = true := by decide +kernel
theorem lit_13 : litOk 13 = true := by decide +kernel
theorem lit_17 : litOk 17 = true := by decide +kernel
theorem lit_at {p : Int} (h : p ∈ smP) : litOk p = true := by
  unfold smP at h
  simp only [List.mem_cons, List.not_mem_nil, or_false] at h
  rcases h with rfl | rfl | rfl | rfl | rfl | rfl | rfl
  · exact lit_2
  · exact lit_3
  · exact lit_5
  · exact lit_7
  · exact lit_11
  · exact lit_13
  · exact lit_17
def cok (p a b c d : Int) : Bool := !isNum [a, b, c, d] || !decide (lcanL [a, b, c, d] = [a, b, c, d]) || (litP p).any fun z => decide (z = [a, b, c, d])
def cmpl (p : Int) : Bool := (List.range 9).all fun (i : Nat) => (List.range 17).all fun (j : Nat) => decide (i < ((j : Int) - 8).natAbs) || decide (4 * p < (i : Int) * (i : Int) + ((j : Int) - 8) * ((j : Int) - 8)) || (List.range 17).all fun (k : Nat) =>
  decide (i < ((k : Int) - 8).natAbs) || decide (ldR (4 * p) (i : Int) ((j : Int) - 8) ((k : Int) - 8) < 0) || !decide (rootI (ldR (4 * p) (i : Int) ((j : Int) - 8) ((k : Int) - 8)) * rootI (ldR (4 * p) (i : Int) ((j : Int) - 8) ((k : Int) - 8)) = ldR (4 * p) (i : Int) ((j : Int) - 8) ((k : Int) - 8)) ||
    (cok p (i : Int) ((j : Int) - 8) ((k : Int) - 8) (rootI (ldR (4 * p) (i : Int) ((j : Int) - 8) ((k : Int) - 8))) && cok p (i : Int) ((j : Int) - 8) ((k : Int) - 8) (-rootI (ldR (4 * p) (i : Int) ((j : Int) - 8) ((k : Int) - 8))))
theorem cm_2 : cmpl 2 = true := by decide +kernel
theorem cm_3 : cmpl 3 = true := by decide +kernel
theorem cm_5 : cmpl 5 = true := by decide +kernel
theorem cm_7 : cmpl 7 = true := by decide +kernel
theorem cm_11 : cmpl 11 = true := by decide +kernel
theorem cm_13 : cmpl 13 = true := by decide +kernel
theorem cm_17 : cmpl 17 = true := by decide +kernel
theorem cmpl_at {p : Int} (h : p ∈ smP) : cmpl p = true := by
  unfold smP at h
  simp only [List.mem_cons, List.not_mem_nil, or_false] at h
  rcases h with rfl | rfl | rfl | rfl | rfl | rfl | rfl
  · exact cm_2
  · exact cm_3
  · exact cm_5
  · exact cm_7
  · exact cm_11
  · exact cm_13
  · exact cm_17
end TB

namespace TB
open PySem L2 PySem.Spec PyProof.Rows
theorem smP_lit {p : Int} (h : p ∈ smP) : lprimes p = litP p ∧ (lprimes p).Nodup := by
  have := lit_at h
  unfold litOk at this
  simp only [Bool.and_eq_true, decide_eq_true_eq] at this
  rw [lpr_V, this.1]
  exact ⟨rfl, this.2⟩
theorem sq_lt {a n : Int} (h : a * a ≤ n) (hn : n < 81) : -8 ≤ a ∧ a ≤ 8 := by
  constructor
  · refine Classical.byContradiction fun q => ?_
    have h2 : a ≤ -9 := by omega
    have := Int.mul_le_mul (show 9 ≤ -a by omega) (show 9 ≤ -a by omega) (by decide) (by omega)
    rw [Int.neg_mul_neg] at this
    omega
  · refine Classical.byContradiction fun q => ?_
    have h2 : 9 ≤ a := by omega
    have := Int.mul_le_mul h2 h2 (by decide) (by omega)
    omega
theorem root_sq {d n : Int} (h : d * d = n) (hn : n ≤ 4000) : d = rootI n ∨ d = -rootI n := by
  obtain ⟨a, b⟩ := isqrt_small (n := n.toNat) (by omega)
  have hnn : 0 ≤ d * d := by
    rcases Int.le_total 0 d with q | q
    · exact Int.mul_nonneg q q
    · exact Int.mul_nonneg_of_nonpos_of_nonpos q q
  have e : n.toNat = d.natAbs * d.natAbs := by
    have : ((d.natAbs * d.natAbs : Nat) : Int) = d * d := by rw [Int.natCast_mul]; exact Int.natAbs_mul_self' d
    omega
  unfold rootI
  rw [e] at a b ⊢
  generalize Float64.isqrt (d.natAbs * d.natAbs) = r at a b ⊢
  have h1 : r ≤ d.natAbs := by
    refine Classical.byContradiction fun q => ?_
    have := Nat.mul_le_mul (show d.natAbs + 1 ≤ r by omega) (show d.natAbs + 1 ≤ r by omega)
    have : d.natAbs * d.natAbs < (d.natAbs + 1) * (d.natAbs + 1) := Nat.mul_lt_mul_of_lt_of_le (by omega) (by omega) (by omega)
    omega
  have h2 : d.natAbs ≤ r := by
    refine Classical.byContradiction fun q => ?_
    have := Nat.mul_le_mul (show r + 1 ≤ d.natAbs by omega) (show r + 1 ≤ d.natAbs by omega)
    omega
  omega
theorem cok_in {p a b c d : Int} (h : cok p a b c d = true) (hn : isNum [a, b, c, d] = true) (hc : canonL [a, b, c, d] = [a, b, c, d]) : [a, b, c, d] ∈ litP p := by
  unfold cok at h
  rw [hn, lcan_canon, hc, decide_eq_true rfl] at h
  simp only [Bool.not_true, Bool.false_or] at h
  obtain ⟨z, hz, e⟩ := List.any_eq_true.mp h
  rw [← of_decide_eq_true e]
  exact hz
theorem sm_pr {p : Int} (h : p ∈ smP) : 2 ≤ p ∧ p ≤ 17 := by
  unfold smP at h
  simp only [List.mem_cons, List.not_mem_nil, or_false] at h
  omega
theorem canon_parts {a b c d : Int} (hc : canonL [a, b, c, d] = [a, b, c, d]) : 0 ≤ a ∧ b.natAbs ≤ a.natAbs ∧ c.natAbs ≤ a.natAbs := by
  have key : ∀ e f g h : Int, [e, f, g, h] ∈ unitsL → (a * e - b * f - c * g - d * h) / 2 ≤ a := fun e f g h hu => by
    have := canon_ge [a, b, c, d] (mulL [a, b, c, d] [e, f, g, h]) (List.mem_map_of_mem hu)
    rw [hc] at this
    have t : (a * e - b * f - c * g - d * h) / 2 :: _ ≤ a :: _ := this
    rw [List.cons_le_cons_iff] at t
    omega
  have k1 := key (-2) 0 0 0 (by decide)
  have k2 := key 0 2 0 0 (by decide)
  have k3 := key 0 (-2) 0 0 (by decide)
  have k4 := key 0 0 2 0 (by decide)
  have k5 := key 0 0 (-2) 0 (by decide)
  omega
/-- every canonical number of the norm p is there -/
theorem compl {p : Int} (hp : p ∈ smP) {f : List Int} (hf : isNum f = true) (hn : normL f = p) (hc : canonL f = f) : f ∈ lprimes p := by
  obtain ⟨p1, p2⟩ := sm_pr hp
  rw [(smP_lit hp).1]
  have h4 := norm_sum hf
  obtain ⟨a, b, c, d, rfl⟩ := four (num_len hf)
  rw [hn] at h4
  simp only [List.map_cons, List.map_nil, List.sum_cons, List.sum_nil] at h4
  have hsq : ∀ z : Int, 0 ≤ z * z := fun z => by
    rcases Int.le_total 0 z with q | q
    · exact Int.mul_nonneg q q
    · exact Int.mul_nonneg_of_nonpos_of_nonpos q q
  have qa := hsq a
  have qb := hsq b
  have qc := hsq c
  have qd := hsq d
  obtain ⟨a1, a2⟩ := sq_lt (a := a) (n := 4 * p) (by omega) (by omega)
  obtain ⟨b1, b2⟩ := sq_lt (a := b) (n := 4 * p) (by omega) (by omega)
  obtain ⟨c1, c2⟩ := sq_lt (a := c) (n := 4 * p) (by omega) (by omega)
  obtain ⟨m0, m1, m2⟩ := canon_parts hc
  have h := cmpl_at hp
  unfold cmpl at h
  have h1 := List.all_eq_true.mp h a.toNat (List.mem_range.mpr (by omega))
  have h2 := List.all_eq_true.mp h1 (b + 8).toNat (List.mem_range.mpr (by omega))
  have ea : ((a.toNat : Nat) : Int) = a := by omega
  have eb : (((b + 8).toNat : Nat) : Int) - 8 = b := by omega
  have ec : (((c + 8).toNat : Nat) : Int) - 8 = c := by omega
  rw [ea, eb, decide_eq_false (show ¬ a.toNat < b.natAbs by omega), decide_eq_false (show ¬ 4 * p < a * a + b * b by omega), Bool.false_or, Bool.false_or] at h2
  have h3 := List.all_eq_true.mp h2 (c + 8).toNat (List.mem_range.mpr (by omega))
  rw [ec, decide_eq_false (show ¬ a.toNat < c.natAbs by omega), Bool.false_or] at h3
  have hR : ldR (4 * p) a b c = d * d := by unfold ldR; omega
  rw [hR, decide_eq_false (by omega)] at h3
  rcases root_sq (d := d) rfl (n := d * d) (by omega) with e | e
  · have e2 : rootI (d * d) * rootI (d * d) = d * d := by rw [← e]
    rw [decide_eq_true e2] at h3
    simp only [Bool.false_or, Bool.not_true, Bool.and_eq_true] at h3
    rw [← e] at h3
    exact cok_in h3.1 hf hc
  · have e3 : rootI (d * d) = -d := by omega
    have e2 : rootI (d * d) * rootI (d * d) = d * d := by rw [e3]; exact Int.neg_mul_neg d d
    rw [decide_eq_true e2] at h3
    simp only [Bool.false_or, Bool.not_true, Bool.and_eq_true] at h3
    rw [e3, Int.neg_neg] at h3
    exact cok_in h3.2 hf hc
/-! ### k26 -/
theorem lp_canon {p : Int} (hp : p ∈ elevP) {f : List Int} (hf : f ∈ lprimes p) : isNum f = true ∧ normL f = p ∧ canonL f = f := by
  obtain ⟨h1, h2, h3⟩ := elev_lp hp f hf
  exact ⟨h1.num, h2, by rw [← lcan_canon]; exact h3⟩
/-- two canonical numbers of the same norm, one dividing the other -/
theorem same_canon {f g : List Int} (hf : isNum f = true) (cf : canonL f = f) (cg : canonL g = g) (hn : normL f = normL g) (h0 : 0 < normL f) (h : LDiv f g) : g = f := by
  obtain ⟨e, he, rfl⟩ := h
  rw [norm_mul hf he] at hn
  have : normL f * normL e = normL f * 1 := by rw [Int.mul_one]; exact hn.symm
  have ne : normL e = 1 := Int.eq_of_mul_eq_mul_left (by omega) this
  have hu : e ∈ unitsL := by
    have := unit_iff he
    rw [decide_eq_true ne] at this
    exact of_decide_eq_true this.symm
  rw [canon_asso hf hu] at cg
  rw [← cg, cf]
theorem wp_mul {p : Int} {f : List Int} (hf : isNum f = true) (hn : normL f = p) : LDiv f (wp p) := ⟨conjL f, num_conj hf, by rw [(mul_conj hf).1, hn]; rfl⟩
theorem left_one {p : Int} (hp : p ∈ smP) {x : List Int} (hx : isNum x = true) (h0 : zeroB x = false) (h1 : normL x % p = 0) (h2 : contL x % p ≠ 0) : isNum (lgcd x (wp p)) = true ∧ normL (lgcd x (wp p)) = p ∧ canonL (lgcd x (wp p)) = lgcd x (wp p) ∧ LDiv (lgcd x (wp p)) x ∧ lgcd x (wp p) ∈ lprimes p ∧ ∀ f, isNum f = true → normL f = p → canonL f = f → LDiv f x → f = lgcd x (wp p) := by
  have he := sm_elev p hp
  obtain ⟨p1, p2⟩ := elev_pr he
  obtain ⟨w1, w2, w3, w4, _⟩ := wp_elev he
  have hz : ¬ (zeroB x = true ∧ zeroB (wp p) = true) := by rw [w2]; exact fun h => Bool.noConfusion h.2
  have hd : ¬ Div p x := fun q => h2 (Int.emod_eq_zero_of_dvd ((div_iff hx h0 (by omega)).2.mp q))
  have ng := lg_elev he hx hd h1
  have cg := lgcd_canon hx w1 hz
  obtain ⟨g1, g2, g3, g4, x', y', hx', hy', es⟩ := lgcd_spec hx w1 hz
  refine ⟨g1, ng, cg, g3, compl hp g1 ng cg, fun f hf hn hc hl => ?_⟩
  have hl2 : LDiv f (lgcd x (wp p)) := by
    rw [es]
    exact LDiv.add hf (LDiv.mul hf hx' hl) (LDiv.mul hf hy' (wp_mul hf hn))
  exact (same_canon hf hc cg (by rw [hn, ng]) (by omega) hl2).symm
end TB

namespace TB
open PySem L2 PySem.Spec PyProof.Rows
/-! ### while: a state that runs; xs.append(ys.pop(k)) -/
section
variable {X : Cx} {W : WX} {F0 H0 : Hp} {Γ : List S} {e b : Expr} {pos : Pos} {body : List Stmt} {β : Type}
end
section
variable {X : Cx} {W : WX} {F0 H0 : Hp} {Γ : List S} {b : Expr} {n l : Str} {np lp apos bpos cpos cpos2 pos : Pos} {ds es : List D} {x : D}
end
end TB

namespace TB
open PySem L2 PySem.Spec PyProof.Rows
/-! ### sorted(ints) -/
section
variable {X : Cx} {W : WX} {F0 H0 : Hp} {Γ : List S} {e : Expr} {pos np : Pos} {ns : List Int}
end
/-! ### the primes of an integer -/
def prI (L : List Int) : Int := L.foldr (· * ·) 1
end TB

namespace TB
open PySem L2 PySem.Spec PyProof.Rows
end TB

namespace TB
open PySem L2 PySem.Spec PyProof.Rows
/-! ### rows -/
/-- a primitive number with these primes in its norm -/
structure RestOk (x : List Int) (ps : List Int) : Prop where
  num : isNum x = true
  nz : zeroB x = false
  pr : contL x = 1
  nrm : normL x = prI ps
  sm : ∀ p ∈ ps, p ∈ smP
  len : ps.length ≤ 6
theorem prI_bd : ∀ {ps : List Int}, (∀ p ∈ ps, p ∈ smP) → 1 ≤ prI ps ∧ prI ps ≤ 17 ^ ps.length
  | [], _ => ⟨Int.le_refl _, Int.le_refl _⟩
  | p :: ps, h => by
    obtain ⟨h1, h2⟩ := prI_bd fun q hq => h q (List.mem_cons_of_mem _ hq)
    obtain ⟨p1, p2⟩ := sm_pr (h p List.mem_cons_self)
    show 1 ≤ p * prI ps ∧ p * prI ps ≤ 17 ^ (ps.length + 1)
    have m1 : 1 * 1 ≤ p * prI ps := Int.mul_le_mul (by omega) h1 (by decide) (by omega)
    have m2 : p * prI ps ≤ 17 * 17 ^ ps.length := Int.mul_le_mul p2 h2 (by omega) (by decide)
    rw [Int.pow_succ, Int.mul_comm _ 17]
    exact ⟨by omega, m2⟩
theorem prI_hi {ps : List Int} (h : ∀ p ∈ ps, p ∈ smP) (hl : ps.length ≤ 6) : prI ps ≤ 24137569 := by
  have h1 := (prI_bd h).2
  have h2 : ∀ n ∈ List.range 7, (17 : Int) ^ n ≤ 24137569 := by decide
  have := h2 ps.length (List.mem_range.mpr (by omega))
  omega
theorem RestOk.g {x ps : List Int} (h : RestOk x ps) : G 14 x := norm_G (n := 13) h.num (by rw [h.nrm]; have := prI_hi h.sm h.len; omega)
theorem prod_cons {f : List Int} {fs : List (List Int)} (hf : isNum f = true) (hfs : ∀ g ∈ fs, isNum g = true) : prodL (f :: fs) = mulL f (prodL fs) := by
  have key : ∀ (fs : List (List Int)) (a : List Int), isNum a = true → (∀ g ∈ fs, isNum g = true) → isNum (prodL fs) = true ∧ fs.foldl mulL a = mulL a (prodL fs) := by
    intro fs
    induction fs with
    | nil => intro a ha _; exact ⟨by decide, (mul_oneR ha).symm⟩
    | cons g fs ih =>
      intro a ha h
      have hg := h g List.mem_cons_self
      have h' := fun q hq => h q (List.mem_cons_of_mem _ hq)
      obtain ⟨n1, e1⟩ := ih (mulL a g) (num_mul ha hg) h'
      obtain ⟨_, e2⟩ := ih (mulL [2, 0, 0, 0] g) (num_mul (by decide) hg) h'
      have e3 : prodL (g :: fs) = mulL g (prodL fs) := by
        show (g :: fs).foldl mulL [2, 0, 0, 0] = _
        rw [List.foldl_cons, e2, mul_one' hg]
      refine ⟨by rw [e3]; exact num_mul hg n1, ?_⟩
      rw [List.foldl_cons, e1, e3, mul_asc ha hg n1]
  obtain ⟨_, e⟩ := key fs (mulL [2, 0, 0, 0] f) (num_mul (by decide) hf) hfs
  show (f :: fs).foldl mulL [2, 0, 0, 0] = _
  rw [List.foldl_cons, e, mul_one' hf]
theorem prod_num {fs : List (List Int)} (h : ∀ g ∈ fs, isNum g = true) : isNum (prodL fs) = true := by
  induction fs with
  | nil => decide
  | cons g fs ih =>
    rw [prod_cons (h g List.mem_cons_self) fun q hq => h q (List.mem_cons_of_mem _ hq)]
    exact num_mul (h g List.mem_cons_self) (ih fun q hq => h q (List.mem_cons_of_mem _ hq))
end TB

namespace TB
open PySem L2 PySem.Spec PyProof.Rows
section
variable {X : Cx} {W : WX} {F0 H0 : Hp} {Γ : List S} {tg it : Expr} {pos : Pos} {body rest : List Stmt} {so : SO} {α : Type}
end
/-! ### the law's side of rows -/
def lp6 : List Int := [2, 3, 5, 7, 11, 13]
theorem lp6_elev : ∀ p ∈ lp6, p ∈ elevP := by decide
def lprimB (x : List Int) : Bool := lp6.all fun p => (ldivF (wp p) x).isNone
/-! a product of numbers of the norms 2, 3, 5, 7 -/
def PN (fs : List (List Int)) : Prop := ∀ x ∈ fs, PF x
end TB

namespace TB
open PySem L2 PySem.Spec PyProof.Rows
theorem map_same {α : Type} {f : α → α} : ∀ {xs : List α}, (∀ x ∈ xs, f x = x) → xs.map f = xs
  | [], _ => rfl
  | x :: xs, h => by rw [List.map_cons, h x List.mem_cons_self, map_same fun y hy => h y (List.mem_cons_of_mem _ hy)]
end TB

namespace TB
open PySem L2 PySem.Spec PyProof.Rows
/-! ### k84 -/
theorem six_sm : ∀ p ∈ sixP, p ∈ smP := by decide
/-- coprime to all small primes -/
theorem cop_pr {q m : Nat} (hq : q ∈ [2, 3, 5, 7, 11, 13, 17]) (h : ¬ q ∣ m) : Nat.Coprime m q := by
  have h1 : ∀ q ∈ [2, 3, 5, 7, 11, 13, 17], ∀ g ∈ List.range 18, q % g = 0 → g = 1 ∨ g = q := by decide
  have hd := Nat.gcd_dvd_right m q
  have hq0 : 0 < q ∧ q < 18 := by
    have : ∀ q ∈ [2, 3, 5, 7, 11, 13, 17], 0 < q ∧ q < 18 := by decide
    exact this q hq
  have hle := Nat.le_of_dvd hq0.1 hd
  rcases h1 q hq (Nat.gcd m q) (List.mem_range.mpr (by omega)) (Nat.mod_eq_zero_of_dvd hd) with e | e
  · exact e
  · exact absurd (by have := Nat.gcd_dvd_left m q; rwa [e] at this) h
theorem big_dvd : ∀ {ps : List Int}, (∀ p ∈ ps, p ∈ smP) → prI ps ∣ 510510 ^ ps.length
  | [], _ => Int.dvd_refl _
  | p :: ps, h => by
    have ih := big_dvd fun q hq => h q (List.mem_cons_of_mem _ hq)
    have hp : p ∣ 510510 := by
      have : ∀ p ∈ smP, p ∣ 510510 := by decide
      exact this p (h p List.mem_cons_self)
    show p * prI ps ∣ 510510 ^ (ps.length + 1)
    rw [Int.pow_succ, Int.mul_comm _ 510510]
    exact Int.mul_dvd_mul hp ih
theorem prim_gen {x ps : List Int} (hx : isNum x = true) (hz : zeroB x = false) (hn : normL x = prI ps) (hp : ∀ p ∈ ps, p ∈ smP) (hno : ∀ q ∈ smP, ¬ q ∣ contL x) : contL x = 1 := by
  have cp := cont_pos hx hz
  obtain ⟨y, hy, ey⟩ := cont_div hx hz
  have en := congrArg normL ey
  rw [norm_timesL _ hy, hn] at en
  have hd : contL x ∣ 510510 ^ ps.length := Int.dvd_trans ⟨contL x * normL y, by rw [en, Int.mul_assoc]⟩ (big_dvd hp)
  have e1 : (((contL x).toNat : Nat) : Int) = contL x := by omega
  have hdn : (contL x).toNat ∣ 510510 ^ ps.length := by
    have : (((contL x).toNat : Nat) : Int) ∣ ((510510 ^ ps.length : Nat) : Int) := by rw [e1, Int.natCast_pow]; exact hd
    exact Int.natCast_dvd_natCast.mp this
  have nd : ∀ k : Nat, (k : Int) ∈ smP → ¬ k ∣ (contL x).toNat := fun k hk q => hno _ hk (by rw [← e1]; exact Int.natCast_dvd_natCast.mpr q)
  have c := fun (k : Nat) (h1 : k ∈ [2, 3, 5, 7, 11, 13, 17]) (h2 : (k : Int) ∈ smP) => cop_pr h1 (nd k h2)
  have cc : Nat.Coprime (contL x).toNat (2 * 3 * 5 * 7 * 11 * 13 * 17) :=
    (((((( (c 2 (by decide) (by decide)).mul_right (c 3 (by decide) (by decide))).mul_right (c 5 (by decide) (by decide))).mul_right (c 7 (by decide) (by decide))).mul_right (c 11 (by decide) (by decide))).mul_right (c 13 (by decide) (by decide))).mul_right (c 17 (by decide) (by decide)))
  have := Nat.Coprime.eq_one_of_dvd (Nat.Coprime.pow_right ps.length cc) hdn
  omega
end TB

namespace TB
open PySem L2 PySem.Spec PyProof.Rows
structure K84 (p : Int) (f s : List Int) (fs : List (List Int)) : Prop where
  six : p ∈ sixP
  inf : f ∈ lprimes p
  ins : s ∈ lprimes p
  pn : PN fs
  len : fs.length ≤ 2
theorem K84.four {p : Int} {f s : List Int} {fs : List (List Int)} (h : K84 p f s fs) : ∀ q ∈ fs.map normL, q = 2 ∨ q = 3 ∨ q = 5 ∨ q = 7 := fun q hq => by
  obtain ⟨g, hg, e⟩ := List.mem_map.mp hq
  rw [← e]
  exact (h.pn g hg).nrm
theorem K84.sm {p : Int} {f s : List Int} {fs : List (List Int)} (h : K84 p f s fs) {O : List Int} (hO : O.Perm (fs.map normL)) : ∀ q ∈ p :: p :: O, q ∈ smP := fun q hq => by
  have hp := six_sm p h.six
  rcases List.mem_cons.mp hq with rfl | hq
  · exact hp
  · rcases List.mem_cons.mp hq with rfl | hq
    · exact hp
    · rcases h.four q (hO.mem_iff.mp hq) with e | e | e | e <;> (subst e; decide)
/-- no prime divides the product, if the law finds none -/
theorem K84.prim {p : Int} {x ps : List Int} (hp : p ∈ sixP) (hx : isNum x = true) (hz : zeroB x = false) (hn : normL x = prI ps) (hs : ∀ q ∈ ps, q = p ∨ q = 2 ∨ q = 3 ∨ q = 5 ∨ q = 7) (hc : contL x % p ≠ 0) (hl : lprimB x = true) : contL x = 1 := by
  have cp := cont_pos hx hz
  have dv : ∀ q ∈ lp6, ¬ q ∣ contL x := fun q hq d => by
    have he := lp6_elev q hq
    obtain ⟨w1, w2, w3, _⟩ := wp_elev he
    obtain ⟨p1, _⟩ := elev_pr he
    have hv : 0 < normL (wp q) := by rw [w3]; exact Int.mul_pos (by omega) (by omega)
    have hnone := List.all_eq_true.mp hl q hq
    obtain ⟨y, hy, e⟩ := (div_iff hx hz (show 0 < q by omega)).2.mpr d
    have := (ldivF_iff w1 hx hv).mpr ⟨y, hy, by rw [e]; exact (mul_int q hy).1.symm⟩
    cases q2 : ldivF (wp q) x with
    | none => rw [q2] at this; cases this
    | some z => rw [q2] at hnone; cases hnone
  have hsm : ∀ q ∈ ps, q ∈ smP := fun q hq => by
    rcases hs q hq with e | e | e | e | e
    · subst e; exact six_sm _ hp
    all_goals (subst e; decide)
  have h17 : (17 : Int) ∣ contL x → False := fun d => by
    by_cases e : p = 17
    · subst e
      exact hc (Int.emod_eq_zero_of_dvd d)
    · -- 17 * 17 divides the norm, which has no 17
      obtain ⟨y, hy, ey⟩ := cont_div hx hz
      have en := congrArg normL ey
      rw [norm_timesL _ hy, hn] at en
      have d2 : (17 : Int) ∣ prI ps := Int.dvd_trans d ⟨contL x * normL y, by rw [en, Int.mul_assoc]⟩
      have key : ∀ {qs : List Int}, (∀ q ∈ qs, q = p ∨ q = 2 ∨ q = 3 ∨ q = 5 ∨ q = 7) → (17 : Int) ∣ prI qs → False := by
        intro qs
        induction qs with
        | nil => intro _ hd; exact absurd hd (by decide)
        | cons q qs ih =>
          intro h hd
          have hq := h q List.mem_cons_self
          have hq6 : q % 17 ≠ 0 ∧ 0 < q ∧ q < 17 := by
            have : ∀ p ∈ sixP, p ≠ 17 → 0 < p ∧ p < 17 := by decide
            have h6 := this p hp e
            rcases hq with e | e | e | e | e <;> omega
          have hd' : (17 : Int) ∣ q * prI qs := hd
          have cq : Nat.Coprime 17 q.natAbs := by
            have : ∀ k ∈ List.range 17, k ≠ 0 → Nat.gcd 17 k = 1 := by decide
            exact this q.natAbs (List.mem_range.mpr (by omega)) (by omega)
          have hn : 17 ∣ q.natAbs * (prI qs).natAbs := by
            rw [← Int.natAbs_mul]
            exact Int.natAbs_dvd_natAbs.mpr hd'
          have h3 := Nat.Coprime.dvd_of_dvd_mul_left cq hn
          exact ih (fun r hr => h r (List.mem_cons_of_mem _ hr)) (Int.natAbs_dvd_natAbs.mp h3)
      exact key hs d2
  refine prim_gen hx hz hn hsm fun q hq d => ?_
  have : q ∈ lp6 ∨ q = 17 := by
    have : ∀ q ∈ smP, q ∈ lp6 ∨ q = 17 := by decide
    exact this q hq
  rcases this with h | h
  · exact dv q h d
  · subst h; exact h17 d
end TB
namespace TB
open PySem L2 PySem.Spec PyProof.Rows
end TB

namespace TB
open PySem L2 PySem.Spec PyProof.Rows
end TB

namespace TB
open PySem L2 PySem.Spec PyProof.Rows
/-! ### factorial; xs.count(k) -/
section
variable {X : Cx} {W : WX} {F0 H0 : Hp} {Γ : List S} {e b : Expr} {a : Int} {pos np apos cpos : Pos} {ns : List Int} {k : Int}
end
/-! ### k25 -/
end TB

namespace TB
open PySem L2 PySem.Spec PyProof.Rows
/-! ### rows by orders that begin alike; a unit behind -/
theorem cut_tail (d : D) (ds : List D) : cutD (d :: ds) (some 1) none = ds := by
  unfold cutD
  show ((d :: ds).drop (if (1 : Int) < 0 then ((1 : Int) + ((d :: ds).length : Int)).toNat else min (1 : Int).toNat (d :: ds).length)).take ((d :: ds).length - (if (1 : Int) < 0 then ((1 : Int) + ((d :: ds).length : Int)).toNat else min (1 : Int).toNat (d :: ds).length)) = ds
  rw [if_neg (by decide)]
  have e : min (1 : Int).toNat (d :: ds).length = 1 := by
    rw [List.length_cons]
    show min 1 _ = 1
    omega
  rw [e]
  simp
end TB
namespace TB
end TB

namespace TB
open PySem L2 PySem.Spec PyProof.Rows
/-! ### xs.count(d), xs.index(d) of data -/
section
variable {X : Cx} {W : WX} {F0 H0 : Hp} {Γ : List S} {e b : Expr} {apos cpos : Pos} {ds : List D} {d z : D} {j : Nat}
theorem je_idxD (hu : X.A.units + 65 < cLine) (s1 : SeqAt.shaped (.list ds) = true) (s2 : SeqAt.shaped d = true) (hz : ds[j]? = some z) (he : PyData.eqv z d = true) (hno : ∀ (m : Nat) (z' : D), m < j → ds[m]? = some z' → PyData.eqv z' d = false) (h : JE X WF F0 H0 Γ e (.v (.list ds))) (hb : JE X WF F0 H0 Γ b (.v d))
    (h1 : attributeBase e "index" X.env (eval e X.env) = eval e X.env := by rfl)
    (h2 : ((backTo cpos (starEach [b] X.env)).all (fun x => !x.1) && (backToKw cpos (keywordEach [] X.env)).all (fun x => x.1.isSome) && decide ([b].length + ([] : List Keyword).length + (if ([] : List Keyword).isEmpty then 0 else 1) < 30)) = true := by rfl)
    (h3 : (apos.endLine == cpos.line) = true := by rfl) (h4 : starEach [b] X.env = (false, eval b X.env) :: starEach [] X.env := by rfl) (h5 : (backTo cpos (starEach [] X.env)).any (·.1) = false := by rfl) :
    JE X W F0 H0 Γ (.Call (.Attribute e "index" apos) [b] [] cpos) (.v (.int ((j : Nat) : Int))) :=
  pe_imp (pe_bm PySem.F.plainAttrs_list PySem.F.slot_list_index PySem.F.type_list_index (mt_indexD hu) h (pa_cons hb pa_nil h4) h1 h2 h3 h4 h5) fun σ H Q ⟨F, ok, q⟩ => ⟨F, ok, fun v F1 H1 z1 d1 => by
    cases d1 with
    | lst g1 g2 =>
      have s3 := sl_ex z1.s g1
      refine ⟨.inl ⟨rfl, _, s3⟩, F1, ok.mono z1, fun v2 F2 H2 z2 d2 => ?_⟩
      exact ⟨_, v2, d, ds, j, z, rfl, rfl, dp_ex z2.s _ _ (.lst (sl_ex z2.f g1) (da_ex z2.f _ _ g2)), dp_ex z2.s _ _ d2, s1, s2, hz, he, hno, q _ F2 H2 (z1.trans z2) (.int _)⟩⟩
end
/-! ### k85: what each deed comes to -/
end TB

namespace TB
open PySem L2 PySem.Spec PyProof.Rows
/-! what is due, step by step -/
def e1 (o : Bool) : List Nat := if o then List.replicate 10 0 else List.replicate 9 2 ++ [0]
def e2 (o t : Bool) : List Nat := if t then e1 o else (e1 o).take 3 ++ [2, 2, 2] ++ (e1 o).drop 6
def e3 (o t l : Bool) : List Nat := if l then e2 o t else (e2 o t).set 8 2
def e4 (o t l f : Bool) : List Nat := if f then e3 o t l else (e3 o t l).set 9 2
def e5 (o t l f z : Bool) : List Nat := if z then e4 o t l f else ((e4 o t l f).set 7 2).set 9 2
def e6 (o t l f z n : Bool) : List Nat := if n then e5 o t l f z else (((e5 o t l f z).set 2 1).set 7 1).set 9 1
end TB

namespace TB
open PySem L2 PySem.Spec PyProof.Rows
/-! ### what k85 draws -/
end TB

namespace TB
open PySem L2 PySem.Spec PyProof.Rows
/-! ### rows of canonical primes: what cancels (k28) -/
/-- p divides g Y and not Y, h divides Y on the left: then p divides g h -/
theorem pair_stop {p : Int} (hp : p ∈ smP) {g h y : List Int} (g1 : isNum g = true) (g2 : normL g = p) (h1 : isNum h = true) (h2 : normL h = p) (h3 : canonL h = h) (y1 : isNum y = true) (y2 : zeroB y = false) (y3 : normL y % p = 0)
    (d : Div p (mulL g y)) (nd : ¬ Div p y) (l : LDiv h y) : Div p (mulL g h) := by
  have p0 : 0 < p := by
    have : ∀ q ∈ smP, 0 < q := by decide
    exact this p hp
  have c1 := num_conj g1
  obtain ⟨z, hz, ez⟩ := d
  have e1 : timesL p y = timesL p (mulL (conjL g) z) := by
    have k := congrArg (mulL (conjL g)) ez
    rw [← mul_asc c1 g1 y1, (mul_conj g1).2, g2, (mul_int p y1).1] at k
    rw [k, ← (mul_int p hz).2, ← mul_asc c1 hz (num_int _), (mul_int p (num_mul c1 hz)).2]
  have e2 : y = mulL (conjL g) z := times_inj (by omega) e1
  have hc : contL y % p ≠ 0 := fun q => nd ((div_iff y1 y2 p0).2.mpr (Int.dvd_of_emod_eq_zero q))
  obtain ⟨_, _, _, _, _, u⟩ := left_one hp y1 y2 y3 hc
  have uh := u h h1 h2 h3 l
  obtain ⟨v1, v2⟩ := lead_ok (conjL g)
  have nv := u_num v1
  obtain ⟨w1, w2, w3⟩ := units_cj _ v1
  have nc : isNum (canonL (conjL g)) = true := by rw [← v2]; exact num_mul c1 nv
  have lc : LDiv (canonL (conjL g)) y := by
    refine ⟨mulL (conjL (leadU (conjL g))) z, num_mul (u_num w1) hz, ?_⟩
    rw [← mul_asc nc (u_num w1) hz]
    conv => rhs; arg 1; rw [← v2]
    rw [mul_asc c1 nv (u_num w1), w2, mul_oneR c1]
    exact e2
  have uc := u _ nc (by rw [canon_norm c1, norm_conj g1, g2]) (canon_canon c1) lc
  have eh : h = mulL (conjL g) (leadU (conjL g)) := by rw [uh, ← uc, v2]
  refine ⟨leadU (conjL g), nv, ?_⟩
  conv => lhs; rw [eh]
  rw [← mul_asc g1 c1 nv, (mul_conj g1).1, g2, (mul_int p nv).1]
structure CF (x : List Int) : Prop where
  pf : PF x
  cn : canonL x = x
theorem CF.pn {fs : List (List Int)} (h : ∀ x ∈ fs, CF x) : PN fs := fun x hx => (h x hx).pf
end TB

namespace TB
open PySem L2 PySem.Spec PyProof.Rows
/-! ### dicts of one's own whose keys are tuples of ints, every value True -/
def tkE (q : Addr × List Int) : List Int × Addr × Value := (q.2, q.1, Value.bool true)
def DT0 (P : Program) (w : World) (p : Addr) (L : List (Addr × List Int)) (h : Heap) : Prop :=
  (p == sysModules) = false ∧ ∃ o es ep, h.get? p = some o ∧ o.ExactDict ∧ o.data = Data.dict es ep ∧ es.toList = (L.map tkE).map (entryOfKey (tupleKind (intKind P w))) ∧ (L.map (·.2)).Nodup
theorem dt0_new {P : Program} {w : World} {H : Hp} {h : Heap} {p : Addr} {L : List (Addr × List Int)} (x : DT0 P w p L h) : ObjOk P w H h p (.ext (DT0 P w p L)) := by
  obtain ⟨a, o, es, ep, b, c⟩ := x
  exact ⟨⟨a, o, es, ep, b, c⟩, ⟨o, b⟩, fun h1 h2 ⟨a, o, es, ep, b, c⟩ k => ⟨a, o, es, ep, k o b, c⟩⟩
section
variable {X : Cx}
theorem pe_tnew {pos : Pos} : PE X (.Dict [] [] pos) (fun _ H Q => ∀ p, H p = none → Q (.ref p) (upd H p (.ext (DT0 X.prog X.w p [])))) := by
  refine ⟨fun pins s σ H Q I q => ?_⟩
  refine wpAny_mono ((pe_dnewT (X := X) (pos := pos)).run pins s σ H (fun v H' => ∃ p, v = .ref p ∧ H p = none ∧ H' = upd H p (.dT [])) I fun p hp => ⟨p, rfl, hp, rfl⟩) (fun u s1 h1 => ?_) fun _ _ h => h
  obtain ⟨v, H2, I2, rv, p, rfl, hp, rfl⟩ := h1
  have ok := I2.hok p _ upd_same
  obtain ⟨_, hsm, xs, pr, o, es, ep, ho, hex, hd, hes, hnd⟩ := ok
  cases pr
  have I3 := I2.write (x := p) (e := p) (o := .ext (DT0 X.prog X.w p [])) (h' := s1.heap) (t' := s1.toks) (by rw [upd_same]; trivial) (.inl rfl) (fun b u _ hb => hb) ⟨o, ho⟩ (dt0_new ⟨hsm, o, es, ep, ho, hex, hd, by rw [hes]; rfl, List.nodup_nil⟩)
  rw [upd_upd] at I3
  exact ⟨.ref p, _, I3, rv, q p hp⟩
theorem tk_at {L : List (Addr × List Int)} {k : List Int} : (atKey (L.map tkE) k).isSome = decide (k ∈ L.map (·.2)) := by
  unfold atKey
  rw [Option.isSome_map]
  induction L with
  | nil => rfl
  | cons q L ih =>
    rw [List.map_cons, List.find?_cons, List.map_cons]
    by_cases e : q.2 = k
    · rw [show decide ((tkE q).1 = k) = true from decide_eq_true e, decide_eq_true (by rw [← e]; exact List.mem_cons_self)]
      rfl
    · rw [show decide ((tkE q).1 = k) = false from decide_eq_false e]
      simp only
      rw [ih]
      congr 1
      rw [List.mem_cons]
      exact propext ⟨.inr, fun z => z.elim (fun y => absurd y.symm e) id⟩
theorem tk_H {pins : List (Addr × Obj)} {σ : L2.St} {H : Hp} {s : Shared} {p : Addr} {L : List (Addr × List Int)} (I : Inv X pins σ H s) (hD : H p = some (.ext (DT0 X.prog X.w p L))) (hL : ∀ q ∈ L, SqT X.K H q.1 (q.2.map V.int)) :
    (p == sysModules) = false ∧ Heap.DictOfH (tupleKind (intKind X.prog X.w)) s.heap p (L.map tkE) := by
  obtain ⟨hsm, o, es, ep, ho, hex, hd, hes, hnd⟩ := (I.hok p _ hD).1
  refine ⟨hsm, o, es, ep, ho, hex, hd, hes, fun x hx => ?_, by rw [List.map_map]; exact hnd⟩
  obtain ⟨q, hq, rfl⟩ := List.mem_map.mp hx
  exact I.isT (hL q hq)
def tTNotIn (X : Cx) (ty td : TE) : TE := fun σ H Q => ty σ H fun y H1 => td σ H1 fun x H2 => ∃ (a b : Addr) (L : List (Addr × List Int)) (k : List Int), x = .ref a ∧ y = .ref b ∧ H2 a = some (.ext (DT0 X.prog X.w a L)) ∧ (∀ q ∈ L, SqT X.K H2 q.1 (q.2.map V.int)) ∧ SqT X.K H2 b (k.map V.int) ∧ Q (.bl (!decide (k ∈ L.map (·.2)))) H2
theorem pc_tnotin {o i : Expr} {td ty : TE} (hu : X.A.units + 1 < cLine) (hi : PE X i ty) (ho : PE X o td) : PC X .NotIn i o (tTNotIn X ty td) := by
  refine ⟨fun pins s σ H Q I q => wpAny_mono (hi.run pins s σ H _ I q) (fun v s1 h1 => ?_) fun _ _ h => h⟩
  obtain ⟨y, H1, I1, r1, q1⟩ := h1
  refine wpAny_mono (ho.run pins s1 σ H1 _ I1 q1) (fun u s2 h2 => ?_) fun _ _ h => h
  obtain ⟨x, H2, I2, r2, a, b, L, k, rfl, rfl, hD, hL, hk, q2⟩ := h2
  cases r1
  cases r2
  obtain ⟨hsm, dd⟩ := tk_H I2 hD hL
  refine wpAny_notIn_heap (knd := tupleKind (intKind X.prog X.w)) (show X.A.units + 1 < cLine from hu) (I2.isT hk) hsm dd ?_
  rw [tk_at]
  exact ⟨.bl _, H2, I2.tok _, rfl, q2⟩
def rSetT (X : Cx) : V → V → V → Hp → (Hp → Prop) → Prop := fun o i v H Q => ∃ (p b : Addr) (L : List (Addr × List Int)) (k : List Int), o = .ref p ∧ i = .ref b ∧ v = .bl true ∧ H p = some (.ext (DT0 X.prog X.w p L)) ∧ (∀ q ∈ L, SqT X.K H q.1 (q.2.map V.int)) ∧ SqT X.K H b (k.map V.int) ∧ L.length ≤ sizeLine ∧
  ∀ L' : List (Addr × List Int), L'.map (·.2) = (if k ∈ L.map (·.2) then L.map (·.2) else L.map (·.2) ++ [k]) → (∀ q ∈ L', q ∈ L ∨ q = (b, k)) → Q (upd H p (.ext (DT0 X.prog X.w p L')))
theorem set_tk (hu : X.A.units + 1 < cLine) : PSet X (rSetT X) := by
  intro pins s σ H o i v ov iv u Q I r1 r2 r3 h
  obtain ⟨p, b, L, k, rfl, rfl, rfl, hD, hL, hk, hl, q⟩ := h
  cases r1
  cases r2
  cases r3
  obtain ⟨hsm, dd⟩ := tk_H I hD hL
  refine wpAny_setItem_heap (knd := tupleKind (intKind X.prog X.w)) (show X.A.units + 1 < cLine from hu) (I.isT hk) dd (fun h' d' sb => ?_) (by rw [List.length_map]; exact hl)
  have key : ∃ L' : List (Addr × List Int), storedH (L.map tkE) k b (Value.bool true) = L'.map tkE ∧ L'.map (·.2) = (if k ∈ L.map (·.2) then L.map (·.2) else L.map (·.2) ++ [k]) ∧ ∀ q ∈ L', q ∈ L ∨ q = (b, k) := by
    unfold storedH
    rw [tk_at]
    by_cases hm : k ∈ L.map (·.2)
    · rw [if_pos (decide_eq_true hm), if_pos hm]
      refine ⟨L, ?_, rfl, fun q h => .inl h⟩
      rw [List.map_map]
      refine List.map_congr_left fun q _ => ?_
      show putAt k (Value.bool true) (tkE q) = tkE q
      unfold putAt tkE
      split <;> rfl
    · rw [if_neg (by rw [decide_eq_false hm]; exact Bool.false_ne_true), if_neg hm]
      refine ⟨L ++ [(b, k)], by rw [List.map_append]; rfl, by rw [List.map_append]; rfl, fun q h => ?_⟩
      rcases List.mem_append.mp h with h | h
      · exact .inl h
      · exact .inr (List.mem_singleton.mp h)
  obtain ⟨L', e1, e2, e3⟩ := key
  rw [e1] at d'
  obtain ⟨o, es, ep, ho, hex, hd, hes, _, hnd⟩ := d'
  rw [List.map_map] at hnd
  exact ⟨_, I.write (e := p) (t' := s.toks + _) (by rw [hD]; trivial) (.inl rfl) (fun c z hc hz => (sb.2 c hc).trans hz) ⟨o, ho⟩ (dt0_new ⟨hsm, o, es, ep, ho, hex, hd, hes, hnd⟩), q L' e2 e3⟩
end
end TB

namespace TB
open PySem L2 PySem.Spec PyProof.Rows
/-! ### dicts with tuples of ints as keys, as a slot -/
abbrev tkO (P : Program) (w : World) (ks : List (List Int)) : Own := .tk (DT0 P w) ks
section
variable {K : PySem.W.Frag} {F0 H0 F H : Hp} {σ : L2.St} {Γ : List S} {P : Program} {w : World}
theorem tk_inv {ks : List (List Int)} {v : V} {fp : List Addr} (h : OA K F H (tkO P w ks) v fp) : ∃ p L, v = .ref p ∧ H p = some (.ext (DT0 P w p L)) ∧ (∀ q ∈ L, SqT K F q.1 (q.2.map V.int)) ∧ L.map (·.2) = ks ∧ fp = [p] := by
  cases h with
  | tk e k l => exact ⟨_, _, rfl, e, k, l, rfl⟩
theorem Ok.tdict (ok : Ok K F0 H0 F σ H Γ) {i : Nat} {ks : List (List Int)} (g : Γ[i]? = some (.q (tkO P w ks))) : ∃ p L, σ[i]? = some (some (.ref p)) ∧ H p = some (.ext (DT0 P w p L)) ∧ F p = none ∧ H0 p = none ∧ (∀ q ∈ L, SqT K F q.1 (q.2.map V.int)) ∧ L.map (·.2) = ks := by
  obtain ⟨v, fp, e1, e2, e3, e4⟩ := ok.tree g
  obtain ⟨p, L, rfl, h1, h2, h3, rfl⟩ := tk_inv e2
  exact ⟨p, L, e1, h1, (e4 p (by simp)).1, (e4 p (by simp)).2, h2, h3⟩
theorem Ok.twrite (h : Ok K F0 H0 F σ H Γ) {i : Nat} {ks ks' : List (List Int)} {p : Addr} {L : List (Addr × List Int)} (e : Γ[i]? = some (.q (tkO P w ks))) (hs : σ[i]? = some (some (.ref p))) (hf : F p = none) (h0 : H0 p = none) (hd : ∀ q ∈ L, SqT K F q.1 (q.2.map V.int)) (hk' : L.map (·.2) = ks') :
    Ok K F0 H0 F σ (upd H p (.ext (DT0 P w p L))) (Γ.set i (.q (tkO P w ks'))) := by
  obtain ⟨fps, hF⟩ := h
  obtain ⟨fp, ef⟩ := hF.fp e
  have q := hF.sl i _ _ e ef
  rw [hs] at q
  obtain ⟨q1, q2, q3⟩ := q
  obtain ⟨p', xs, e1, e2, e3, _, e6⟩ := tk_inv q1
  cases e1
  subst e6
  have hi : i < Γ.length := (List.getElem?_eq_some_iff.mp e).1
  have := Ok.rewrite (F' := F) (H' := upd H p (.ext (DT0 P w p L))) (s' := .q (tkO P w ks')) (o := some (.ref p)) (fp' := [p]) ⟨fps, hF⟩ hF e ef (Ex.refl _) (fun a u m k => by rw [upd_ne (fun z => m (List.mem_singleton.mpr z))]; exact k) (fun a u _ k _ _ => k)
    (fun a u k => by
      rw [upd_ne (ne_of_none k hf)]
      exact hF.base.s a u k) ⟨.tk upd_same hd hk', by simp, fun a ha => by
        rw [List.mem_singleton] at ha
        subst ha
        exact ⟨hf, h0⟩⟩ (fun a m => .inl m)
  have sg : σ.set i (some (.ref p)) = σ := by
    apply List.ext_getElem?
    intro k
    by_cases hk : i = k
    · subst hk
      rw [List.getElem?_set_self (by rw [hF.len]; exact hi), hs]
    · rw [List.getElem?_set_ne hk]
  rw [sg] at this
  exact this
end
theorem da_intsV {K : PySem.W.Frag} {F : Hp} : ∀ {k : List Int} {vs : List V}, DpAll K F vs (k.map .int) → vs = k.map V.int
  | [], _, h => by cases h; rfl
  | x :: k, _, h => by
    cases h with
    | cons a b =>
      cases a
      rw [da_intsV b]
      rfl
theorem dp_ti {K : PySem.W.Frag} {F : Hp} {v : V} {k : List Int} (h : Dp K F v (ti k)) : ∃ b, v = .ref b ∧ SqT K F b (k.map V.int) := by
  cases h with
  | tup g1 g2 =>
    rw [da_intsV g2] at g1
    exact ⟨_, rfl, g1⟩
section
variable {X : Cx} {W : WX} {F0 H0 : Hp} {Γ : List S} {b e : Expr} {pos : Pos} {ks : List (List Int)} {key : List Int}
theorem je_tNew : JE X W F0 H0 Γ (.Dict [] [] pos) (.q (tkO X.prog X.w [])) := pe_imp pe_tnew fun σ H Q ⟨F, ok, q⟩ p hp =>
  q (.ref p) [p] F _ (Fz.fresh ok.fh hp) (.tk upd_same (fun q h => by cases h) rfl) (by simp) fun a ha => by
    rw [List.mem_singleton] at ha
    subst ha
    exact ⟨hp, ok.fh.none hp⟩
theorem jt_tNotIn (i : Nat) {n : Str} {q2 : Pos} (hu : X.A.units + 1 < cLine) (g : Γ[i]? = some (.q (tkO X.prog X.w ks))) (hb : JE X WF F0 H0 Γ b (.v (ti key))) (hN : X.N[i]? = some n := by rfl) (hv : Vis X.env.scope n := by first | exact Or.inl rfl | exact Or.inr (Or.inl rfl) | exact Or.inr (Or.inr rfl)) (hd : (n == ("__debug__" : Str)) = false := by decide) (hcd : (n == ("__classdict__" : Str)) = false := by decide) (hm : behindInMarks .NotIn (.Name n q2) = false := by first | exact nobehind _ (by decide) (by decide) | rfl) :
    JT X F0 H0 Γ (.Compare b [.NotIn] [.Name n q2] pos) (!decide (key ∈ ks)) :=
  pt_imp (pt_cmp (pc_tnotin hu hb (pe_var hN hv hd hcd)) hm) fun σ H Q ⟨F, ok, q⟩ => ⟨F, ok, fun u F2 H2 z2 d2 => by
    obtain ⟨p, L, e1, e2, e3, e4, e5, e6⟩ := (ok.mono z2).tdict g
    obtain ⟨c, rfl, hc⟩ := dp_ti d2
    refine ⟨_, e1, p, c, L, key, rfl, rfl, e2, fun q hq => st_ex z2.s (e5 q hq), st_ex z2.s hc, _, rfl, ?_⟩
    rw [e6]
    exact q F2 H2 z2⟩
/-- d[key] = True -/
theorem js_tSet (i : Nat) {n : Str} {np sp : Pos} (hu : X.A.units + 1 < cLine) (g : Γ[i]? = some (.q (tkO X.prog X.w ks))) (hl : ks.length < 100000) (he : JE X W F0 H0 Γ e (.v (.bool true))) (hb : JE X W F0 H0 Γ b (.v (ti key))) (hN : X.N[i]? = some n := by rfl) (hv : Vis X.env.scope n := by first | exact Or.inl rfl | exact Or.inr (Or.inl rfl) | exact Or.inr (Or.inr rfl)) (hd : (n == ("__debug__" : Str)) = false := by decide) (hcd : (n == ("__classdict__" : Str)) = false := by decide)
    (ha : ∀ v, assign (.Subscript (.Name n np) b sp) X.env v = (do
      let ov ← holding [v] (eval (.Name n np) X.env)
      let iv ← holding [v, ov] (eval b X.env)
      standAt sp
      holding [v, ov, iv] (setItem ov iv v)
      release [v, ov, iv] []) := by intro _; rfl)
    (hs : swapsWithSole [.Subscript (.Name n np) b sp] e pos.line X.env = pure false := by rfl) (hw : swappedStores [.Subscript (.Name n np) b sp] e X.env = pure none := by rfl)
    (h1 : (assignEach [.Subscript (.Name n np) b sp] X.env).map (·.2) = [assign (.Subscript (.Name n np) b sp) X.env] := by rfl) :
    JS X W F0 H0 Γ (.Assign [.Subscript (.Name n np) b sp] e pos) (.nx (Γ.set i (.q (tkO X.prog X.w (if key ∈ ks then ks else ks ++ [key]))))) :=
  ps_imp (ps_asg he (pg_sub (pe_var hN hv hd hcd) hb (set_tk hu) ha) hs hw h1) fun D' σ H ⟨F, ok, q⟩ => ⟨F, ok, fun v F1 H1 z1 d1 => by
    obtain ⟨p, L, e1, e2, e3, e4, e5, e6⟩ := (ok.mono z1).tdict g
    refine ⟨_, e1, F1, ok.mono z1, fun u F2 H2 z2 d2 => ?_⟩
    obtain ⟨c, rfl, hc⟩ := dp_ti d2
    cases d1
    refine ⟨p, c, L, key, rfl, rfl, rfl, z2.h _ _ e2, fun q hq => st_ex (z2.f.trans z2.s) (e5 q hq), st_ex z2.s hc, ?_, fun L' m1 m2 => ?_⟩
    · have : L.length = ks.length := by rw [← e6, List.length_map]
      rw [this]
      exact Nat.le_of_lt (Nat.lt_of_lt_of_le hl (by decide))
    · have ok2 := (ok.mono z1).mono z2
      refine q σ F2 _ (z1.f.trans z2.f) (ok2.twrite g e1 (z2.n _ _ e3 e2) e4 (fun q hq => ?_) (by rw [m1, e6]))
      rcases m2 q hq with h | rfl
      · exact st_ex z2.f (e5 q h)
      · exact hc⟩
end
end TB

namespace TB
open PySem L2 PySem.Spec PyProof.Rows
/-! ### the letters of a prime as the laws draw them up -/
def rootsX (p : Int) : List (Int × Int) := (List.range (2 * p).toNat).foldl (fun (acc : List (Int × Int)) (d : Nat) => putI acc ((0 + (d : Int)) * (0 + (d : Int))) (0 + (d : Int))) []
def blkC (p a b c : Int) : List (List Int) := match lookI (rootsX p) (4 * p - a * a - b * b - c * c) with
  | some d => if (a + c) % 2 = 0 then [[a, b, c, d], [a, b, c, -d]] else []
  | none => []
def blkB (p a b : Int) : List (List Int) := if a * a + b * b ≤ 4 * p ∧ (a + b) % 2 = 0 then (List.range (4 * p).toNat).flatMap fun (k : Nat) => blkC p a b (-2 * p + (k : Int)) else []
def blkA (p a : Int) : List (List Int) := (List.range (4 * p).toNat).flatMap fun (k : Nat) => blkB p a (-2 * p + (k : Int))
def rowsX (p : Int) : List (List Int) := (List.range (2 * p - 1).toNat).flatMap fun (k : Nat) => blkA p (1 + (k : Int))
def insK (ks : List (List Int)) (k : List Int) : List (List Int) := if k ∈ ks then ks else ks ++ [k]
def knownK (r : List Int) (ks : List (List Int)) : List (List Int) := lunits.foldl (fun ks u => insK ks (mulL r u)) ks
def knownX (found : List (List Int)) : List (List Int) := found.foldl (fun ks r => knownK r ks) []
def stepX (found : List (List Int)) (row : List Int) : List (List Int) := if row ∈ knownX found then found else found ++ [row]
noncomputable def lettersX (p : Int) : List (List Int) := ((sortLL (rowsX p)).reverse.foldl stepX []).reverse
/-! what is known -/
theorem ins_mem {ks : List (List Int)} {k x : List Int} : x ∈ insK ks k ↔ x ∈ ks ∨ x = k := by
  unfold insK
  split
  · rename_i h
    exact ⟨.inl, fun q => q.elim id fun e => e ▸ h⟩
  · rw [List.mem_append, List.mem_singleton]
theorem knownK_mem {r x : List Int} : ∀ {us ks : List (List Int)}, x ∈ us.foldl (fun ks u => insK ks (mulL r u)) ks ↔ x ∈ ks ∨ ∃ u ∈ us, x = mulL r u
  | [], ks => by simp
  | u :: us, ks => by
    rw [List.foldl_cons, knownK_mem, ins_mem]
    constructor
    · rintro ((h | h) | ⟨v, hv, h⟩)
      · exact .inl h
      · exact .inr ⟨u, List.mem_cons_self, h⟩
      · exact .inr ⟨v, List.mem_cons_of_mem _ hv, h⟩
    · rintro (h | ⟨v, hv, h⟩)
      · exact .inl (.inl h)
      · rcases List.mem_cons.mp hv with rfl | hv
        · exact .inl (.inr h)
        · exact .inr ⟨v, hv, h⟩
theorem knownX_mem' {x : List Int} : ∀ {found ks : List (List Int)}, x ∈ found.foldl (fun ks r => knownK r ks) ks ↔ x ∈ ks ∨ ∃ r ∈ found, ∃ u ∈ lunits, x = mulL r u
  | [], ks => by simp
  | r :: found, ks => by
    rw [List.foldl_cons, knownX_mem']
    unfold knownK
    rw [knownK_mem]
    constructor
    · rintro ((h | h) | ⟨v, hv, h⟩)
      · exact .inl h
      · exact .inr ⟨r, List.mem_cons_self, h⟩
      · exact .inr ⟨v, List.mem_cons_of_mem _ hv, h⟩
    · rintro (h | ⟨v, hv, h⟩)
      · exact .inl (.inl h)
      · rcases List.mem_cons.mp hv with rfl | hv
        · exact .inl (.inr h)
        · exact .inr ⟨v, hv, h⟩
theorem knownX_mem {x : List Int} {found : List (List Int)} : x ∈ knownX found ↔ ∃ r ∈ found, ∃ u ∈ lunits, x = mulL r u := by
  unfold knownX
  rw [knownX_mem']
  simp
theorem knownX_app (found : List (List Int)) (r : List Int) : knownX (found ++ [r]) = knownK r (knownX found) := by
  unfold knownX
  rw [List.foldl_append, List.foldl_cons, List.foldl_nil]
theorem unit_known {p : Int} (hp : 0 < p) {r x : List Int} (hr : isNum r = true) (nr : normL r = p) (hx : isNum x = true) (nx : normL x = p) : (∃ u ∈ lunits, x = mulL r u) ↔ (ldivF r x).isSome = true := by
  rw [ldivF_iff hr hx (by omega)]
  constructor
  · rintro ⟨u, hu, e⟩
    exact ⟨u, u_num (lunits_perm.mem_iff.mp hu), e⟩
  · rintro ⟨y, hy, e⟩
    refine ⟨y, lunits_perm.mem_iff.mpr ?_, e⟩
    have n := congrArg normL e
    rw [norm_mul hr hy, nr, nx] at n
    have n1 : normL y = 1 := by
      have : p * normL y = p * 1 := by omega
      exact Int.eq_of_mul_eq_mul_left (by omega) this
    have := unit_iff hy
    rw [decide_eq_true n1] at this
    exact of_decide_eq_true this.symm
def stepQ (found : List (List Int)) (row : List Int) : List (List Int) := if found.any (fun r => (ldivF r row).isSome) then found else found ++ [row]
theorem step_eq {p : Int} (hp : 0 < p) : ∀ (rows found : List (List Int)), (∀ x ∈ rows, isNum x = true ∧ normL x = p) → (∀ x ∈ found, isNum x = true ∧ normL x = p) → rows.foldl stepX found = rows.foldl stepQ found
  | [], _, _, _ => rfl
  | row :: rows, found, h, hf => by
    have hr := h row List.mem_cons_self
    have e : stepX found row = stepQ found row := by
      unfold stepX stepQ
      have : (row ∈ knownX found) ↔ found.any (fun r => (ldivF r row).isSome) = true := by
        rw [knownX_mem, List.any_eq_true]
        constructor
        · rintro ⟨r, hm, hu⟩
          exact ⟨r, hm, (unit_known hp (hf r hm).1 (hf r hm).2 hr.1 hr.2).mp hu⟩
        · rintro ⟨r, hm, hu⟩
          exact ⟨r, hm, (unit_known hp (hf r hm).1 (hf r hm).2 hr.1 hr.2).mpr hu⟩
      by_cases q : row ∈ knownX found
      · rw [if_pos q, if_pos (this.mp q)]
      · rw [if_neg q, if_neg fun z => q (this.mpr z)]
    rw [List.foldl_cons, List.foldl_cons, e]
    refine step_eq hp rows _ (fun x hx => h x (List.mem_cons_of_mem _ hx)) fun x hx => ?_
    unfold stepQ at hx
    split at hx
    · exact hf x hx
    · rcases List.mem_append.mp hx with q | q
      · exact hf x q
      · rw [List.mem_singleton.mp q]
        exact hr
/-! what is drawn up, cut down to what there is -/
theorem flat_trim {β : Type} {f : Int → List β} {lo : Int} {s m t : Nat} (h : ∀ c : Int, (c < lo + (s : Int) ∨ lo + (s : Int) + (m : Int) ≤ c) → f c = []) : ((List.range (s + (m + t))).flatMap fun (k : Nat) => f (lo + (k : Int))) = (List.range m).flatMap fun (k : Nat) => f (lo + (s : Int) + (k : Int)) := by
  rw [List.range_add, List.range_add, List.map_append, List.flatMap_append, List.flatMap_append]
  have e1 : ((List.range s).flatMap fun (k : Nat) => f (lo + (k : Int))) = [] := List.flatMap_eq_nil_iff.mpr fun k hk => h _ (.inl (by have := List.mem_range.mp hk; omega))
  rw [e1, List.nil_append, List.map_map, List.flatMap_map, List.flatMap_map]
  have e3 : ((List.range t).flatMap fun (k : Nat) => f (lo + (((((s + ·) ∘ (m + ·)) k : Nat)) : Int))) = [] := List.flatMap_eq_nil_iff.mpr fun k hk => h _ (.inr (by show lo + s + m ≤ lo + ((s + (m + k) : Nat) : Int); omega))
  rw [e3, List.append_nil]
  congr 1
  funext k
  congr 1
  omega
theorem sq_nn' (a : Int) : 0 ≤ a * a := by
  rcases Int.le_total 0 a with h | h
  · exact Int.mul_nonneg h h
  · have := Int.mul_nonneg (show 0 ≤ -a by omega) (show 0 ≤ -a by omega)
    rwa [Int.neg_mul_neg] at this
theorem sq_big' {c m : Int} (hm : 0 ≤ m) (h : c < -m ∨ m < c) : (m + 1) * (m + 1) ≤ c * c := by
  rcases h with h | h
  · have := Int.mul_le_mul (show m + 1 ≤ -c by omega) (show m + 1 ≤ -c by omega) (by omega) (by omega)
    rwa [Int.neg_mul_neg] at this
  · exact Int.mul_le_mul (show m + 1 ≤ c by omega) (show m + 1 ≤ c by omega) (by omega) (by omega)
theorem put_nn {acc : List (Int × Int)} {k v : Int} (h : ∀ q ∈ acc, 0 ≤ q.1) (hk : 0 ≤ k) : ∀ q ∈ putI acc k v, 0 ≤ q.1 := by
  intro q hq
  unfold putI at hq
  split at hq
  · obtain ⟨z, hz, rfl⟩ := List.mem_map.mp hq
    have := h z hz
    split <;> exact this
  · rcases List.mem_append.mp hq with q1 | q1
    · exact h q q1
    · rw [List.mem_singleton.mp q1]
      exact hk
theorem roots_nn (p : Int) : ∀ q ∈ rootsX p, 0 ≤ q.1 := by
  unfold rootsX
  have : ∀ (xs : List Nat) (acc : List (Int × Int)), (∀ q ∈ acc, 0 ≤ q.1) → ∀ q ∈ xs.foldl (fun (acc : List (Int × Int)) (d : Nat) => putI acc ((0 + (d : Int)) * (0 + (d : Int))) (0 + (d : Int))) acc, 0 ≤ q.1 := fun xs => by
    induction xs with
    | nil => intro acc h; exact h
    | cons x xs ih => intro acc h; rw [List.foldl_cons]; exact ih _ (put_nn h (sq_nn' _))
  exact this _ _ fun q hq => by cases hq
theorem look_neg {p r : Int} (h : r < 0) : lookI (rootsX p) r = none := by
  unfold lookI
  have : (rootsX p).find? (fun kv => decide (kv.1 = r)) = none := by
    rw [List.find?_eq_none]
    intro q hq
    have := roots_nn p q hq
    simp
    omega
  rw [this]
  rfl
def rtS (m : Int) : List (Int × Int) := (List.range (m + 1).toNat).map fun (d : Nat) => ((d : Int) * (d : Int), (d : Int))
/-- the squares up to 4 p are those of 0 .. m -/
def rtOk (p m : Int) : Bool := decide ((rootsX p).take (m + 1).toNat = rtS m) && ((rootsX p).drop (m + 1).toNat).all fun q => decide (4 * p < q.1)
theorem rt_look {p m : Int} (h : rtOk p m = true) {r : Int} (hr : r ≤ 4 * p) : lookI (rootsX p) r = lookI (rtS m) r := by
  obtain ⟨h1, h2⟩ := (Bool.and_eq_true _ _).mp h
  have e := of_decide_eq_true h1
  unfold lookI
  congr 1
  conv => lhs; rw [← List.take_append_drop (m + 1).toNat (rootsX p), e]
  rw [List.find?_append]
  have : ((rootsX p).drop (m + 1).toNat).find? (fun kv => decide (kv.1 = r)) = none := by
    rw [List.find?_eq_none]
    intro q hq
    have := of_decide_eq_true (List.all_eq_true.mp h2 q hq)
    simp
    omega
  rw [this]
  cases (rtS m).find? (fun kv => decide (kv.1 = r)) <;> rfl
def lqC (p m a b c : Int) : List (List Int) := if 4 * p - a * a - b * b - c * c < 0 then [] else if (a + c) % 2 = 0 then match lookI (rtS m) (4 * p - a * a - b * b - c * c) with
  | some d => [[a, b, c, d], [a, b, c, -d]]
  | none => [] else []
theorem lqC_eq {p m : Int} (h : rtOk p m = true) (a b c : Int) : blkC p a b c = lqC p m a b c := by
  unfold blkC lqC
  rw [rt_look h (by have := sq_nn' a; have := sq_nn' b; have := sq_nn' c; omega)]
  by_cases h : 4 * p - a * a - b * b - c * c < 0
  · rw [← rt_look (by assumption) (by have := sq_nn' a; have := sq_nn' b; have := sq_nn' c; omega), look_neg h, if_pos h]
  · rw [if_neg h]
    by_cases h2 : (a + c) % 2 = 0
    · rw [if_pos h2]
      cases lookI (rtS m) (4 * p - a * a - b * b - c * c) with
      | none => rfl
      | some d => exact if_pos h2
    · rw [if_neg h2]
      cases lookI (rtS m) (4 * p - a * a - b * b - c * c) with
      | none => rfl
      | some d => exact if_neg h2
def lqB (p a b m : Int) : List (List Int) := if a * a + b * b ≤ 4 * p ∧ (a + b) % 2 = 0 then (List.range (2 * m + 1).toNat).flatMap fun (k : Nat) => lqC p m a b (-m + (k : Int)) else []
def lqA (p a m : Int) : List (List Int) := (List.range (2 * m + 1).toNat).flatMap fun (k : Nat) => lqB p a (-m + (k : Int)) m
def rowsQ (p m : Int) : List (List Int) := (List.range m.toNat).flatMap fun (k : Nat) => lqA p (1 + (k : Int)) m
theorem rows_eq {p m : Int} (hrt : rtOk p m = true) (hm : 1 ≤ m) (h2 : m < 2 * p) (h4 : 4 * p < (m + 1) * (m + 1)) : rowsX p = rowsQ p m := by
  have trim : ∀ {f : Int → List (List Int)}, (∀ c : Int, (c < -m ∨ m < c) → f c = []) → ((List.range (4 * p).toNat).flatMap fun (k : Nat) => f (-2 * p + (k : Int))) = (List.range (2 * m + 1).toNat).flatMap fun (k : Nat) => f (-m + (k : Int)) := fun {f} h => by
    have e := flat_trim (f := f) (lo := -2 * p) (s := (2 * p - m).toNat) (m := (2 * m + 1).toNat) (t := (2 * p - m - 1).toNat) (fun c hc => h c (by omega))
    rw [show (2 * p - m).toNat + ((2 * m + 1).toNat + (2 * p - m - 1).toNat) = (4 * p).toNat by omega] at e
    rw [e]
    congr 1
    funext k
    congr 1
    omega
  have hB : ∀ a b : Int, blkB p a b = lqB p a b m := fun a b => by
    unfold blkB lqB
    split
    · rw [show (fun (k : Nat) => blkC p a b (-2 * p + (k : Int))) = fun (k : Nat) => lqC p m a b (-2 * p + (k : Int)) from funext fun k => lqC_eq hrt _ _ _]
      refine trim fun c hc => ?_
      have := sq_big' (by omega) hc
      have q1 := sq_nn' a
      have q2 := sq_nn' b
      unfold lqC
      rw [if_pos (by omega)]
    · rfl
  have hA : ∀ a : Int, blkA p a = lqA p a m := fun a => by
    unfold blkA lqA
    rw [show (fun (k : Nat) => blkB p a (-2 * p + (k : Int))) = fun (k : Nat) => lqB p a (-2 * p + (k : Int)) m from funext fun k => hB _ _]
    refine trim (f := fun b => lqB p a b m) fun c hc => ?_
    have := sq_big' (by omega) hc
    have q1 := sq_nn' a
    unfold lqB
    rw [if_neg (by omega)]
  unfold rowsX rowsQ
  rw [show (fun (k : Nat) => blkA p (1 + (k : Int))) = fun (k : Nat) => lqA p (1 + (k : Int)) m from funext fun k => hA _]
  have e := flat_trim (f := fun a => if 0 < a then lqA p a m else []) (lo := 1) (s := 0) (m := m.toNat) (t := (2 * p - 1 - m).toNat) (fun c hc => by
    by_cases h0 : 0 < c
    · rw [if_pos h0]
      have := sq_big' (c := c) (m := m) (by omega) (.inr (by omega))
      unfold lqA
      refine List.flatMap_eq_nil_iff.mpr fun k _ => ?_
      have q1 := sq_nn' (-m + (k : Int))
      unfold lqB
      rw [if_neg (by omega)]
    · rw [if_neg h0])
  rw [show 0 + (m.toNat + (2 * p - 1 - m).toNat) = (2 * p - 1).toNat by omega] at e
  have l : ∀ (n : Nat), ((List.range n).flatMap fun (k : Nat) => (if 0 < 1 + (k : Int) then lqA p (1 + (k : Int)) m else [])) = (List.range n).flatMap fun (k : Nat) => lqA p (1 + (k : Int)) m := fun n => by
    congr 1
    funext k
    rw [if_pos (by omega)]
  rw [l] at e
  rw [e]
  congr 1
  funext k
  rw [if_pos (by omega)]
  congr 1
def lettersQ (p m : Int) : List (List Int) := ((isortL (rowsQ p m)).reverse.foldl stepQ []).reverse
def letOk (p m : Int) : Bool := (rowsQ p m).all (fun x => isNum x && decide (normL x = p)) && beqLL (lettersQ p m) (litP p) && decide ((rowsQ p m).length ≤ 400)
def letOk2 (p m : Int) : Bool := rtOk p m && decide (1 ≤ m) && decide (m < 2 * p) && decide (4 * p < (m + 1) * (m + 1)) && letOk p m
theorem let3 : letOk2 3 3 = true := by decide +kernel
theorem let5 : letOk2 5 4 = true := by decide +kernel
theorem let7 : letOk2 7 5 = true := by decide +kernel
theorem let11 : letOk2 11 6 = true := by decide +kernel
theorem let13 : letOk2 13 7 = true := by decide +kernel
theorem let17 : letOk2 17 8 = true := by decide +kernel
theorem let_all {p : Int} (h : p ∈ sixP) : ∃ m : Int, letOk2 p m = true := by
  simp only [sixP, List.mem_cons, List.not_mem_nil, or_false] at h
  rcases h with rfl | rfl | rfl | rfl | rfl | rfl
  · exact ⟨_, let3⟩
  · exact ⟨_, let5⟩
  · exact ⟨_, let7⟩
  · exact ⟨_, let11⟩
  · exact ⟨_, let13⟩
  · exact ⟨_, let17⟩
theorem letters_eq {p : Int} (h : p ∈ sixP) : lettersX p = lprimes p ∧ (rowsX p).length ≤ 400 ∧ ∀ x ∈ rowsX p, isNum x = true ∧ normL x = p := by
  obtain ⟨m, q⟩ := let_all h
  unfold letOk2 letOk at q
  simp only [Bool.and_eq_true, decide_eq_true_eq] at q
  obtain ⟨⟨⟨⟨q1, q2⟩, q3⟩, q4⟩, ⟨q5, q6⟩, q7⟩ := q
  have hsm := six_sm p h
  have p0 : 0 < p := by have := (six_small h).2.1; omega
  have e := rows_eq q1 q2 q3 q4
  have hall : ∀ x ∈ rowsX p, isNum x = true ∧ normL x = p := fun x hx => by
    rw [e] at hx
    have := List.all_eq_true.mp q5 x hx
    simp only [Bool.and_eq_true, decide_eq_true_eq] at this
    exact this
  refine ⟨?_, by rw [e]; exact q7, hall⟩
  unfold lettersX
  rw [sort_ins, step_eq p0 _ _ (fun x hx => hall x ((isort_perm _).mem_iff.mp (List.mem_reverse.mp hx))) (fun x hx => by cases hx), e, (smP_lit hsm).1]
  exact of_decide_eq_true (show decide (_ = _) = true from q6)
end TB

namespace TB
open PySem L2 PySem.Spec PyProof.Rows
def R_llet : List D → Out → Prop := fun ds o => ∃ p : Int, ds = [.int p] ∧ p ∈ sixP ∧ o = .o ((lprimes p).map ti)
theorem fmx_fold {α β : Type} {f : α → List β} : ∀ {xs : List α} {r0 : List β}, xs.foldl (fun r x => r ++ f x) r0 = r0 ++ xs.flatMap f
  | [], r0 => by simp
  | x :: xs, r0 => by rw [List.foldl_cons, fmx_fold, List.flatMap_cons, List.append_assoc]
theorem fmx_step {α β : Type} {f : α → List β} {r0 : List β} {xs : List α} {k : Nat} {x : α} (h : xs[k]? = some x) : r0 ++ (xs.take k).flatMap f ++ f x = r0 ++ (xs.take (k + 1)).flatMap f := by rw [take_fm h, List.append_assoc]
theorem fmx_len {α β : Type} {f : α → List β} {r0 : List β} {xs : List α} {k : Nat} {x : α} {N : Nat} (hN : (r0 ++ xs.flatMap f).length ≤ N) (h : xs[k]? = some x) : (r0 ++ (xs.take k).flatMap f ++ f x).length ≤ N := by
  rw [fmx_step h]
  have : xs.flatMap f = (xs.take (k + 1)).flatMap f ++ (xs.drop (k + 1)).flatMap f := by rw [← List.flatMap_append, List.take_append_drop]
  rw [this] at hN
  simp only [List.length_append] at *
  omega
theorem put_len (acc : List (Int × Int)) (k v : Int) : (putI acc k v).length ≤ acc.length + 1 := by
  unfold putI
  split
  · rw [List.length_map]; omega
  · rw [List.length_append]; exact Nat.le_refl _
theorem insK_len (ks : List (List Int)) (k : List Int) : (insK ks k).length ≤ ks.length + 1 := by
  unfold insK
  split
  · omega
  · rw [List.length_append]; exact Nat.le_refl _
theorem knownK_len (r : List Int) : ∀ (us ks : List (List Int)), (us.foldl (fun ks u => insK ks (mulL r u)) ks).length ≤ ks.length + us.length
  | [], ks => Nat.le_refl _
  | u :: us, ks => by
    rw [List.foldl_cons, List.length_cons]
    have := knownK_len r us (insK ks (mulL r u))
    have := insK_len ks (mulL r u)
    omega
theorem lunits_len : lunits.length = 24 := by decide +kernel
theorem knownX_len (found : List (List Int)) : (knownX found).length ≤ 24 * found.length := by
  have : ∀ (fs ks : List (List Int)), (fs.foldl (fun ks r => knownK r ks) ks).length ≤ ks.length + 24 * fs.length := fun fs => by
    induction fs with
    | nil => intro ks; exact Nat.le_refl _
    | cons r fs ih =>
      intro ks
      rw [List.foldl_cons, List.length_cons]
      have h1 := ih (knownK r ks)
      have h2 := knownK_len r lunits ks
      rw [lunits_len] at h2
      have h3 : (knownK r ks).length ≤ ks.length + 24 := h2
      omega
  have := this found []
  simpa [knownX] using this
end TB

namespace TB
open PySem L2 PySem.Spec PyProof.Rows
section
variable {X : Cx} {W : WX} {F0 H0 : Hp} {Γ : List S} {a b c : Expr} {pos : Pos} {i j k : Int}
/-- a <= b <= c -/
theorem je_leLe (ha : JE X W F0 H0 Γ a (.v (.int i))) (hb : JE X W F0 H0 Γ b (.v (.int j))) (hc : JE X W F0 H0 Γ c (.v (.int k))) (hm : lastMarks [.LtE, .LtE] [b, c] = false := by with_unfolding_all rfl) : JE X W F0 H0 Γ (.Compare a [.LtE, .LtE] [b, c] pos) (.v (.bool (decide (i ≤ j) && decide (j ≤ k)))) :=
  pe_imp (pe_chain op_le op_le ha hb hc hm) fun σ H Q ⟨F, ok, q⟩ => ⟨F, ok, fun v F1 H1 z1 d1 => ⟨F1, ok.mono z1, fun u F2 H2 z2 d2 => by
    cases d1
    cases d2
    refine ⟨i, j, rfl, rfl, decide (i ≤ j), rfl, ?_⟩
    by_cases h : i ≤ j
    · rw [decide_eq_true h] at q ⊢
      rw [if_pos rfl]
      refine ⟨F2, (ok.mono z1).mono z2, fun w F3 H3 z3 d3 => ?_⟩
      cases d3
      exact ⟨j, k, rfl, rfl, q _ F3 H3 ((z1.trans z2).trans z3) (.bl _)⟩
    · rw [decide_eq_false h] at q ⊢
      rw [if_neg Bool.false_ne_true]
      exact q _ F2 H2 (z1.trans z2) (.bl _)⟩⟩
end
section
variable {X : Cx} {W : WX} {F0 H0 : Hp} {Γ : List S} {e : Expr} {ds : List D}
/-- a list of one's own is lent for one test -/
theorem jt_lend (i : Nat) {b : Bool} (g : Γ[i]? = some (.own ds)) (h : JT X F0 H0 (Γ.set i (.d (.list ds))) e b) : JT X F0 H0 Γ e b :=
  pt_imp h fun σ H Q ⟨F, ok, q⟩ => by
    obtain ⟨p, xs, f, hH, ok'⟩ := ok.frz2 g
    refine ⟨_, ok', fun F' H' z => ?_⟩
    exact q _ H' (thaw_fz f hH z).1
end
/-! ### letters, partners -/
def R_lets : List D → Out → Prop := fun ds o => ∃ p : Int, ds = [.int p] ∧ p ∈ sixP ∧ o = .o ((lprimes p).map ti)
theorem six_elev : ∀ p ∈ sixP, p ∈ elevP := by decide
theorem six_199 : ∀ p ∈ sixP, oddP p 199 = true := by decide +kernel
def parF (p z : Int) : Int := (((lprimes p).idxOf (canonL (conjL ((lprimes p).getD (z - 1).toNat []))) : Nat) : Int) + 1
theorem six_len {p : Int} (h : p ∈ sixP) : ((lprimes p).length : Int) = p + 1 := by
  have := (elev_ok (six_elev p h)).2.2.1
  have := (six_small h).2.1
  rw [if_neg (by omega)] at *
  omega
/-- the partner's letter is there -/
theorem par_in {p z : Int} (h : p ∈ sixP) (h1 : 1 ≤ z) (h2 : z ≤ p + 1) : G 7 ((lprimes p).getD (z - 1).toNat []) ∧ zeroB ((lprimes p).getD (z - 1).toNat []) = false ∧ canonL (conjL ((lprimes p).getD (z - 1).toNat [])) ∈ lprimes p := by
  have hl := six_len h
  have hm := getD_memL (xs := lprimes p) (k := (z - 1).toNat) (by omega)
  have he := six_elev p h
  have g := (elev_lp he _ hm).1
  obtain ⟨f1, f2, f3⟩ := lp_canon he hm
  have p3 := (six_small h).2.1
  have nc := num_conj f1
  refine ⟨g, norm_ne_zero f1 (by omega), compl (six_sm p h) ?_ (by rw [canon_norm nc, norm_conj f1, f2]) (canon_canon nc)⟩
  obtain ⟨v1, v2⟩ := lead_ok (conjL ((lprimes p).getD (z - 1).toNat []))
  rw [← v2]
  exact num_mul nc (u_num v1)
theorem idx_no {L : List (List Int)} {x : List Int} : ∀ (m : Nat) (d : D), m < L.idxOf x → (L.map ti)[m]? = some d → PyData.eqv d (ti x) = false := by
  intro m d hm hd
  rw [List.getElem?_map] at hd
  cases q : L[m]? with
  | none => rw [q] at hd; cases hd
  | some y =>
    rw [q] at hd
    cases hd
    rw [eqv_ti]
    refine decide_eq_false fun e => ?_
    have hl := (List.getElem?_eq_some_iff.mp q)
    obtain ⟨hlt, e2⟩ := hl
    have := List.not_of_lt_findIdx (p := (· == x)) (xs := L) (i := m) hm
    rw [e2, e] at this
    simp at this
theorem idx_at {L : List (List Int)} {x : List Int} (h : x ∈ L) : (L.map ti)[L.idxOf x]? = some (ti x) := by
  have hl := List.idxOf_lt_length_of_mem h
  rw [List.getElem?_map, List.getElem?_eq_getElem hl, List.getElem_idxOf hl]
  rfl
def R_parof : List D → Out → Prop := fun ds o => ∃ (p z : Int), ds = [.list ((lprimes p).map ti), .int z] ∧ p ∈ sixP ∧ 1 ≤ z ∧ z ≤ p + 1 ∧ o = .v (.int (parF p z))
/-- a word of letters -/
def R_chkw : List D → Out → Prop := fun ds o => ∃ (p : Int) (d : D) (zs : List Int), ds = [.int p, d] ∧ Seq d zs ∧ p ∈ sixP ∧ zs.length ≤ 60 ∧ (∀ z ∈ zs, 1 ≤ z ∧ z ≤ p + 1) ∧ o = .v .none
theorem par_bt {p z : Int} (h : p ∈ sixP) (h1 : 1 ≤ z) (h2 : z ≤ p + 1) : 1 ≤ parF p z ∧ parF p z ≤ p + 1 := by
  have hl := six_len h
  have := List.idxOf_lt_length_of_mem (par_in h h1 h2).2.2
  unfold parF
  omega
end TB

namespace TB
open PySem L2 PySem.Spec PyProof.Rows
/-! ### letters of one prime: what a number of a power of p as norm is -/
theorem times_oneL (x : List Int) : timesL 1 x = x := by unfold timesL; simp
theorem six_pr {p : Int} (h : p ∈ sixP) : 3 ≤ p ∧ p ≤ 17 := ⟨(six_small h).2.1, (six_small h).2.2⟩
theorem div_odd : ∀ q ∈ ([3, 5, 7, 11, 13, 17] : List Nat), ∀ g ∈ List.range 18, g ≠ 0 → q % g = 0 → g = 1 ∨ g = q := by decide
theorem six_gcd (k : Nat) {p : Int} (h : p ∈ sixP) : Nat.gcd p.toNat k = 1 ∨ Nat.gcd p.toNat k = p.toNat := by
  have hq : p.toNat ∈ ([3, 5, 7, 11, 13, 17] : List Nat) := by
    have : ∀ p ∈ sixP, p.toNat ∈ ([3, 5, 7, 11, 13, 17] : List Nat) := by decide
    exact this p h
  have d : Nat.gcd p.toNat k ∣ p.toNat := Nat.gcd_dvd_left _ _
  have p17 := (six_pr h).2
  have p3 := (six_pr h).1
  have l := Nat.le_of_dvd (by omega) d
  exact div_odd _ hq _ (List.mem_range.mpr (by omega)) (fun e => by
    have := Nat.eq_zero_of_gcd_eq_zero_left e
    omega) (Nat.mod_eq_zero_of_dvd d)
/-- c divides a power of p, and p does not divide c: then c is 1 -/
theorem cop_pone {p c : Int} (h : p ∈ sixP) (h0 : 0 < c) (hn : ¬ p ∣ c) (n : Nat) (d : c ∣ p ^ n) : c = 1 := by
  have p3 := (six_pr h).1
  obtain ⟨m, rfl⟩ : ∃ m : Nat, c = (m : Int) := ⟨c.toNat, by omega⟩
  obtain ⟨q, rfl⟩ : ∃ q : Nat, p = (q : Int) := ⟨p.toNat, by omega⟩
  have g := six_gcd m h
  rw [Int.toNat_natCast] at g
  have d2 : m ∣ q ^ n := by
    rw [← Int.natCast_pow] at d
    exact Int.ofNat_dvd.mp d
  have c1 : Nat.gcd m q = 1 := by
    rcases g with g | g
    · rw [Nat.gcd_comm]; exact g
    · exact absurd (Int.ofNat_dvd.mpr (Nat.gcd_eq_left_iff_dvd.mp g)) hn
  have := Nat.Coprime.eq_one_of_dvd (Nat.Coprime.pow_right n c1) d2
  rw [this]
  rfl
/-- numbers of the norm p -/
def NP (p : Int) (fs : List (List Int)) : Prop := ∀ f ∈ fs, isNum f = true ∧ normL f = p
theorem NP.tl {p : Int} {f : List Int} {fs : List (List Int)} (h : NP p (f :: fs)) : NP p fs := fun g hg => h g (List.mem_cons_of_mem _ hg)
theorem np_nrm {p : Int} : ∀ {fs : List (List Int)}, NP p fs → isNum (prodL fs) = true ∧ normL (prodL fs) = p ^ fs.length
  | [], _ => ⟨by decide, by rw [List.length_nil, Int.pow_zero]; decide⟩
  | f :: fs, h => by
    obtain ⟨n1, n2⟩ := np_nrm h.tl
    obtain ⟨f1, f2⟩ := h f List.mem_cons_self
    rw [prod_cons f1 fun g hg => (h.tl g hg).1]
    refine ⟨num_mul f1 n1, ?_⟩
    rw [norm_mul f1 n1, n2, f2, List.length_cons, Int.pow_succ, Int.mul_comm]
theorem pow_pos {p : Int} (h : 0 < p) : ∀ n : Nat, 0 < p ^ n
  | 0 => by rw [Int.pow_zero]; decide
  | n + 1 => by rw [Int.pow_succ]; exact Int.mul_pos (pow_pos h n) h
theorem np_nz {p : Int} (hp : 0 < p) {x : List Int} {n : Nat} (hx : isNum x = true) (h : normL x = p ^ n) : zeroB x = false := norm_ne_zero hx (by rw [h]; have := pow_pos hp n; omega)
theorem nd_unit {p : Int} (hp : 2 ≤ p) {x : List Int} (h : normL x = 1) : ¬ Div p x := by
  rintro ⟨z, hz, e⟩
  have n := congrArg normL e
  rw [norm_timesL _ hz, h] at n
  have d : p ∣ 1 := ⟨p * normL z, by rw [← Int.mul_assoc, ← n]⟩
  have := Int.le_of_dvd (by decide) d
  omega
theorem nd_prime {p : Int} (hp : 2 ≤ p) {x : List Int} (h : normL x = p) : ¬ Div p x := by
  rintro ⟨z, hz, e⟩
  have n := congrArg normL e
  rw [norm_timesL _ hz, h, Int.mul_assoc] at n
  have e1 : 1 = p * normL z := Int.eq_of_mul_eq_mul_left (a := p) (by omega) (by rw [Int.mul_one]; exact n)
  have := Int.le_of_dvd (by decide) (show p ∣ 1 from ⟨_, e1⟩)
  omega
/-- none beside another is divided -/
def chainP (p : Int) : List (List Int) → Prop
  | [] => True
  | [_] => True
  | a :: b :: t => ¬ Div p (mulL a b) ∧ chainP p (b :: t)
theorem chainP.tl {p : Int} {a : List Int} : ∀ {t : List (List Int)}, chainP p (a :: t) → chainP p t
  | [], _ => trivial
  | b :: t, h => h.2
theorem chain_div {p : Int} (hp : p ∈ sixP) : ∀ {fs : List (List Int)}, NP p fs → chainP p fs → ¬ Div p (prodL fs)
  | [], _, _ => nd_unit (by have := six_pr hp; omega) (by decide)
  | [g], h, _ => by
    obtain ⟨g1, g2⟩ := h g List.mem_cons_self
    rw [prod_cons g1 (fun _ h => by cases h)]
    show ¬ Div p (mulL g [2, 0, 0, 0])
    rw [mul_oneR g1]
    exact nd_prime (by have := six_pr hp; omega) g2
  | g :: b :: t, h, hc => by
    intro hd
    have p3 := six_pr hp
    obtain ⟨g1, g2⟩ := h g List.mem_cons_self
    obtain ⟨b1, b2⟩ := h.tl b List.mem_cons_self
    have nt : ∀ x ∈ t, isNum x = true := fun x hx => (h.tl.tl x hx).1
    obtain ⟨y1, y2⟩ := np_nrm h.tl
    obtain ⟨t1, _⟩ := np_nrm h.tl.tl
    rw [prod_cons g1 fun x hx => (h.tl x hx).1] at hd
    have cb : isNum (canonL b) = true := by rw [← (lead_ok b).2]; exact num_mul b1 (u_num (lead_ok b).1)
    have ub := u_num (behind_u b)
    have db := pair_stop (six_sm p hp) g1 g2 cb (by rw [canon_norm b1, b2]) (canon_canon b1) y1 (np_nz (by omega) y1 y2) (by
      rw [y2, List.length_cons, Int.pow_succ]; exact Int.mul_emod_left _ _) hd (chain_div hp h.tl hc.2) ⟨mulL (behindL b) (prodL t), num_mul ub t1, by
        rw [← mul_asc cb ub t1, behind_mul b1, prod_cons b1 nt]⟩
    refine hc.1 ?_
    have e : mulL g b = mulL (mulL g (canonL b)) (behindL b) := by rw [mul_asc g1 cb ub, behind_mul b1]
    rw [e]
    exact div_mul ub db
/-! #### letters by their numbers -/
def letF (p z : Int) : List Int := (lprimes p).getD (z - 1).toNat []
def idxF (p : Int) (f : List Int) : Int := ((lprimes p).idxOf f : Nat) + 1
def idxs (p : Int) (fs : List (List Int)) : List Int := fs.map (idxF p)
def lets (p : Int) (zs : List Int) : List (List Int) := zs.map (letF p)
/-- numbers of letters -/
def WZ (p : Int) (zs : List Int) : Prop := ∀ z ∈ zs, 1 ≤ z ∧ z ≤ p + 1
/-- letters -/
def WL (p : Int) (fs : List (List Int)) : Prop := ∀ f ∈ fs, f ∈ lprimes p
theorem let_in {p z : Int} (h : p ∈ sixP) (h1 : 1 ≤ z) (h2 : z ≤ p + 1) : letF p z ∈ lprimes p := by
  have hl := six_len h
  exact getD_memL (by omega)
theorem let_ok {p : Int} {f : List Int} (h : p ∈ sixP) (hf : f ∈ lprimes p) : isNum f = true ∧ normL f = p ∧ canonL f = f := lp_canon (six_elev p h) hf
theorem idx_let {p z : Int} (h : p ∈ sixP) (h1 : 1 ≤ z) (h2 : z ≤ p + 1) : idxF p (letF p z) = z := by
  have hl := six_len h
  have nd := (smP_lit (six_sm p h)).2
  have hk : (z - 1).toNat < (lprimes p).length := by omega
  unfold idxF letF
  rw [List.getD_eq_getElem?_getD, List.getElem?_eq_getElem hk, Option.getD_some, List.Nodup.idxOf_getElem nd _ hk]
  omega
theorem let_idx {p : Int} {f : List Int} (hf : f ∈ lprimes p) : letF p (idxF p f) = f := by
  have hl := List.idxOf_lt_length_of_mem hf
  unfold idxF letF
  rw [show (((lprimes p).idxOf f : Nat) + 1 - 1 : Int).toNat = (lprimes p).idxOf f by omega, List.getD_eq_getElem?_getD, List.getElem?_eq_getElem hl, Option.getD_some, List.getElem_idxOf hl]
theorem idx_bt {p : Int} {f : List Int} (h : p ∈ sixP) (hf : f ∈ lprimes p) : 1 ≤ idxF p f ∧ idxF p f ≤ p + 1 := by
  have hl := six_len h
  have := List.idxOf_lt_length_of_mem hf
  unfold idxF
  omega
theorem lets_WL {p : Int} {zs : List Int} (h : p ∈ sixP) (hz : WZ p zs) : WL p (lets p zs) := fun f hf => by
  obtain ⟨z, hz', rfl⟩ := List.mem_map.mp hf
  exact let_in h (hz z hz').1 (hz z hz').2
theorem idxs_WZ {p : Int} {fs : List (List Int)} (h : p ∈ sixP) (hf : WL p fs) : WZ p (idxs p fs) := fun z hz => by
  obtain ⟨f, hf', rfl⟩ := List.mem_map.mp hz
  exact idx_bt h (hf f hf')
theorem idxs_lets {p : Int} {zs : List Int} (h : p ∈ sixP) (hz : WZ p zs) : idxs p (lets p zs) = zs := by
  unfold idxs lets
  rw [List.map_map]
  exact map_same fun z hz' => idx_let h (hz z hz').1 (hz z hz').2
theorem lets_idxs {p : Int} {fs : List (List Int)} (hf : WL p fs) : lets p (idxs p fs) = fs := by
  unfold idxs lets
  rw [List.map_map]
  exact map_same fun f hf' => let_idx (hf f hf')
theorem WL.np {p : Int} {fs : List (List Int)} (h : p ∈ sixP) (hf : WL p fs) : NP p fs := fun f hf' => ⟨(let_ok h (hf f hf')).1, (let_ok h (hf f hf')).2.1⟩
/-- partners stand for what is divided -/
theorem par_iff {p z w : Int} (h : p ∈ sixP) (h1 : 1 ≤ z) (h2 : z ≤ p + 1) (h3 : 1 ≤ w) (h4 : w ≤ p + 1) : parF p z = w ↔ Div p (mulL (letF p z) (letF p w)) := by
  have p3 := six_pr h
  obtain ⟨f1, f2, f3⟩ := let_ok h (let_in h h1 h2)
  obtain ⟨g1, g2, g3⟩ := let_ok h (let_in h h3 h4)
  have hpi := (par_in h h1 h2).2.2
  have ep : parF p z = idxF p (canonL (conjL (letF p z))) := rfl
  have c1 := num_conj f1
  rw [ep]
  constructor
  · intro e
    have e2 : letF p w = canonL (conjL (letF p z)) := by rw [← e]; exact let_idx hpi
    obtain ⟨v1, v2⟩ := lead_ok (conjL (letF p z))
    refine ⟨leadU (conjL (letF p z)), u_num v1, ?_⟩
    rw [e2, ← v2, ← mul_asc f1 c1 (u_num v1), (mul_conj f1).1, f2, (mul_int p (u_num v1)).1]
  · rintro ⟨y, hy, e⟩
    have k := congrArg (mulL (conjL (letF p z))) e
    rw [← mul_asc c1 f1 g1, (mul_conj f1).2, f2, (mul_int p g1).1, ← (mul_int p hy).2, ← mul_asc c1 hy (num_int _), (mul_int p (num_mul c1 hy)).2] at k
    have k2 : letF p w = mulL (conjL (letF p z)) y := times_inj (by omega) k
    have n := congrArg normL k2
    rw [norm_mul c1 hy, norm_conj f1, f2, g2] at n
    have ny : normL y = 1 := (Int.eq_of_mul_eq_mul_left (a := p) (by omega) (by rw [Int.mul_one]; exact n)).symm
    have yu : y ∈ unitsL := by
      have := unit_iff hy
      rw [decide_eq_true ny] at this
      exact of_decide_eq_true this.symm
    have ec : canonL (conjL (letF p z)) = letF p w := by rw [← g3, k2, canon_asso c1 yu]
    rw [ec]
    exact idx_let h h3 h4
/-- no letter is followed by its partner -/
def apartB (p : Int) : List Int → Bool
  | [] => true
  | [_] => true
  | a :: b :: t => !decide (parF p a = b) && apartB p (b :: t)
theorem apart_chain {p : Int} (h : p ∈ sixP) : ∀ {zs : List Int}, WZ p zs → (apartB p zs = true ↔ chainP p (lets p zs))
  | [], _ => ⟨fun _ => trivial, fun _ => rfl⟩
  | [_], _ => ⟨fun _ => trivial, fun _ => rfl⟩
  | a :: b :: t, hz => by
    obtain ⟨a1, a2⟩ := hz a List.mem_cons_self
    obtain ⟨b1, b2⟩ := hz b (List.mem_cons_of_mem _ List.mem_cons_self)
    have ih := apart_chain h (zs := b :: t) fun z hz' => hz z (List.mem_cons_of_mem _ hz')
    show ((!decide (parF p a = b) && apartB p (b :: t)) = true ↔ (¬ Div p (mulL (letF p a) (letF p b)) ∧ chainP p (lets p (b :: t))))
    rw [Bool.and_eq_true, ih, ← par_iff h a1 a2 b1 b2, Bool.not_eq_true', decide_eq_false_iff_not]
/-- what is not divided as a whole is not divided in parts -/
theorem div_left {p : Int} {g y : List Int} (hg : isNum g = true) (h : Div p y) : Div p (mulL g y) := by
  obtain ⟨z, hz, e⟩ := h
  refine ⟨mulL g z, num_mul hg hz, ?_⟩
  rw [e, ← (mul_int p hz).2, ← mul_asc hg hz (num_int _), (mul_int p (num_mul hg hz)).2]
theorem nd_chain {p : Int} : ∀ {fs : List (List Int)}, (∀ f ∈ fs, isNum f = true) → ¬ Div p (prodL fs) → chainP p fs
  | [], _, _ => trivial
  | [_], _, _ => trivial
  | a :: b :: t, h, hd => by
    have ha := h a List.mem_cons_self
    have ht := fun f hf => h f (List.mem_cons_of_mem _ hf)
    have hb := ht b List.mem_cons_self
    have hn : ∀ f ∈ t, isNum f = true := fun f hf => ht f (List.mem_cons_of_mem _ hf)
    rw [prod_cons ha ht] at hd
    refine ⟨fun q => hd ?_, nd_chain ht fun q => hd (div_left ha q)⟩
    rw [prod_cons hb hn, ← mul_asc ha hb (prod_num hn)]
    exact div_mul (prod_num hn) q
/-! #### what a number is made of -/
structure Dec (p : Int) (x : List Int) (t : Nat) (fs : List (List Int)) (u : List Int) : Prop where
  eq : x = timesL (p ^ t) (mulL (prodL fs) u)
  mem : WL p fs
  nd : ¬ Div p (prodL fs)
  un : u ∈ unitsL
theorem Dec.np {p : Int} {x : List Int} {t : Nat} {fs : List (List Int)} {u : List Int} (h : Dec p x t fs u) (hp : p ∈ sixP) : isNum (prodL fs) = true ∧ normL (prodL fs) = p ^ fs.length := np_nrm (h.mem.np hp)
theorem Dec.yn {p : Int} {x : List Int} {t : Nat} {fs : List (List Int)} {u : List Int} (h : Dec p x t fs u) (hp : p ∈ sixP) : isNum (mulL (prodL fs) u) = true ∧ normL (mulL (prodL fs) u) = p ^ fs.length ∧ ¬ Div p (mulL (prodL fs) u) := by
  obtain ⟨n1, n2⟩ := h.np hp
  have nu := u_num h.un
  refine ⟨num_mul n1 nu, by rw [norm_mul n1 nu, norm_unit h.un, Int.mul_one, n2], fun q => h.nd ?_⟩
  have := div_mul (u_num (units_cj u h.un).1) q
  rw [mul_asc n1 nu (u_num (units_cj u h.un).1), (units_cj u h.un).2.1, mul_oneR n1] at this
  exact this
theorem Dec.num {p : Int} {x : List Int} {t : Nat} {fs : List (List Int)} {u : List Int} (h : Dec p x t fs u) (hp : p ∈ sixP) : isNum x = true := by rw [h.eq]; exact num_times _ (h.yn hp).1
theorem Dec.nrm {p : Int} {x : List Int} {t : Nat} {fs : List (List Int)} {u : List Int} (h : Dec p x t fs u) (hp : p ∈ sixP) : normL x = p ^ (2 * t + fs.length) := by
  rw [h.eq, norm_timesL _ (h.yn hp).1, (h.yn hp).2.1, ← Int.pow_add, ← Int.pow_add, Nat.two_mul]
theorem Dec.nz {p : Int} {x : List Int} {t : Nat} {fs : List (List Int)} {u : List Int} (h : Dec p x t fs u) (hp : p ∈ sixP) : zeroB x = false := np_nz (by have := six_pr hp; omega) (h.num hp) (h.nrm hp)
theorem prim_ex {p : Int} (hp : p ∈ sixP) : ∀ {n : Nat} {x : List Int}, isNum x = true → normL x = p ^ n → ¬ Div p x → ∃ fs u, Dec p x 0 fs u ∧ fs.length = n
  | 0, x, hx, hn, hd => by
    rw [Int.pow_zero] at hn
    have xu : x ∈ unitsL := by
      have := unit_iff hx
      rw [decide_eq_true (show normL x = 1 from hn)] at this
      exact of_decide_eq_true this.symm
    refine ⟨[], x, ⟨?_, fun f h => absurd h List.not_mem_nil, nd_unit (by have := six_pr hp; omega) (by decide), xu⟩, rfl⟩
    rw [Int.pow_zero, show prodL [] = [2, 0, 0, 0] from rfl, mul_one' hx, times_oneL]
  | n + 1, x, hx, hn, hd => by
    have p3 := six_pr hp
    have xz := np_nz (by omega) hx hn
    have h1 : normL x % p = 0 := by rw [hn, Int.pow_succ]; exact Int.mul_emod_left _ _
    have h2 : contL x % p ≠ 0 := fun q => hd ((div_iff hx xz (by omega)).2.mpr (Int.dvd_of_emod_eq_zero q))
    obtain ⟨g1, g2, g3, g4, g5, _⟩ := left_one (six_sm p hp) hx xz h1 h2
    obtain ⟨y, hy, ey⟩ := g4
    have ny : normL y = p ^ n := by
      have e := congrArg normL ey
      rw [norm_mul g1 hy, hn, g2, Int.pow_succ, Int.mul_comm] at e
      exact (Int.eq_of_mul_eq_mul_left (by omega) e).symm
    obtain ⟨fs, u, D, hl⟩ := prim_ex hp hy ny fun q => hd (by rw [ey]; exact div_left g1 q)
    have nf := D.np hp
    have hm : WL p (lgcd x (wp p) :: fs) := fun f hf => by
      rcases List.mem_cons.mp hf with rfl | hf
      · exact g5
      · exact D.mem f hf
    have ex : x = mulL (prodL (lgcd x (wp p) :: fs)) u := by
      have e0 := D.eq
      rw [show (p : Int) ^ 0 = 1 from Int.pow_zero p, times_oneL] at e0
      rw [prod_cons g1 (fun f hf => (D.mem.np hp f hf).1), mul_asc g1 nf.1 (u_num D.un), ← e0]
      exact ey
    refine ⟨lgcd x (wp p) :: fs, u, ⟨?_, hm, fun q => hd ?_, D.un⟩, by rw [List.length_cons, hl]⟩
    · rw [show (p : Int) ^ 0 = 1 from Int.pow_zero p, times_oneL]
      exact ex
    · rw [ex]
      exact div_mul (u_num D.un) q
theorem dec_ex {p : Int} (hp : p ∈ sixP) : ∀ {n : Nat} {x : List Int}, isNum x = true → normL x = p ^ n → ∃ t fs u, Dec p x t fs u ∧ 2 * t + fs.length = n := by
  intro n
  induction n using Nat.strongRecOn with
  | ind n ih =>
    intro x hx hn
    have p3 := six_pr hp
    by_cases hd : Div p x
    · obtain ⟨z, hz, e⟩ := hd
      have en := congrArg normL e
      rw [norm_timesL _ hz, hn] at en
      match n, ih, hn, en with
      | 0, _, hn, _ => exact absurd ⟨z, hz, e⟩ (nd_unit (by omega) (by rw [hn, Int.pow_zero]))
      | 1, _, hn, _ => exact absurd ⟨z, hz, e⟩ (nd_prime (by omega) (by rw [hn, Int.pow_succ, Int.pow_zero, Int.one_mul]))
      | n + 2, ih, hn, en =>
        have nz : normL z = p ^ n := by
          rw [Int.pow_succ, Int.pow_succ, Int.mul_assoc, Int.mul_comm] at en
          exact (Int.eq_of_mul_eq_mul_left (a := p * p) (by have := Int.mul_pos (show 0 < p by omega) (show 0 < p by omega); omega) en).symm
        obtain ⟨t, fs, u, D, hl⟩ := ih n (by omega) hz nz
        refine ⟨t + 1, fs, u, ⟨?_, D.mem, D.nd, D.un⟩, by omega⟩
        rw [e, D.eq, times_times, Int.pow_succ]
    · obtain ⟨fs, u, D, hl⟩ := prim_ex hp hx hn hd
      exact ⟨0, fs, u, D, by omega⟩
theorem dec_nd {p : Int} (hp : p ∈ sixP) {fs : List (List Int)} (hf : WL p fs) (hc : chainP p fs) : Dec p (prodL fs) 0 fs [2, 0, 0, 0] := by
  refine ⟨?_, hf, chain_div hp (hf.np hp) hc, by decide⟩
  rw [show (p : Int) ^ 0 = 1 from Int.pow_zero p, times_oneL, mul_oneR (np_nrm (hf.np hp)).1]
/-- its content -/
theorem Dec.prim {p : Int} {x : List Int} {t : Nat} {fs : List (List Int)} {u : List Int} (h : Dec p x t fs u) (hp : p ∈ sixP) : contL (mulL (prodL fs) u) = 1 := by
  have p3 := six_pr hp
  obtain ⟨y1, y2, y3⟩ := h.yn hp
  have yz := np_nz (by omega) y1 y2
  have cp := cont_pos y1 yz
  obtain ⟨w, hw, ew⟩ := cont_div y1 yz
  have en := congrArg normL ew
  rw [norm_timesL _ hw, y2, Int.mul_assoc] at en
  exact cop_pone hp cp (fun q => y3 ((div_iff y1 yz (by omega)).2.mpr q)) _ ⟨_, en⟩
theorem Dec.cont {p : Int} {x : List Int} {t : Nat} {fs : List (List Int)} {u : List Int} (h : Dec p x t fs u) (hp : p ∈ sixP) : contL x = p ^ t := by
  have p3 := six_pr hp
  obtain ⟨y1, y2, y3⟩ := h.yn hp
  conv => lhs; rw [h.eq]
  rw [cont_times y1 (np_nz (by omega) y1 y2) (pow_pos (by omega) t), h.prim hp, Int.mul_one]
theorem Dec.part {p : Int} {x : List Int} {t : Nat} {fs : List (List Int)} {u : List Int} (h : Dec p x t fs u) (hp : p ∈ sixP) : x.map (fun q => q / contL x) = mulL (prodL fs) u := by
  have p3 := six_pr hp
  rw [h.cont hp]
  conv => lhs; rw [h.eq]
  exact quo_of_times (pow_pos (by omega) t) _
end TB

namespace TB
open PySem L2 PySem.Spec PyProof.Rows
section
variable {X : Cx} {W : WX} {F0 H0 : Hp} {Γ : List S} {a b : Expr} {x : D} {pos : Pos} {n : Nat}
end
theorem le_eq {Γ Γ' : List S} (h : Γ = Γ') : Le Γ Γ' := h ▸ Le.refl _
/-- the letter ahead: its conjugate ahead gives the prime -/
theorem ahead {p : Int} (hp : p ∈ sixP) {f y : List Int} (hf : isNum f = true) (fn : normL f = p) (hy : isNum y = true) : mulL (conjL f) (mulL f y) = timesL p y := by
  rw [← mul_asc (num_conj hf) hf hy, (mul_conj hf).2, fn, (mul_int p hy).1]
/-! relations -/
def wordD (p : Int) (t : Nat) (fs : List (List Int)) (u : List Int) : D := .tuple [.int (t : Int), ti (idxs p fs), ti u]
/-- a number of the words' laws -/
structure DecB (p : Int) (x : List Int) (t : Nat) (fs : List (List Int)) (u : List Int) : Prop where
  pr : p ∈ sixP
  dec : Dec p x t fs u
  bd : 2 * t + fs.length ≤ 12
def eightX : List Int := [3, 5, 3, 7, 5, 3, 11, 3]
def R_lprm : List D → Out → Prop := fun ds o => ∃ z : Int, ds = [.int z] ∧ o = .v (.int (eightX.getD (z % 8).toNat 0))
theorem eight_six : ∀ p ∈ eightX, p ∈ sixP := by decide
end TB
namespace TB
open PySem L2 PySem.Spec PyProof.Rows
end TB

namespace TB
open PySem L2 PySem.Spec PyProof.Rows
/-! ### x in a tuple of data -/
section
variable {X : Cx} {W : WX} {F0 H0 : Hp} {Γ : List S} {a b : Expr} {x : D} {ds : List D} {pos : Pos}
end
/-! ### reduced words -/
theorem cut_one (ds : List D) : cutD ds (some 1) none = ds.tail := by
  cases ds with
  | nil => rfl
  | cons d ds => exact cut_tail d ds
theorem apart_zip (p : Int) : ∀ zs : List Int, apartB p zs = !((zs.zip zs.tail).map fun q => decide (parF p q.1 = q.2)).any id
  | [] => rfl
  | [_] => rfl
  | a :: b :: t => by
    have ih := apart_zip p (b :: t)
    show (!decide (parF p a = b) && apartB p (b :: t)) = !(decide (parF p a = b) || (((b :: t).zip (b :: t).tail).map fun q => decide (parF p q.1 = q.2)).any id)
    rw [ih, Bool.not_or]
theorem pair_map (zs : List Int) : (((zs.map PyData.int).zip (zs.map PyData.int).tail).map prD) = (zs.zip zs.tail).map fun q => prD (.int q.1, .int q.2) := by
  rw [← List.map_tail, List.zip_map, List.map_map]
  rfl
/-- what a word is made of -/
structure RedB (p : Int) (zs : List Int) (t : Nat) (fs : List (List Int)) (u : List Int) : Prop where
  wz : WZ p zs
  zl : zs.length ≤ 10
  db : DecB p (prodL (lets p zs)) t fs u
  bd : 2 * t + fs.length = zs.length
  ap : apartB p zs = true → t = 0 ∧ fs = lets p zs ∧ u = [2, 0, 0, 0]
theorem red_ex {p : Int} (hp : p ∈ sixP) {zs : List Int} (hz : WZ p zs) (hl : zs.length ≤ 10) : ∃ t fs u, RedB p zs t fs u := by
  have hW := lets_WL hp hz
  have el : (lets p zs).length = zs.length := by unfold lets; rw [List.length_map]
  obtain ⟨n1, n2⟩ := np_nrm (hW.np hp)
  by_cases ha : apartB p zs = true
  · exact ⟨0, lets p zs, [2, 0, 0, 0], hz, hl, ⟨hp, dec_nd hp hW ((apart_chain hp hz).mp ha), by rw [el]; omega⟩, by rw [el]; omega, fun _ => ⟨rfl, rfl, rfl⟩⟩
  · rw [el] at n2
    obtain ⟨t, fs, u, D, h⟩ := dec_ex hp n1 n2
    exact ⟨t, fs, u, hz, hl, ⟨hp, D, by omega⟩, h, fun q => absurd q ha⟩
theorem RedB.out {p : Int} {zs : List Int} {t : Nat} {fs : List (List Int)} {u : List Int} (h : RedB p zs t fs u) : WZ p (idxs p fs) ∧ (idxs p fs).length ≤ 10 ∧ apartB p (idxs p fs) = true := by
  have hp := h.db.pr
  have hb := h.bd
  have hz := h.zl
  have hw := idxs_WZ hp h.db.dec.mem
  refine ⟨hw, by unfold idxs; rw [List.length_map]; omega, ?_⟩
  rw [apart_chain hp hw, lets_idxs h.db.dec.mem]
  exact nd_chain (fun f hf => (let_ok hp (h.db.dec.mem f hf)).1) h.db.dec.nd
/-- a reduced word is itself -/
theorem RedB.self {p : Int} {zs : List Int} {t : Nat} {fs : List (List Int)} {u : List Int} (h : RedB p zs t fs u) (ha : apartB p zs = true) : wordD p t fs u = .tuple [.int 0, ti zs, ti [2, 0, 0, 0]] := by
  obtain ⟨rfl, rfl, rfl⟩ := h.ap ha
  unfold wordD
  rw [idxs_lets h.db.pr h.wz]
  rfl
theorem RedB.again {p : Int} {zs : List Int} {t : Nat} {fs : List (List Int)} {u : List Int} (h : RedB p zs t fs u) : RedB p (idxs p fs) 0 fs [2, 0, 0, 0] := by
  obtain ⟨h1, h2, h3⟩ := h.out
  have hp := h.db.pr
  obtain ⟨t', fs', u', h'⟩ := red_ex hp h1 h2
  obtain ⟨rfl, rfl, rfl⟩ := h'.ap h3
  rw [lets_idxs h.db.dec.mem] at h'
  exact h'
def R_isred : List D → Out → Prop := fun ds o => ∃ (p : Int) (d : D) (zs : List Int), ds = [.int p, d] ∧ Seq d zs ∧ p ∈ sixP ∧ zs.length ≤ 60 ∧ WZ p zs ∧ o = .v (.bool (apartB p zs))
theorem getD_WZ {p : Int} {zs : List Int} (h : WZ p zs) {k : Nat} (hk : k < zs.length) : 1 ≤ zs.getD k 0 ∧ zs.getD k 0 ≤ p + 1 := h _ (getD_memI hk)
end TB
namespace TB
open PySem L2 PySem.Spec PyProof.Rows
end TB
namespace TB
open PySem L2 PySem.Spec PyProof.Rows
end TB

namespace TB
open PySem L2 PySem.Spec PyProof.Rows PySem.Calls
/-! ### max(xs, key=len) of a list of tuples -/
section
variable {X : Cx} {W : WX} {F0 H0 : Hp} {Γ : List S} {e : Expr} {pos np kp kpos : Pos}
end
end TB

namespace TB
open PySem L2 PySem.Spec PyProof.Rows
/-! ### places, ways -/
def RedR (p : Int) (zs : List Int) (r : Nat × List (List Int) × List Int) : Prop := RedB p zs r.1 r.2.1 r.2.2
theorem RedR.len {p : Int} {zs : List Int} {r : Nat × List (List Int) × List Int} (h : RedR p zs r) : (idxs p r.2.1).length ≤ 10 := h.out.2.1
theorem shown_pl {ns : List Int} (h : ∀ z ∈ ns, Bt 10 z) (hl : ns.length ≤ 12) : Shown (ti ns) := by
  obtain ⟨l2, d2⟩ := leaf_ti (b := 10) (ns := ns) (by decide) (by decide) h
  have := Nat.mul_le_mul_right 11 hl
  refine shown_of (m := ns.length * (10 + 1)) l2 (fun _ e => by cases e) (by decide) ?_
  omega
end TB
namespace TB
open PySem L2 PySem.Spec PyProof.Rows
end TB
namespace TB
open PySem L2 PySem.Spec PyProof.Rows
end TB
namespace TB
open PySem L2 PySem.Spec PyProof.Rows
end TB

namespace TB
open PySem L2 PySem.Spec PyProof.Rows
/-! ### the distance of two places -/
theorem Dec.ch {p : Int} {x : List Int} {t : Nat} {fs : List (List Int)} {u : List Int} (h : Dec p x t fs u) (hp : p ∈ sixP) : chainP p fs := nd_chain (fun f hf => (let_ok hp (h.mem f hf)).1) h.nd
/-! #### ways -/
end TB
namespace TB
open PySem L2 PySem.Spec PyProof.Rows
end TB

namespace TB
open PySem L2 PySem.Spec PyProof.Rows
/-! ### k75: what words of one prime raise -/
def pcF (m : Int) (n : Nat) : Int := if n = 0 then 1 else m * (m - 1) ^ (n - 1)
def R_wcount : List D → Out → Prop := fun ds o => ∃ (m : Int) (n : Nat), ds = [.int m, .int (n : Int)] ∧ 1 ≤ m ∧ m ≤ 20 ∧ n ≤ 100 ∧ o = .v (.int (pcF m n))
/-- no power of p -/
def NoPow (p : Int) (x : List Int) : Prop := isNum x = true ∧ ∃ (k : Nat) (r : Int), normL x = p ^ k * r ∧ r % p ≠ 0 ∧ 1 < r ∧ r ≤ 1000 ∧ k ≤ 12
theorem NoPow.nz {p : Int} (hp : p ∈ sixP) {x : List Int} (h : NoPow p x) : zeroB x = false := by
  obtain ⟨hx, k, r, e, _, h1, _⟩ := h
  refine norm_ne_zero hx ?_
  rw [e]
  have := pow_pos (show 0 < p by have := six_pr hp; omega) k
  have := Int.mul_pos this (show 0 < r by omega)
  omega
/-! codes: 0 told, 1 number, 2 question, 3 word -/
end TB
namespace TB
open PySem L2 PySem.Spec PyProof.Rows
section
variable {X : Cx} {W : WX} {F0 H0 : Hp} {Γ : List S} {a b c : Expr} {pos : Pos} {i j k : Int}
end
end TB
namespace TB
open PySem L2 PySem.Spec PyProof.Rows
end TB
namespace TB
open PySem L2 PySem.Spec PyProof.Rows
end TB

namespace TB
open PySem L2 PySem.Spec PyProof.Rows PySem.Calls
/-! ### enumerate(xs), xs a tuple or a list -/
theorem meets_enum_one {v : Value} {o : Obj} {H : Heap → Prop} (B : Begins v o H) : Meets (Builtin.«enumerate.__new__» ⟨[.type "enumerate", v], []⟩) (fun _ R s => H s.heap ∧ R (.ok (.ret (.ref (s.heap.push o).objs.size)))
    { heap := (s.heap.push o).push { cls := .type "enumerate", data := .fields #[.none, .bool false, .ref s.heap.objs.size, rawInt 0, .none, .none] }, gens := s.gens, drawn := s.drawn, toks := s.toks, os := s.os }) :=
  .of_wp fun prog w A R s h => by
    obtain ⟨hp, g, d, tk, os⟩ := s
    obtain ⟨h1, h⟩ := h
    have hsub := @sub_enumerate
    have q1 : ∀ {A' : Around} {E : Value → Shared → Prop} {Q : Value → Shared → Prop}, Q (.ref hp.objs.size) { heap := hp.push o, gens := g, drawn := d, toks := tk, os := os } → wpAny (model prog w) A' (pyIter v) Q E { heap := hp, gens := g, drawn := d, toks := tk, os := os } := fun {A'} {E Q} q => B.iter prog w A' E { heap := hp, gens := g, drawn := d, toks := tk, os := os } Q h1 q
    wp_walk
    refine wpAny_stack_any fun st => ?_
    refine wpAny_pure ?_
    generalize pyIter = f at q1 ⊢
    split
    · rename_i c tail kw snd t1 hh
      cases (c == Value.type "enumerate") with
      | true =>
        wp_walk
        refine q1 ?_
        wp_walk
        exact ⟨_, rfl, h⟩
      | false =>
        wp_walk
        refine q1 ?_
        wp_walk
        exact ⟨_, rfl, h⟩
    · wp_walk
      refine q1 ?_
      wp_walk
      exact ⟨_, rfl, h⟩
theorem call_enum_one {prog : Program} {w : World} {A : Around} {E : Value → Shared → Prop} {s : Shared} {v : Value} {o : Obj} {H : Heap → Prop} {Q : Value → Shared → Prop} (B : Begins v o H) (h1 : H s.heap)
    (h : ∀ h' : Heap, IsEnum h' (s.heap.objs.size + 1) s.heap.objs.size 0 .none → h'.get? s.heap.objs.size = some o → h'.objs.size = s.heap.objs.size + 2 → (∀ b u, s.heap.get? b = some u → h'.get? b = some u) → Q (.ref (s.heap.objs.size + 1)) { heap := h', gens := s.gens, drawn := s.drawn, toks := s.toks, os := s.os }) :
    wpAny (model prog w) A (call (.type "enumerate") [v]) Q E s := by
  refine callType_new PySem.F.called_enumerate (by decide) (PySem.F.typeCall_enumerate_1 v) (PySem.F.newCall_enumerate_1 v) (fun obj => PySem.F.args_object_init_2 obj v) PySem.F.entry_enumerate_new (meets_enum_one B) ⟨h1, ?_⟩
  have hz := Heap.size_push s.heap o
  have he := Heap.get?_push_size (s.heap.push o) (o := { cls := .type "enumerate", data := .fields #[.none, .bool false, .ref s.heap.objs.size, rawInt 0, .none, .none] }) rfl
  have hi := Heap.get?_push_size s.heap (o := o) B.free
  rw [hz] at he ⊢
  refine ⟨⟨_, he, rfl⟩, h _ he (Heap.get?_push_of_some _ hi) (by rw [Heap.size_push, hz]) fun b u e => Heap.get?_push_of_some _ (Heap.get?_push_of_some _ e)⟩
def IteT (K : PySem.W.Frag) (a : Addr) : It where
  go := fun i H => ∃ (xs : List V) (x : V), SqT K H a xs ∧ xs[i]? = some x
  yld := fun i H v H' => ∃ T x, v = .ref T ∧ H T = none ∧ H' = upd H T (.tup [.int ((i : Nat) : Int), x]) ∧ ∀ xs, SqT K H a xs → xs[i]? = some x
  stop := fun i H => ∃ xs : List V, SqT K H a xs ∧ i = xs.length
theorem turn_enumT {P : Program} {w : World} {K : PySem.W.Frag} {es : List Expr} {kq : Nat} {tq : Pos} {a e it : Addr} (h1 : e ≠ it) (h2 : a ≠ it) (h3 : e ≠ a) :
    Turn P w K (.Tuple es kq tq) (IteT K a) [e, it] e (fun i h => (∃ old, IsEnum h e it (i : Int) old) ∧ h.IsTupleIter it a i) where
  mem := List.mem_cons_self
  obj := fun i h st c hc => by
    obtain ⟨⟨old, g1⟩, ⟨o1, k1, _, l1⟩⟩ := st
    have cs : c = e ∨ c = it := by simpa using hc
    rcases cs with q | q
    · subst q; exact ⟨_, g1, fun v r => nomatch r⟩
    · subst q; exact ⟨o1, k1, fun v r => by rw [l1] at r; cases r⟩
  keep := fun i h h' st k => by
    obtain ⟨⟨old, g1⟩, g4⟩ := st
    exact ⟨⟨old, k e (by simp) _ g1⟩, g4.at fun o r => k it (by simp) o r⟩
  item := by
    intro X hP hw hK hc i pins s σ H E I fr st go
    subst hP hw hK
    obtain ⟨⟨old, g1⟩, g4⟩ := st
    obtain ⟨xs, x, qx, hx⟩ := go
    obtain ⟨us, rx, px, _⟩ := I.tuple qx
    obtain ⟨u, hu, ru⟩ := rx.get hx
    have zl : e < s.heap.objs.size := Heap.lt_size g1
    have il : it < s.heap.objs.size := by obtain ⟨_, r, _⟩ := g4; exact Heap.lt_size r
    have D1 := Draws.tuple (prog := X.prog) (w := X.w) (A := X.A.in1) (I.ok.hd hc) it a h2 us.toArray
    have li : i < us.toArray.size := by simpa using (List.getElem?_eq_some_iff.mp hu).1
    refine wpAny_pyNext_enum_itemD D1 g1 ⟨g4, px⟩ li h1 (nin2 h1 h3) fun x1 h' tk w1 z' s1 hT hsz hk => ?_
    have e1 : u = x1 := by simpa [hu] using w1
    subst e1
    refine ⟨_, rfl, wpAny_letOwnedTupleGo_enum (s := { s with heap := h', toks := tk + 1 }) z' fun h2' z2 sb => ?_⟩
    have hN : h2'.get? s.heap.objs.size = some { cls := .type "tuple", data := .seq #[.int (i : Int) tk, u] } := (sb.2 _ (Nat.ne_of_gt zl)).trans hT
    have made : ObjOk X.prog X.w (upd H s.heap.objs.size (.tup [.int (i : Int), x])) h2' s.heap.objs.size (.tup [.int (i : Int), x]) :=
      ⟨(by show 2 ≤ sizeLine; decide), [.int (i : Int) tk, u], .cons ⟨tk, rfl⟩ (.cons ru .nil), ⟨_, hN, rfl, _, rfl⟩⟩
    have kept : ∀ c o, c ∉ [e, it] → s.heap.get? c = some o → h2'.get? c = some o := fun c o hb r => by
      have n : c ≠ e ∧ c ≠ it := by simpa using hb
      exact (sb.2 c n.1).trans (hk c o n.1 n.2 r)
    have J : Inv X pins σ (upd H s.heap.objs.size (.tup [.int (i : Int), x])) { s with heap := h2', toks := tk + 1 } := I.turnedNew (t' := tk + 1) (ch := [e, it]) kept fr (Nat.le_refl _) made
    refine ⟨.ref s.heap.objs.size, _, J, rfl, ⟨_, x, rfl, I.hok.fresh (Nat.le_refl _), rfl, fun l hl => ?_⟩, ⟨⟨_, z2⟩, ?_⟩, fun c hcm => ?_⟩
    · rw [I.tuple_inj hl qx]; exact hx
    · exact s1.1.at fun o r => (sb.2 _ (Ne.symm h1)).trans r
    · have cs : c = e ∨ c = it := by simpa using hcm
      have hlt : c < s.heap.objs.size := by rcases cs with q | q <;> rw [q] <;> assumption
      rw [upd_ne (Nat.ne_of_lt hlt)]
      exact (fr c hcm).1
  done := by
    intro X hP hw hK hc i pins s σ H E I fr st go
    subst hP hw hK
    obtain ⟨⟨old, g1⟩, g4⟩ := st
    obtain ⟨xs, qx, fin⟩ := go
    obtain ⟨us, rx, px, _⟩ := I.tuple qx
    have n1 := rx.length
    have D1 := Draws.tuple (prog := X.prog) (w := X.w) (A := X.A.in1) (I.ok.hd hc) it a h2 us.toArray
    have m1 : us.toArray.size = i := by rw [List.size_toArray]; omega
    refine wpAny_pyNext_enum_endD D1 g1 (by rw [m1]; exact ⟨g4, px⟩) fun h' hk => ⟨rfl, ?_⟩
    refine I.turnedL (t' := s.toks) (ch := [e, it]) (fun c o hb r => ?_) fr
    have n : c ≠ e ∧ c ≠ it := by simpa using hb
    exact hk c o n.2 r
  self := fun A i s Q E st h => by
    obtain ⟨⟨old, g1⟩, _⟩ := st
    exact wpAny_pyIter_enum g1 h
theorem pi_enumT {X : Cx} {e : Expr} {ta : TA} {p pos tpos : Pos} {es : List Expr} {kk : Nat} (hg : Gl X "enumerate") (hm : X.mg "enumerate" = none) (ha : PA X [e] ta)
    (hs : starEach [e] X.env = (false, eval e X.env) :: starEach [] X.env) (hpl : (backTo pos (starEach [] X.env)).any (·.1) = false) :
    PI X (.Tuple es kk tpos) (.Call (.Name "enumerate" p) [e] [] pos) (fun σ H R => ta σ H fun vs H1 => ∃ a xs, vs = [.ref a] ∧ SqT X.K H1 a xs ∧ R (IteT X.K a) H1) := by
  refine ⟨fun pins s σ H R I h => ?_⟩
  refine Call_ (ld_blt I hg hm PyProof.Rows.boot_enumerate (PyProof.Rows.callWith_type1 (thn (ha.run pos pins s σ H _ I h) fun us s1 ⟨vs, H1, I1, r1, q1⟩ => ?_) hs hpl))
  obtain ⟨a, xs, ex, qx, q⟩ := q1
  subst ex
  rw [Vals.ref1 r1]
  obtain ⟨us', rx, px, _⟩ := I1.tuple qx
  have la : a < s1.heap.objs.size := (by obtain ⟨_, r, _⟩ := px; exact Heap.lt_size r)
  refine call_enum_one (begins_tuple a us'.toArray) px fun h' hz hi hsz hk => wpAny_pyIter_enum hz ?_
  have J : Inv X pins σ H1 { s1 with heap := h' } := I1.kept (t' := s1.toks) hk
  refine ⟨s1.heap.objs.size + 1, [s1.heap.objs.size + 1, s1.heap.objs.size], _, _, H1, rfl, J,
    turn_enumT (K := X.K) (a := a) (e := s1.heap.objs.size + 1) (it := s1.heap.objs.size) (Nat.succ_ne_self _) (Nat.ne_of_lt la) (Nat.ne_of_gt (Nat.lt_succ_of_lt la)), ⟨⟨_, hz⟩, ⟨_, hi, rfl, rfl⟩⟩, fun c hcm => ?_, q⟩
  have hle : s1.heap.objs.size ≤ c := by
    have cs : c = s1.heap.objs.size + 1 ∨ c = s1.heap.objs.size := by simpa using hcm
    rcases cs with q | q <;> rw [q]
    · exact Nat.le_succ _
    · exact Nat.le_refl _
  exact I1.fpOk hle (I1.hok.fresh hle)
def enD (ds : List D) : List D := ((List.range ds.length).zip ds).map fun q => prD (.int (q.1 : Int), q.2)
theorem enD_len (ds : List D) : (enD ds).length = ds.length := by unfold enD; rw [List.length_map, List.length_zip, List.length_range, Nat.min_self]
theorem enD_get {ds : List D} {i : Nat} {d : D} (h : (enD ds)[i]? = some d) : ∃ x, ds[i]? = some x ∧ d = .tuple [.int (i : Int), x] := by
  unfold enD at h
  have hi : i < ds.length := by
    have := (List.getElem?_eq_some_iff.mp h).1
    rwa [List.length_map, List.length_zip, List.length_range, Nat.min_self] at this
  rw [List.getElem?_map, List.getElem?_eq_getElem (by rw [List.length_zip, List.length_range, Nat.min_self]; exact hi)] at h
  simp at h
  exact ⟨_, List.getElem?_eq_getElem hi, h.symm⟩
section
variable {X : Cx} {F0 H0 : Hp} {Γ : List S} {a : Expr} {es : List Expr} {np pos tp : Pos} {kk : Nat} {xs : List D}
theorem ji_enumT (hm : X.mg "enumerate" = none) (ha : JE X WF F0 H0 Γ a (.v (.tuple xs))) (hg : Gl X "enumerate" := by rfl) (hs : starEach [a] X.env = (false, eval a X.env) :: starEach [] X.env := by rfl) (hpl : (backTo pos (starEach [] X.env)).any (·.1) = false := by rfl) :
    JI X F0 H0 Γ (.Tuple es kk tp) (.Call (.Name "enumerate" np) [a] [] pos) (enD xs) :=
  pi_imp (pi_enumT hg hm (ja_cons ha ja_nil hs) hs hpl) fun σ H R ⟨F, ok, q⟩ => ⟨F, ok, fun vs F1 H1 z1 d1 => by
    cases d1 with
    | cons k1 k3 =>
      cases k3
      cases k1 with
      | tup a1 a2 =>
        refine ⟨_, _, rfl, st_ex z1.s a1, q _ F1 H1 z1 fun F2 H2 i e1 e2 => ?_⟩
        have g1 := st_ex (e1.trans e2) a1
        refine ⟨fun d e => ?_, fun e => ⟨_, g1, ?_⟩⟩
        · obtain ⟨x, m1, rfl⟩ := enD_get e
          obtain ⟨v, v1, v2⟩ := da_get a2 m1
          refine ⟨⟨_, v, g1, v1⟩, fun x' H' y' => ?_⟩
          obtain ⟨T, x2, w1, w2, w3, w4⟩ := y'
          subst w1 w3
          have q1 := w4 _ g1
          rw [v1] at q1
          cases q1
          exact ⟨_, Fz.new e2 w2, .tup (SqT.of upd_same) (.cons (.int _) (.cons (dp_ex (e1.trans (Fz.new e2 w2).f) _ _ v2) .nil))⟩
        · rw [enD_len] at e
          rw [da_len a2]
          exact e⟩
theorem ji_enumL (hm : X.mg "enumerate" = none) (ha : JE X WF F0 H0 Γ a (.v (.list xs))) (hg : Gl X "enumerate" := by rfl) (hs : starEach [a] X.env = [(false, eval a X.env)] := by rfl) :
    JI X F0 H0 Γ (.Tuple es kk tp) (.Call (.Name "enumerate" np) [a] [] pos) (enD xs) :=
  pi_imp (pi_enum hg hm (ja_cons ha ja_nil (by rw [hs]; rfl)) hs) fun σ H R ⟨F, ok, q⟩ => ⟨F, ok, fun vs F1 H1 z1 d1 => by
    cases d1 with
    | cons k1 k3 =>
      cases k3
      cases k1 with
      | lst a1 a2 =>
        refine ⟨_, _, rfl, sl_ex z1.s a1, q _ F1 H1 z1 fun F2 H2 i e1 e2 => ?_⟩
        have g1 := sl_ex (e1.trans e2) a1
        refine ⟨fun d e => ?_, fun e => ⟨_, g1, ?_⟩⟩
        · obtain ⟨x, m1, rfl⟩ := enD_get e
          obtain ⟨v, v1, v2⟩ := da_get a2 m1
          refine ⟨⟨_, v, g1, v1⟩, fun x' H' y' => ?_⟩
          obtain ⟨T, x2, w1, w2, w3, w4⟩ := y'
          subst w1 w3
          have q1 := w4 _ g1
          rw [v1] at q1
          cases q1
          exact ⟨_, Fz.new e2 w2, .tup (SqT.of upd_same) (.cons (.int _) (.cons (dp_ex (e1.trans (Fz.new e2 w2).f) _ _ v2) .nil))⟩
        · rw [enD_len] at e
          rw [da_len a2]
          exact Nat.le_of_eq e.symm⟩
theorem ji_enumS {d : D} (hq : SqD d xs) (hm : X.mg "enumerate" = none) (ha : JE X WF F0 H0 Γ a (.v d)) (hg : Gl X "enumerate" := by rfl) (hs : starEach [a] X.env = [(false, eval a X.env)] := by rfl) (hs2 : starEach [a] X.env = (false, eval a X.env) :: starEach [] X.env := by rfl) (hpl : (backTo pos (starEach [] X.env)).any (·.1) = false := by rfl) :
    JI X F0 H0 Γ (.Tuple es kk tp) (.Call (.Name "enumerate" np) [a] [] pos) (enD xs) := by
  rcases hq with rfl | rfl
  · exact ji_enumT hm ha hg hs2 hpl
  · exact ji_enumL hm ha hg hs
end
end TB
namespace TB
open PySem L2 PySem.Spec PyProof.Rows
section
variable {X : Cx} {W : WX} {F0 H0 : Hp} {Γ : List S} {a b e tg : Expr} {np pos : Pos} {i j : Int} {ds : List D}
theorem jt_truL (h : JE X WF F0 H0 Γ e (.v (.list ds))) (he : ∀ whole, isTrue e X.env whole = (do let v ← whole; standAt e.pos; holding [v] (truthy v)) := by intro _; rfl) : JT X F0 H0 Γ e (!ds.isEmpty) :=
  pt_imp (pt_truth h he) fun σ H Q ⟨F, ok, q⟩ => ⟨F, ok, fun v F1 H1 z1 d1 => by
    cases d1 with
    | lst h1 h2 =>
      refine ⟨!ds.isEmpty, .inl ⟨_, sl_ex z1.s h1, ?_⟩, q F1 H1 z1⟩
      have := da_len h2
      have emp : ∀ {α β : Type} {xs : List α} {ys : List β}, xs.length = ys.length → ys.isEmpty = xs.isEmpty := fun {_ _ xs ys} h => by
        cases xs <;> cases ys <;> simp at h ⊢
      rw [emp this]⟩
theorem je_divmod (hc : CDiv i j) (hm : X.mg "divmod" = none) (ha : JE X WF F0 H0 Γ a (.v (.int i))) (hb : JE X WF F0 H0 Γ b (.v (.int j))) (hg : Gl X "divmod" := by rfl) (s2 : starEach [a, b] X.env = (false, eval a X.env) :: starEach [b] X.env := by rfl) (s1 : starEach [b] X.env = (false, eval b X.env) :: starEach [] X.env := by rfl) (hpl : (backTo pos (starEach [b] X.env)).any (·.1) = false := by rfl) :
    JE X W F0 H0 Γ (.Call (.Name "divmod" np) [a, b] [] pos) (.v (ti [i / j, i % j])) :=
  pe_imp (pe_callB call_divmod hg hm (by decide +kernel) (ja_cons ha (ja_cons hb ja_nil s1) s2) (by decide) (by decide) s2 hpl) fun σ H Q ⟨F, ok, q⟩ => ⟨F, ok, fun vs F1 H1 z1 d1 => by
    cases d1 with
    | cons k1 k2 =>
      cases k2 with
      | cons k2 k3 =>
        cases k3
        cases k1
        cases k2
        exact ⟨i, j, rfl, hc, po_tup z1.s (.cons (.int _) (.cons (.int _) .nil)) fun v F' H' z d => q v F' H' (z1.trans z) d⟩⟩
theorem ji_revL (hm : X.mg "reversed" = none) (ha : JE X WF F0 H0 Γ a (.v (.list ds))) (hg : Gl X "reversed" := by rfl) (hs : starEach [a] X.env = [(false, eval a X.env)] := by rfl) :
    JI X F0 H0 Γ tg (.Call (.Name "reversed" np) [a] [] pos) ds.reverse :=
  pi_imp (pi_reversed hg hm (ja_cons ha ja_nil (by rw [hs]; rfl)) hs) fun σ H R ⟨F, ok, q⟩ => ⟨F, ok, fun vs F1 H1 z1 d1 => by
    cases d1 with
    | cons k1 k3 =>
      cases k3
      cases k1 with
      | lst a1 a2 =>
        have el := da_len a2
        refine ⟨_, _, rfl, sl_ex z1.s a1, q _ F1 H1 z1 fun F2 H2 i e1 e2 => ?_⟩
        have g1 := sl_ex (e1.trans e2) a1
        refine ⟨fun d e => ?_, fun e => ?_⟩
        · have hi : i < ds.length := by
            have := (List.getElem?_eq_some_iff.mp e).1
            rwa [List.length_reverse] at this
          rw [List.getElem?_reverse hi] at e
          obtain ⟨v, v1, v2⟩ := da_get a2 e
          rw [← el] at v1
          refine ⟨⟨by omega, _, v, g1, v1⟩, fun x' H' y' => ?_⟩
          obtain ⟨rfl, y2⟩ := y'
          have q1 := y2 _ g1
          rw [v1] at q1
          cases q1
          exact ⟨_, Fz.refl e2, dp_ex e1 _ _ v2⟩
        · rw [List.length_reverse] at e
          show _ ≤ i
          omega⟩
end
end TB

namespace TB
open PySem L2 PySem.Spec PyProof.Rows
/-! ### k73: the numbers of words -/
/-- the steps of a number, the last letter's first -/
def stF (p : Int) : Nat → Int → List Int
  | 0, n => [n]
  | k + 1, n => (n % p) :: stF p k (n / p)
theorem st_fold (p : Int) {α : Type} : ∀ (xs : List α) (n : Int) (acc : List Int), (xs.foldl (fun (s : Int × List Int) _ => (s.1 / p, s.2 ++ [s.1 % p])) (n, acc)).2 ++ [(xs.foldl (fun (s : Int × List Int) _ => (s.1 / p, s.2 ++ [s.1 % p])) (n, acc)).1] = acc ++ stF p xs.length n
  | [], n, acc => rfl
  | x :: xs, n, acc => by
    rw [List.foldl_cons, st_fold p xs]
    show acc ++ [n % p] ++ stF p xs.length (n / p) = acc ++ (n % p) :: stF p xs.length (n / p)
    rw [List.append_assoc, List.singleton_append]
def letP (p : Int) (w : List Int) (s : Int) : Int := if w ≠ [] ∧ parF p (w.getD (w.length - 1) 0) ≤ s + 1 then s + 2 else s + 1
def wStep (p : Int) (w : List Int) (s : Int) : List Int := w ++ [letP p w s]
/-- the word with a number -/
def wordF (p : Int) : Nat → Int → List Int
  | 0, _ => []
  | 1, n => [n + 1]
  | L + 2, n => wStep p (wordF p (L + 1) (n / p)) (n % p)
theorem word_fold (p : Int) : ∀ (L : Nat) (n : Int), (stF p L n).reverse.foldl (wStep p) [] = wordF p (L + 1) n
  | 0, n => by
    show wStep p [] n = [n + 1]
    unfold wStep letP
    rw [if_neg (by simp)]
    rfl
  | L + 1, n => by
    show ((n % p) :: stF p L (n / p)).reverse.foldl (wStep p) [] = _
    rw [List.reverse_cons, List.foldl_append, word_fold p L (n / p)]
    rfl
theorem word_len (p : Int) : ∀ (L : Nat) (n : Int), (wordF p L n).length = L
  | 0, _ => rfl
  | 1, _ => rfl
  | L + 2, n => by
    show (wordF p (L + 1) (n / p) ++ [_]).length = _
    rw [List.length_append, word_len p (L + 1)]
    rfl
theorem pc_pos {p : Int} (hp : 1 ≤ p) : ∀ L : Nat, 0 < pcF (p + 1) L := fun L => by
  unfold pcF
  split
  · decide
  · exact Int.mul_pos (by omega) (pow_pos (by omega) _)
theorem pc_step {p : Int} (L : Nat) : pcF (p + 1) (L + 2) = pcF (p + 1) (L + 1) * p := by
  unfold pcF
  rw [if_neg (by omega), if_neg (by omega), show L + 2 - 1 = (L + 1 - 1) + 1 by omega, Int.pow_succ, Int.add_sub_cancel, Int.mul_assoc]
/-- the letters of such a word -/
theorem word_ok {p : Int} (hp : p ∈ sixP) : ∀ (L : Nat) (n : Int), 0 ≤ n → n < pcF (p + 1) L → WZ p (wordF p L n)
  | 0, _, _, _ => fun z hz => absurd hz List.not_mem_nil
  | 1, n, h0, h1 => fun z hz => by
    have e1 : pcF (p + 1) 1 = p + 1 := by unfold pcF; rw [if_neg (by decide), Int.pow_zero, Int.mul_one]
    rw [e1] at h1
    rw [show wordF p 1 n = [n + 1] from rfl] at hz
    rw [List.mem_singleton.mp hz]
    omega
  | L + 2, n, h0, h1 => fun z hz => by
    have p3 := six_pr hp
    rw [pc_step] at h1
    have d0 : 0 ≤ n / p := Int.ediv_nonneg h0 (by omega)
    have d1 : n / p < pcF (p + 1) (L + 1) := Int.ediv_lt_of_lt_mul (by omega) h1
    have ih := word_ok hp (L + 1) (n / p) d0 d1
    rcases List.mem_append.mp hz with hz | hz
    · exact ih z hz
    · rw [List.mem_singleton.mp hz]
      have m0 := Int.emod_nonneg n (show p ≠ 0 by omega)
      have m1 := Int.emod_lt_of_pos n (show 0 < p by omega)
      unfold letP
      split <;> omega
theorem apart_snoc {p : Int} : ∀ {w : List Int} {z : Int}, w ≠ [] → apartB p (w ++ [z]) = (apartB p w && !decide (parF p (w.getD (w.length - 1) 0) = z))
  | [], _, h => absurd rfl h
  | [a], z, _ => by
    show (!decide (parF p a = z) && true) = (true && !decide (parF p a = z))
    rw [Bool.and_true, Bool.true_and]
  | a :: b :: t, z, _ => by
    have ih := apart_snoc (p := p) (w := b :: t) (z := z) (List.cons_ne_nil _ _)
    show (!decide (parF p a = b) && apartB p ((b :: t) ++ [z])) = ((!decide (parF p a = b) && apartB p (b :: t)) && _)
    rw [ih, Bool.and_assoc]
    rfl
/-- the number of a word: letter by letter -/
def nK (p : Int) (zs : List Int) : Nat → Int
  | 0 => 0
  | k + 1 => nK p zs k * p + (zs.getD k 0 - 1 - (if 0 < k ∧ parF p (zs.getD (k - 1) 0) < zs.getD k 0 then 1 else 0))
theorem nK_app (p : Int) (zs ws : List Int) : ∀ k, k ≤ zs.length → nK p (zs ++ ws) k = nK p zs k
  | 0, _ => rfl
  | k + 1, h => by
    have g : ∀ j, j < zs.length → (zs ++ ws).getD j 0 = zs.getD j 0 := fun j hj => by rw [List.getD_eq_getElem?_getD, List.getD_eq_getElem?_getD, List.getElem?_append_left hj]
    unfold nK
    rw [nK_app p zs ws k (by omega), g k (by omega), g (k - 1) (by omega)]
theorem word_back {p : Int} (hp : p ∈ sixP) : ∀ (L : Nat) (n : Int), 0 ≤ n → n < pcF (p + 1) L → nK p (wordF p L n) L = n ∧ apartB p (wordF p L n) = true
  | 0, n, h0, h1 => by
    have : pcF (p + 1) 0 = 1 := rfl
    exact ⟨by show 0 = n; omega, rfl⟩
  | 1, n, h0, h1 => by
    refine ⟨?_, rfl⟩
    show 0 * p + (([n + 1] : List Int).getD 0 0 - 1 - (if 0 < 0 ∧ _ then 1 else 0)) = n
    rw [if_neg (by omega)]
    show 0 * p + (n + 1 - 1 - 0) = n
    omega
  | L + 2, n, h0, h1 => by
    have p3 := six_pr hp
    have h1' := h1
    rw [pc_step] at h1'
    have d0 : 0 ≤ n / p := Int.ediv_nonneg h0 (by omega)
    have d1 : n / p < pcF (p + 1) (L + 1) := Int.ediv_lt_of_lt_mul (by omega) h1'
    obtain ⟨ih1, ih2⟩ := word_back hp (L + 1) (n / p) d0 d1
    have ihw := word_ok hp (L + 1) (n / p) d0 d1
    have hl := word_len p (L + 1) (n / p)
    show nK p (wordF p (L + 1) (n / p) ++ [letP p (wordF p (L + 1) (n / p)) (n % p)]) (L + 2) = n ∧ apartB p (wordF p (L + 1) (n / p) ++ [letP p (wordF p (L + 1) (n / p)) (n % p)]) = true
    generalize hw : wordF p (L + 1) (n / p) = w at ih1 ih2 ihw hl ⊢
    have hne : w ≠ [] := fun q => by rw [q] at hl; cases hl
    have m0 := Int.emod_nonneg n (show p ≠ 0 by omega)
    have m1 := Int.emod_lt_of_pos n (show 0 < p by omega)
    have hdm := Int.emod_def n p
    have gl : (w ++ [letP p w (n % p)]).getD (L + 1) 0 = letP p w (n % p) := by
      rw [List.getD_eq_getElem?_getD, List.getElem?_append_right (by omega), hl, Nat.sub_self]
      rfl
    have gp : (w ++ [letP p w (n % p)]).getD (L + 1 - 1) 0 = w.getD (w.length - 1) 0 := by
      rw [List.getD_eq_getElem?_getD, List.getD_eq_getElem?_getD, List.getElem?_append_left (by omega), hl]
    have lp : (w ≠ [] ∧ parF p (w.getD (w.length - 1) 0) ≤ n % p + 1 ∧ letP p w (n % p) = n % p + 2) ∨ (n % p + 1 < parF p (w.getD (w.length - 1) 0) ∧ letP p w (n % p) = n % p + 1) := by
      unfold letP
      by_cases h : parF p (w.getD (w.length - 1) 0) ≤ n % p + 1
      · exact .inl ⟨hne, h, if_pos ⟨hne, h⟩⟩
      · exact .inr ⟨by omega, if_neg fun q => h q.2⟩
    constructor
    · rw [nK, nK_app p w _ (L + 1) (by omega), ih1, gl, gp]
      have e : p * (n / p) = n / p * p := Int.mul_comm _ _
      rcases lp with ⟨_, l1, l2⟩ | ⟨l1, l2⟩
      · rw [l2, if_pos ⟨by omega, by omega⟩]
        omega
      · rw [l2, if_neg fun q => by have := q.2; omega]
        omega
    · rw [apart_snoc hne, ih2, Bool.true_and]
      refine (Bool.not_eq_true' _).mpr (decide_eq_false fun q => ?_)
      rcases lp with ⟨_, l1, l2⟩ | ⟨l1, l2⟩ <;> omega
end TB
namespace TB
open PySem L2 PySem.Spec PyProof.Rows
/-- the letters behind a row -/
def nextB (p : Int) (row : List Int) (k : Nat) : Bool := decide ((row.length : Int) = 0) || decide (parF p (row.getD (row.length - 1) 0) ≠ 1 + (k : Int))
def nextF (p : Int) (row : List Int) : List (List Int) := (List.range (p + 1).toNat).flatMap fun k => if nextB p row k = true then [row ++ [1 + (k : Int)]] else []
def rowsAll (p : Int) : Nat → List (List Int)
  | 0 => [[]]
  | L + 1 => (rowsAll p L).flatMap (nextF p)
theorem fm_filter {α β : Type} (q : α → Bool) (f : α → β) : ∀ xs : List α, (xs.flatMap fun k => if q k = true then [f k] else []) = (xs.filter q).map f
  | [] => rfl
  | x :: xs => by
    rw [List.flatMap_cons, List.filter_cons, fm_filter q f xs]
    split <;> rfl
theorem skip_range (N q : Nat) (h1 : 1 ≤ q) (h2 : q ≤ N + 1) : (List.range (N + 1)).filter (fun k : Nat => decide ((q : Int) ≠ 1 + (k : Int))) = List.range (q - 1) ++ (List.range (N + 1 - q)).map (fun k => k + q) := by
  have e : N + 1 = (q - 1) + (1 + (N + 1 - q)) := by omega
  rw [e, List.range_add, List.filter_append, List.range_add, List.map_append, List.filter_append]
  have a : (List.range (q - 1)).filter (fun k : Nat => decide ((q : Int) ≠ 1 + (k : Int))) = List.range (q - 1) := List.filter_eq_self.mpr fun k hk => decide_eq_true (by have := List.mem_range.mp hk; omega)
  have b : ((List.range 1).map fun x => q - 1 + x).filter (fun k : Nat => decide ((q : Int) ≠ 1 + (k : Int))) = [] := by
    show List.filter _ [q - 1 + 0] = []
    rw [List.filter_cons, if_neg (by rw [decide_eq_false (by omega)]; exact Bool.false_ne_true)]
    rfl
  have c : (((List.range (N + 1 - q)).map fun x => 1 + x).map fun x => q - 1 + x).filter (fun k : Nat => decide ((q : Int) ≠ 1 + (k : Int))) = (List.range (N + 1 - q)).map fun k => k + q := by
    rw [List.map_map, List.filter_eq_self.mpr fun k hk => decide_eq_true (by obtain ⟨j, _, rfl⟩ := List.mem_map.mp hk; show (q : Int) ≠ 1 + ((q - 1 + (1 + j) : Nat) : Int); omega)]
    refine List.map_congr_left fun k _ => ?_
    show q - 1 + (1 + k) = k + q
    omega
  rw [a, b, List.nil_append, c, show q - 1 + (1 + (N + 1 - q)) - q = N + 1 - q by omega]
theorem next_get {p : Int} (hp : p ∈ sixP) {row : List Int} (hr : WZ p row) (hne : row ≠ []) : (nextF p row).length = p.toNat ∧ ∀ s : Nat, s < p.toNat → (nextF p row)[s]? = some (wStep p row (s : Int)) := by
  have p3 := six_pr hp
  have hl : 0 < row.length := List.length_pos_iff.mpr hne
  have hlast := getD_WZ hr (show row.length - 1 < row.length by omega)
  have pb := par_bt hp hlast.1 hlast.2
  have e0 : nextF p row = (List.range (p.toNat - ((p.toNat + 1 - (parF p (row.getD (row.length - 1) 0)).toNat))) ++ (List.range (p.toNat + 1 - (parF p (row.getD (row.length - 1) 0)).toNat)).map fun k => k + (parF p (row.getD (row.length - 1) 0)).toNat).map fun k : Nat => row ++ [1 + (k : Int)] := by
    unfold nextF
    rw [fm_filter]
    have ef : nextB p row = fun k : Nat => decide (((parF p (row.getD (row.length - 1) 0)).toNat : Int) ≠ 1 + (k : Int)) := by
      funext k
      unfold nextB
      rw [decide_eq_false (show ¬ (row.length : Int) = 0 by omega), Bool.false_or, Int.toNat_of_nonneg (by omega)]
    rw [ef, show (p + 1).toNat = p.toNat + 1 by omega, skip_range p.toNat _ (by omega) (by omega)]
    congr 2
    congr 1
    omega
  generalize hq : parF p (row.getD (row.length - 1) 0) = q at pb e0
  have el : (nextF p row).length = p.toNat := by
    rw [e0, List.length_map, List.length_append, List.length_map, List.length_range, List.length_range]
    omega
  refine ⟨el, fun s hs => ?_⟩
  rw [e0, List.getElem?_map]
  unfold wStep letP
  rw [hq]
  by_cases h : s < q.toNat - 1
  · rw [List.getElem?_append_left (by rw [List.length_range]; omega), List.getElem?_range (by omega), if_neg (fun z => by have := z.2; omega)]
    show some (row ++ [1 + (s : Int)]) = some (row ++ [(s : Int) + 1])
    rw [Int.add_comm]
  · rw [List.getElem?_append_right (by rw [List.length_range]; omega), List.length_range, List.getElem?_map, List.getElem?_range (by omega), if_pos ⟨hne, by omega⟩]
    show some (row ++ [1 + (((s - (p.toNat - (p.toNat + 1 - q.toNat)) + q.toNat : Nat)) : Int)]) = some (row ++ [(s : Int) + 2])
    congr 3
    omega
theorem flat_get {α β : Type} {m : Nat} (hm : 0 < m) {f : α → List β} : ∀ {xs : List α}, (∀ x ∈ xs, (f x).length = m) → (xs.flatMap f).length = xs.length * m ∧ ∀ i x, xs[i / m]? = some x → (xs.flatMap f)[i]? = (f x)[i % m]?
  | [], _ => ⟨by simp, fun i x h => by simp at h⟩
  | a :: xs, h => by
    obtain ⟨ih1, ih2⟩ := flat_get hm fun x hx => h x (List.mem_cons_of_mem _ hx)
    have ha := h a List.mem_cons_self
    refine ⟨by rw [List.flatMap_cons, List.length_append, ih1, ha, List.length_cons, Nat.succ_mul, Nat.add_comm], fun i x hx => ?_⟩
    rw [List.flatMap_cons]
    by_cases hi : i < m
    · rw [Nat.div_eq_of_lt hi] at hx
      cases hx
      rw [List.getElem?_append_left (by omega), Nat.mod_eq_of_lt hi]
    · rw [List.getElem?_append_right (by omega), ha]
      have e1 : i / m = (i - m) / m + 1 := by
        rw [← Nat.add_div_right _ hm, Nat.sub_add_cancel (by omega)]
      rw [e1] at hx
      have e2 : (i - m) % m = i % m := by rw [← Nat.mod_eq_sub_mod (by omega)]
      rw [ih2 (i - m) x hx, e2]
theorem rows_get {p : Int} (hp : p ∈ sixP) : ∀ L : Nat, ((rowsAll p L).length : Int) = pcF (p + 1) L ∧ ∀ i : Nat, i < (rowsAll p L).length → (rowsAll p L)[i]? = some (wordF p L (i : Int))
  | 0 => ⟨rfl, fun i hi => by
    have : i = 0 := by show i = 0; have : i < 1 := hi; omega
    subst this
    rfl⟩
  | 1 => by
    have p3 := six_pr hp
    have e : rowsAll p 1 = (List.range (p + 1).toNat).map fun k : Nat => [1 + (k : Int)] := by
      show ([[]] : List (List Int)).flatMap (nextF p) = _
      rw [List.flatMap_cons, List.flatMap_nil, List.append_nil]
      unfold nextF
      rw [fm_filter]
      have : (List.range (p + 1).toNat).filter (nextB p []) = List.range (p + 1).toNat := List.filter_eq_self.mpr fun k _ => rfl
      rw [this]
      rfl
    rw [e]
    refine ⟨?_, fun i hi => ?_⟩
    · rw [List.length_map, List.length_range]
      unfold pcF
      rw [if_neg (by decide), Int.pow_zero, Int.mul_one]
      omega
    · rw [List.length_map, List.length_range] at hi
      rw [List.getElem?_map, List.getElem?_range hi]
      show some [1 + (i : Int)] = some [(i : Int) + 1]
      rw [Int.add_comm]
  | L + 2 => by
    have p3 := six_pr hp
    obtain ⟨ih1, ih2⟩ := rows_get hp (L + 1)
    have hrow : ∀ r ∈ rowsAll p (L + 1), WZ p r ∧ r ≠ [] := fun r hr => by
      obtain ⟨i, hi, e⟩ := List.getElem_of_mem hr
      have e2 := ih2 i hi
      rw [List.getElem?_eq_getElem hi, e] at e2
      have e3 := Option.some.inj e2
      rw [e3]
      refine ⟨word_ok hp (L + 1) i (by omega) (by omega), fun q => ?_⟩
      have := word_len p (L + 1) (i : Int)
      rw [q] at this
      cases this
    obtain ⟨f1, f2⟩ := flat_get (m := p.toNat) (f := nextF p) (by omega) fun r hr => (next_get hp (hrow r hr).1 (hrow r hr).2).1
    refine ⟨?_, fun i hi => ?_⟩
    · show (((rowsAll p (L + 1)).flatMap (nextF p)).length : Int) = _
      rw [f1, Int.natCast_mul, ih1, pc_step, Int.toNat_of_nonneg (by omega)]
    · have hi' : i < (rowsAll p (L + 1)).length * p.toNat := by rw [← f1]; exact hi
      have hd : i / p.toNat < (rowsAll p (L + 1)).length := (Nat.div_lt_iff_lt_mul (by omega)).mpr hi'
      have hr := ih2 _ hd
      show ((rowsAll p (L + 1)).flatMap (nextF p))[i]? = _
      rw [f2 i _ hr]
      have hm := List.mem_of_getElem? hr
      obtain ⟨_, n2⟩ := next_get hp (hrow _ hm).1 (hrow _ hm).2
      rw [n2 (i % p.toNat) (Nat.mod_lt _ (by omega))]
      have c1 : ((i / p.toNat : Nat) : Int) = (i : Int) / p := by rw [Int.natCast_ediv, Int.toNat_of_nonneg (by omega)]
      have c2 : ((i % p.toNat : Nat) : Int) = (i : Int) % p := by rw [Int.natCast_emod, Int.toNat_of_nonneg (by omega)]
      rw [c1, c2]
      rfl
end TB

namespace TB
open PySem L2 PySem.Spec PyProof.Rows
section
variable {X : Cx} {W : WX} {F0 H0 : Hp} {Γ Γ1 : List S} {body su1 : List Stmt} {b1 : Stmt} {n x1 : Str} {i : Nat} {p1 q1 pos : Pos} {C1 c : Addr} {so : SO} {y : D}
/-- except C1: .., with no name; nothing is raised -/
theorem js_bare (i : Nat) (c1 : Names X x1 (.ref C1)) (tk : L2.Takes X W) (hN : X.N.Nodup) (hcl : so.clean)
    (hb : ∀ (W' : WX) (pn : List (Addr × Obj)) (xe : Value → Shared → Prop), L2.Takes (X.tr pn xe) W' → PassesOwn (model X.prog X.w) X.A X.env xe → JSs (X.tr pn xe) W' F0 H0 Γ body so)
    (hi : X.N[i]? = some n := by rfl) (hs : X.stack = X.env :: X.outer := by rfl) (hf : X.env.frame = some X.env.locals := by rfl) (hln : X.env.kindOf n = some .local := by rfl) :
    JS X W F0 H0 Γ (.Try body [.ExceptHandler (some (.Name x1 p1)) none (b1 :: su1) q1] [] [] pos) so :=
  ps_imp (ps_mixed (i := i) (tb := fun W' => tS X.K W' F0 H0 Γ so) hs hf hN hi hln tk hb (.bare (C := .ref C1) (ts := fun _ _ _ => tNever) c1 (fun _ _ _ _ _ _ _ => pss_never) .nil)) fun D' σ H ⟨F, ok, q⟩ => ⟨F, ok, pso_clean hcl q⟩
theorem js_bareX (i : Nat) (c1 : Names X x1 (.ref C1)) (tk : L2.Takes X W) (hN : X.N.Nodup) (ex : PySem.W.exmOne X.K (.ref c) (.ref C1) = some true)
    (hb : ∀ (W' : WX) (pn : List (Addr × Obj)) (xe : Value → Shared → Prop), L2.Takes (X.tr pn xe) W' → PassesOwn (model X.prog X.w) X.A X.env xe → JSs (X.tr pn xe) W' F0 H0 Γ body (.x c Γ1))
    (hsu : ∀ (a : Addr) (oe : Obj) (pn : List (Addr × Obj)), Zc (.ref c) none oe → (∃ vs, oe.data = .fields vs) → JSs (X.suite a ((a, oe) :: pn)) WF F0 H0 Γ1 (b1 :: su1) (.rt y))
    (hi : X.N[i]? = some n := by rfl) (hs : X.stack = X.env :: X.outer := by rfl) (hf : X.env.frame = some X.env.locals := by rfl) (hln : X.env.kindOf n = some .local := by rfl) :
    JS X W F0 H0 Γ (.Try body [.ExceptHandler (some (.Name x1 p1)) none (b1 :: su1) q1] [] [] pos) (.rt y) :=
  ps_imp (ps_mixed (i := i) (tb := fun W' => tS X.K W' F0 H0 Γ (.x c Γ1)) hs hf hN hi hln tk hb (.bare (C := .ref C1) (ts := fun a cls d D' σ H => cls = .ref c ∧ d = none ∧ tS X.K WF F0 H0 Γ1 (.rt y) D' σ H) c1 (fun a oe cls d pn hz hfl => ⟨fun pins s σ H D' I ⟨e1, e2, t⟩ => by
    subst e1 e2
    exact (hsu a oe pn hz hfl).run pins s σ H D' I t⟩) .nil))
    fun D' σ H ⟨F, ok, q⟩ => ⟨F, ok, fun σ' F' H' e ok' => ⟨true, ex, fun _ a _ => ⟨rfl, rfl, F', ok', fun v F2 H2 e2 z d => q v F2 H2 (e.trans e2) z d⟩, fun z => Bool.noConfusion z⟩⟩
end
/-! ### k73: relations -/
def R_numw : List D → Out → Prop := fun ds o => ∃ (p : Int) (d : D) (zs : List Int), ds = [.list ((lprimes p).map ti), d] ∧ Seq d zs ∧ p ∈ sixP ∧ zs.length ≤ 60 ∧ WZ p zs ∧ o = .v (.int (nK p zs zs.length))
def R_wnum : List D → Out → Prop := fun ds o => ∃ (p : Int) (L : Nat) (n : Int), ds = [.list ((lprimes p).map ti), .int (L : Int), .int n] ∧ p ∈ sixP ∧ L ≤ 60 ∧ 0 ≤ n ∧ n < pcF (p + 1) L ∧ o = .o ((wordF p L n).map .int)
def R_pcn : List D → Out → Prop := fun ds o => ∃ (p : Int) (L : Nat), ds = [.int p, .int (L : Int)] ∧ p ∈ sixP ∧ L ≤ 100 ∧ o = .v (.int (pcF (p + 1) L))
def R_nof (q : Addr) : List D → Out → Prop := fun ds o => ∃ (p : Int) (d : D) (zs : List Int), ds = [.int p, d] ∧ Seq d zs ∧ p ∈ sixP ∧ zs.length ≤ 60 ∧ WZ p zs ∧ ((apartB p zs = true ∧ o = .v (.int (nK p zs zs.length))) ∨ (apartB p zs = false ∧ o = .x q))
def R_wat (q : Addr) : List D → Out → Prop := fun ds o => ∃ (p : Int) (L : Nat) (n : Int), ds = [.int p, .int (L : Int), .int n] ∧ p ∈ sixP ∧ L ≤ 60 ∧ ((0 ≤ n ∧ n < pcF (p + 1) L ∧ o = .v (ti (wordF p L n))) ∨ (¬ (0 ≤ n ∧ n < pcF (p + 1) L) ∧ o = .x q))
def R_told73 : List D → Out → Prop := fun ds o => ∃ (p : Int) (L : Nat) (n : Int), ds = [.int p, .int (L : Int), .int n] ∧ p ∈ sixP ∧ L ≤ 60 ∧ o = .v (if 0 ≤ n ∧ n < pcF (p + 1) L then ti (wordF p L n) else .str "question")
def R_ref73 : List D → Out → Prop := fun ds o => ∃ (p : Int) (zs : List Int), ds = [.int p, ti zs] ∧ p ∈ sixP ∧ zs.length ≤ 60 ∧ WZ p zs ∧ o = .v (.bool (!apartB p zs))
def R_lall : List D → Out → Prop := fun ds o => ∃ (p : Int) (L : Nat), ds = [.list ((lprimes p).map ti), .int (L : Int)] ∧ p ∈ sixP ∧ L ≤ 3 ∧ o = .o ((rowsAll p L).map ti)
theorem st_len (p : Int) : ∀ (M : Nat) (n : Int), (stF p M n).length = M + 1
  | 0, _ => rfl
  | M + 1, n => by
    show (stF p M (n / p)).length + 1 = _
    rw [st_len p M]
theorem st_get {p : Int} (hp : p ∈ sixP) : ∀ (M : Nat) (n : Int), 0 ≤ n → n < pcF (p + 1) (M + 1) → ∀ k s, (stF p M n).reverse[k]? = some s → 0 ≤ s ∧ s ≤ p ∧ (1 ≤ k → s < p)
  | 0, n, h0, h1, k, s, e => by
    have e1 : pcF (p + 1) 1 = p + 1 := by unfold pcF; rw [if_neg (by decide), Int.pow_zero, Int.mul_one]
    rw [e1] at h1
    have e2 : ([n] : List Int)[k]? = some s := e
    match k, e2 with
    | 0, e2 =>
      cases e2
      exact ⟨h0, by omega, fun h => by omega⟩
  | M + 1, n, h0, h1, k, s, e => by
    have p3 := six_pr hp
    rw [pc_step] at h1
    have d0 : 0 ≤ n / p := Int.ediv_nonneg h0 (by omega)
    have d1 : n / p < pcF (p + 1) (M + 1) := Int.ediv_lt_of_lt_mul (by omega) h1
    have e2 : ((n % p) :: stF p M (n / p)).reverse[k]? = some s := e
    rw [List.reverse_cons] at e2
    have hl : (stF p M (n / p)).reverse.length = M + 1 := by rw [List.length_reverse, st_len]
    by_cases hk : k < M + 1
    · rw [List.getElem?_append_left (by omega)] at e2
      exact st_get hp M (n / p) d0 d1 k s e2
    · rw [List.getElem?_append_right (by omega)] at e2
      have m0 := Int.emod_nonneg n (show p ≠ 0 by omega)
      have m1 := Int.emod_lt_of_pos n (show 0 < p by omega)
      have : k - (stF p M (n / p)).reverse.length = 0 := by
        rcases Nat.eq_zero_or_pos (k - (stF p M (n / p)).reverse.length) with h | h
        · exact h
        · rw [List.getElem?_eq_none (by show 1 ≤ _; omega)] at e2
          cases e2
      rw [this] at e2
      cases e2
      exact ⟨m0, by omega, fun _ => m1⟩
theorem letP_rng {p : Int} {w : List Int} {s : Int} (h0 : 0 ≤ s) (h1 : s ≤ p) (h2 : w ≠ [] → s < p) : 1 ≤ letP p w s ∧ letP p w s ≤ p + 1 := by
  unfold letP
  split
  · rename_i h
    have := h2 h.1
    omega
  · omega
theorem rows_cnt {p : Int} (hp : p ∈ sixP) {L : Nat} (h : L ≤ 2) : (rowsAll p L).length ≤ 400 := by
  have e := (rows_get hp L).1
  have : ∀ p ∈ sixP, pcF (p + 1) 0 ≤ 400 ∧ pcF (p + 1) 1 ≤ 400 ∧ pcF (p + 1) 2 ≤ 400 := by decide
  obtain ⟨a, b, c⟩ := this p hp
  match L, h with
  | 0, _ => omega
  | 1, _ => omega
  | 2, _ => omega
theorem rows_WZ {p : Int} (hp : p ∈ sixP) {L : Nat} {r : List Int} (hr : r ∈ rowsAll p L) : WZ p r ∧ r.length = L := by
  obtain ⟨h1, h2⟩ := rows_get hp L
  obtain ⟨i, hi, e⟩ := List.getElem_of_mem hr
  have e2 := h2 i hi
  rw [List.getElem?_eq_getElem hi, e] at e2
  rw [Option.some.inj e2]
  exact ⟨word_ok hp L i (by omega) (by omega), word_len p L i⟩
/-- the loop over the letters behind a row -/
def stepN (p : Int) (row : List Int) (F : List (List Int)) (k : Nat) : List (List Int) := if nextB p row k = true then F ++ [row ++ [1 + (k : Int)]] else F
theorem stepN_fold (p : Int) (row : List Int) : ∀ (ks : List Nat) (F : List (List Int)), ks.foldl (stepN p row) F = F ++ ks.flatMap fun k => if nextB p row k = true then [row ++ [1 + (k : Int)]] else []
  | [], F => by simp
  | k :: ks, F => by
    rw [List.foldl_cons, stepN_fold p row ks, List.flatMap_cons]
    unfold stepN
    split
    · rw [List.append_assoc]
    · rw [List.nil_append]
end TB
namespace TB
open PySem L2 PySem.Spec PyProof.Rows
theorem en_int {zs : List Int} {k : Nat} {e : D} (h : (enD (zs.map .int))[k]? = some e) : k < zs.length ∧ e = .tuple [.int (k : Int), .int (zs.getD k 0)] := by
  obtain ⟨x, hx, rfl⟩ := enD_get h
  rw [List.getElem?_map] at hx
  cases q : zs[k]? with
  | none => rw [q] at hx; cases hx
  | some z =>
    rw [q] at hx
    cases hx
    refine ⟨(List.getElem?_eq_some_iff.mp q).1, ?_⟩
    rw [List.getD_eq_getElem?_getD, q]
    rfl
theorem apart_pair {p : Int} (a : Int) : apartB p [a, parF p a] = false := by
  show (!decide (parF p a = parF p a) && true) = false
  rw [decide_eq_true rfl]
  rfl
end TB
namespace TB
open PySem L2 PySem.Spec PyProof.Rows
section
variable {X : Cx} {W : WX} {F0 H0 : Hp} {Γ : List S} {e : Expr} {pos : Pos}
/-- n -= e, ints -/
theorem js_augSub (i : Nat) {n : Str} {pos' : Pos} {k l : Int} (g : Γ[i]? = some (.d (.int k))) (hN : X.N.Nodup) (he : JE X W F0 H0 Γ e (.v (.int l))) (hi : X.N[i]? = some n := by rfl) (hx : Loc X.env.scope n := by first | exact Or.inl rfl | exact Or.inr rfl) (hf : X.fn n = true ∨ X.env.scope.names.lookup n = some .local := by first | exact .inl rfl | exact .inr rfl) :
    JS X W F0 H0 Γ (.AugAssign (.Name n pos') .Sub e pos) (.nx (Γ.set i (.d (.int (k - l))))) :=
  ps_imp (ps_aug hN hi hx he ip_sub hf) fun D' σ H ⟨F, ok, q⟩ => by
    obtain ⟨v, e1, d1⟩ := ok.at g
    cases d1
    exact ⟨_, e1, F, ok, fun v F' H' z d => by
      cases d
      exact ⟨k, l, rfl, rfl, q _ F' H' z.f ((ok.mono z).set i (.int _))⟩⟩
end
end TB
namespace TB
open PySem L2 PySem.Spec PyProof.Rows
def parL (p : Int) : List Int := (List.range (p + 1).toNat).map fun k : Nat => parF p (0 + (k : Int) + 1)
theorem parL_at {p z : Int} (hp : p ∈ sixP) (h1 : 1 ≤ z) (h2 : z ≤ p + 1) : atI ((parL p).map PyData.int) (z - 1) = some (.int (parF p z)) := by
  have e := at_ints (ns := parL p) (i := (z - 1).toNat) (z := z - 1) (by omega) (by unfold parL; rw [List.length_map, List.length_range]; omega)
  rw [e]
  congr 2
  unfold parL
  rw [List.getD_eq_getElem?_getD, List.getElem?_map, List.getElem?_range (by omega)]
  show parF p (0 + ((z - 1).toNat : Int) + 1) = _
  congr 1
  omega
theorem own_snoc (F : List (List Int)) (row : List Int) (z : Int) : F.map ti ++ [.tuple (row.map PyData.int ++ [.int z])] = (F ++ [row ++ [z]]).map ti := by
  rw [List.map_append]
  show _ = F.map ti ++ [.tuple ((row ++ [z]).map PyData.int)]
  rw [List.map_append]
  rfl
theorem fold_fm {α β : Type} (f : α → List β) : ∀ (xs : List α) (F : List β), xs.foldl (fun F x => F ++ f x) F = F ++ xs.flatMap f
  | [], F => by simp
  | x :: xs, F => by
    rw [List.foldl_cons, fold_fm f xs, List.flatMap_cons, List.append_assoc]
theorem next_len (p : Int) (row : List Int) : (nextF p row).length ≤ (p + 1).toNat := by
  unfold nextF
  rw [fm_filter, List.length_map]
  have := List.length_filter_le (nextB p row) (List.range (p + 1).toNat)
  rwa [List.length_range] at this
theorem rows_succ (p : Int) (L : Nat) : (rowsAll p L).foldl (fun F row => F ++ nextF p row) [] = rowsAll p (L + 1) := by
  rw [fold_fm, List.nil_append]
  rfl
end TB
namespace TB
open PySem L2 PySem.Spec PyProof.Rows
theorem pc_small {p : Int} (hp : p ∈ sixP) {L : Nat} (h : L ≤ 3) : pcF (p + 1) L ≤ 10000 := by
  have : ∀ p ∈ sixP, pcF (p + 1) 0 ≤ 10000 ∧ pcF (p + 1) 1 ≤ 10000 ∧ pcF (p + 1) 2 ≤ 10000 ∧ pcF (p + 1) 3 ≤ 10000 := by decide
  obtain ⟨a, b, c, d⟩ := this p hp
  match L, h with
  | 0, _ => exact a
  | 1, _ => exact b
  | 2, _ => exact c
  | 3, _ => exact d
theorem pc_prev {p : Int} {L : Nat} (h : 0 < L) : pcF (p + 1) (L - 1) * (if L = 1 then p + 1 else p) = pcF (p + 1) L := by
  match L, h with
  | 1, _ =>
    rw [if_pos rfl]
    show 1 * (p + 1) = (p + 1) * (p + 1 - 1) ^ 0
    rw [Int.pow_zero, Int.one_mul, Int.mul_one]
  | L + 2, _ =>
    rw [if_neg (by omega), pc_step, show L + 2 - 1 = L + 1 by omega]
theorem rows_at {p : Int} (hp : p ∈ sixP) {L : Nat} {z : Int} (h0 : 0 ≤ z) (h1 : z < pcF (p + 1) L) : atI ((rowsAll p L).map ti) z = some (ti (wordF p L z)) := by
  obtain ⟨e1, e2⟩ := rows_get hp L
  have e3 := e2 z.toNat (by omega)
  rw [Int.toNat_of_nonneg h0] at e3
  have : z = ((z.toNat : Nat) : Int) := by omega
  rw [this]
  refine atI_nat ?_
  rw [List.getElem?_map, e3, ← this]
  rfl
theorem word_n {p : Int} (hp : p ∈ sixP) {L : Nat} {n : Int} (h0 : 0 ≤ n) (h1 : n < pcF (p + 1) L) : nK p (wordF p L n) (wordF p L n).length = n := by
  rw [word_len]
  exact (word_back hp L n h0 h1).1
def big73 (nums : List Int) : Nat → Int
  | 0 => 0
  | k + 1 => big73 nums k * 1009 + nums.getD (10 + k) 0
end TB
namespace TB
open PySem L2 PySem.Spec PyProof.Rows
theorem pick_at {p : Int} (l : Nat) : atI ([.int p, .int (p + 1)] : List D) (if decide ((l : Int) = 1) = true then 1 else 0) = some (.int (if l = 1 then p + 1 else p)) := by
  by_cases h : l = 1
  · rw [if_pos (decide_eq_true (by omega)), if_pos h]
    rfl
  · rw [if_neg (by rw [decide_eq_false (by omega)]; exact Bool.false_ne_true), if_neg h]
    rfl
end TB

namespace KK
open PySem L2 TB
def topS (i : Nat) : Stmt := PySem.Challenge.pw_turnprimes_k73_numbers_of_words.main.body.getD i (.Pass ⟨0, 0, 0, 0⟩)
abbrev s_is_number : Stmt := topS 8
abbrev N_is_number : List Str := ["number", "part"]
theorem sc_is_number : FnScope N_is_number ["number"] (defScope s_is_number) := ⟨rfl, rfl, rfl, by decide +kernel, rfl, by decide +kernel, by decide +kernel⟩
abbrev s_check_number : Stmt := topS 9
abbrev N_check_number : List Str := ["number"]
theorem sc_check_number : FnScope N_check_number ["number"] (defScope s_check_number) := ⟨rfl, rfl, rfl, by decide +kernel, rfl, by decide +kernel, by decide +kernel⟩
abbrev s_check_not_zero : Stmt := topS 10
abbrev N_check_not_zero : List Str := ["number"]
theorem sc_check_not_zero : FnScope N_check_not_zero ["number"] (defScope s_check_not_zero) := ⟨rfl, rfl, rfl, by decide +kernel, rfl, by decide +kernel, by decide +kernel⟩
abbrev s_conjugate : Stmt := topS 11
abbrev N_conjugate : List Str := ["number"]
theorem sc_conjugate : FnScope N_conjugate ["number"] (defScope s_conjugate) := ⟨rfl, rfl, rfl, by decide +kernel, rfl, by decide +kernel, by decide +kernel⟩
abbrev s_canonical : Stmt := topS 12
abbrev N_canonical : List Str := ["number", "greatest", "_"]
theorem sc_canonical : FnScope N_canonical ["number"] (defScope s_canonical) := ⟨rfl, rfl, rfl, by decide +kernel, rfl, by decide +kernel, by decide +kernel⟩
abbrev s_p_greatest_associate : Stmt := topS 13
abbrev N_p_greatest_associate : List Str := ["number", "a", "b", "c", "d", "firsts", "e", "f", "g", "h", "most", "unit", "first"]
theorem sc_p_greatest_associate : FnScope N_p_greatest_associate ["number"] (defScope s_p_greatest_associate) := ⟨rfl, rfl, rfl, by decide +kernel, rfl, by decide +kernel, by decide +kernel⟩
abbrev s_p_conjugate : Stmt := topS 14
abbrev N_p_conjugate : List Str := ["number", "a", "b", "c", "d"]
theorem sc_p_conjugate : FnScope N_p_conjugate ["number"] (defScope s_p_conjugate) := ⟨rfl, rfl, rfl, by decide +kernel, rfl, by decide +kernel, by decide +kernel⟩
abbrev s_p_product : Stmt := topS 15
abbrev N_p_product : List Str := ["one", "other", "a", "b", "c", "d", "e", "f", "g", "h"]
theorem sc_p_product : FnScope N_p_product ["one", "other"] (defScope s_p_product) := ⟨rfl, rfl, rfl, by decide +kernel, rfl, by decide +kernel, by decide +kernel⟩
abbrev s_is_prime : Stmt := topS 20
abbrev N_is_prime : List Str := ["value", "base"]
theorem sc_is_prime : FnScope N_is_prime ["value"] (defScope s_is_prime) := ⟨rfl, rfl, rfl, by decide +kernel, rfl, by decide +kernel, by decide +kernel⟩
abbrev s_primes_of : Stmt := topS 21
abbrev N_primes_of : List Str := ["prime", "numbers", "parts", "number"]
theorem sc_primes_of : FnScope N_primes_of ["prime"] (defScope s_primes_of) := ⟨rfl, rfl, rfl, by decide +kernel, rfl, by decide +kernel, by decide +kernel⟩
abbrev s_check_odd_prime : Stmt := topS 22
abbrev N_check_odd_prime : List Str := ["value", "most"]
theorem sc_check_odd_prime : FnScope N_check_odd_prime ["value", "most"] (defScope s_check_odd_prime) := ⟨rfl, rfl, rfl, by decide +kernel, rfl, by decide +kernel, by decide +kernel⟩
abbrev s_power_modulo : Stmt := topS 23
abbrev N_power_modulo : List Str := ["base", "exponent", "modulus", "found"]
theorem sc_power_modulo : FnScope N_power_modulo ["base", "exponent", "modulus"] (defScope s_power_modulo) := ⟨rfl, rfl, rfl, by decide +kernel, rfl, by decide +kernel, by decide +kernel⟩
abbrev s_p_check_prime : Stmt := topS 24
abbrev N_p_check_prime : List Str := ["prime"]
theorem sc_p_check_prime : FnScope N_p_check_prime ["prime"] (defScope s_p_check_prime) := ⟨rfl, rfl, rfl, by decide +kernel, rfl, by decide +kernel, by decide +kernel⟩
abbrev s_p_leading_parts : Stmt := topS 25
abbrev N_p_leading_parts : List Str := ["total", "found", "a", "b", "c", "rest", "d"]
theorem sc_p_leading_parts : FnScope N_p_leading_parts ["total"] (defScope s_p_leading_parts) := ⟨rfl, rfl, rfl, by decide +kernel, rfl, by decide +kernel, by decide +kernel⟩
abbrev s_p_with_signs : Stmt := topS 26
abbrev N_p_with_signs : List Str := ["parts", "a", "b", "c", "d", "x", "y", "z"]
theorem sc_p_with_signs : FnScope N_p_with_signs ["parts"] (defScope s_p_with_signs) := ⟨rfl, rfl, rfl, by decide +kernel, rfl, by decide +kernel, by decide +kernel⟩
abbrev s_p_passes : Stmt := topS 27
abbrev N_p_passes : List Str := ["value", "base", "exponent", "many", "power", "_"]
theorem sc_p_passes : FnScope N_p_passes ["value", "base"] (defScope s_p_passes) := ⟨rfl, rfl, rfl, by decide +kernel, rfl, by decide +kernel, by decide +kernel⟩
abbrev s_is_plain_integer : Stmt := topS 29
abbrev N_is_plain_integer : List Str := ["value"]
theorem sc_is_plain_integer : FnScope N_is_plain_integer ["value"] (defScope s_is_plain_integer) := ⟨rfl, rfl, rfl, by decide +kernel, rfl, by decide +kernel, by decide +kernel⟩
abbrev s_partner_of : Stmt := topS 31
abbrev N_partner_of : List Str := ["letters", "letter"]
theorem sc_partner_of : FnScope N_partner_of ["letters", "letter"] (defScope s_partner_of) := ⟨rfl, rfl, rfl, by decide +kernel, rfl, by decide +kernel, by decide +kernel⟩
abbrev s_word_count : Stmt := topS 32
abbrev N_word_count : List Str := ["many", "length", "count", "_"]
theorem sc_word_count : FnScope N_word_count ["many", "length"] (defScope s_word_count) := ⟨rfl, rfl, rfl, by decide +kernel, rfl, by decide +kernel, by decide +kernel⟩
abbrev s_number_of_word : Stmt := topS 33
abbrev N_number_of_word : List Str := ["letters", "word", "number", "at", "letter", "step"]
theorem sc_number_of_word : FnScope N_number_of_word ["letters", "word"] (defScope s_number_of_word) := ⟨rfl, rfl, rfl, by decide +kernel, rfl, by decide +kernel, by decide +kernel⟩
abbrev s_word_of_number : Stmt := topS 34
abbrev N_word_of_number : List Str := ["letters", "length", "number", "steps", "rest", "_", "step", "word", "letter"]
theorem sc_word_of_number : FnScope N_word_of_number ["letters", "length", "number"] (defScope s_word_of_number) := ⟨rfl, rfl, rfl, by decide +kernel, rfl, by decide +kernel, by decide +kernel⟩
abbrev s_letters : Stmt := topS 37
abbrev N_letters : List Str := ["prime"]
theorem sc_letters : FnScope N_letters ["prime"] (defScope s_letters) := ⟨rfl, rfl, rfl, by decide +kernel, rfl, by decide +kernel, by decide +kernel⟩
abbrev s_is_reduced : Stmt := topS 38
abbrev N_is_reduced : List Str := ["prime", "word", "own", "one", "other"]
theorem sc_is_reduced : FnScope N_is_reduced ["prime", "word"] (defScope s_is_reduced) := ⟨rfl, rfl, rfl, by decide +kernel, rfl, by decide +kernel, by decide +kernel⟩
abbrev s_place_count : Stmt := topS 39
abbrev N_place_count : List Str := ["prime", "length", "own"]
theorem sc_place_count : FnScope N_place_count ["prime", "length"] (defScope s_place_count) := ⟨rfl, rfl, rfl, by decide +kernel, rfl, by decide +kernel, by decide +kernel⟩
abbrev s_number_of : Stmt := topS 40
abbrev N_number_of : List Str := ["prime", "word"]
theorem sc_number_of : FnScope N_number_of ["prime", "word"] (defScope s_number_of) := ⟨rfl, rfl, rfl, by decide +kernel, rfl, by decide +kernel, by decide +kernel⟩
abbrev s_word_at : Stmt := topS 41
abbrev N_word_at : List Str := ["prime", "length", "number"]
theorem sc_word_at : FnScope N_word_at ["prime", "length", "number"] (defScope s_word_at) := ⟨rfl, rfl, rfl, by decide +kernel, rfl, by decide +kernel, by decide +kernel⟩
abbrev s_p_check_word : Stmt := topS 42
abbrev N_p_check_word : List Str := ["prime", "word", "letter"]
theorem sc_p_check_word : FnScope N_p_check_word ["prime", "word"] (defScope s_p_check_word) := ⟨rfl, rfl, rfl, by decide +kernel, rfl, by decide +kernel, by decide +kernel⟩
abbrev s_law_row : Stmt := topS 44
abbrev N_law_row : List Str := ["cell", "many", "row", "rest", "mixed", "k"]
theorem sc_law_row : FnScope N_law_row ["cell", "many"] (defScope s_law_row) := ⟨rfl, rfl, rfl, by decide +kernel, rfl, by decide +kernel, by decide +kernel⟩
abbrev s_law_numbers : Stmt := topS 45
abbrev N_law_numbers : List Str := ["script", "many", "cells", "each", "numbers", "cell", "number"]
theorem sc_law_numbers : FnScope N_law_numbers ["script", "many"] (defScope s_law_numbers) := ⟨rfl, rfl, rfl, by decide +kernel, rfl, by decide +kernel, by decide +kernel⟩
abbrev s_law_product : Stmt := topS 46
abbrev N_law_product : List Str := ["one", "other", "a", "b", "c", "d", "e", "f", "g", "h", "first", "second", "third", "fourth"]
theorem sc_law_product : FnScope N_law_product ["one", "other"] (defScope s_law_product) := ⟨rfl, rfl, rfl, by decide +kernel, rfl, by decide +kernel, by decide +kernel⟩
abbrev s_law_turned : Stmt := topS 47
abbrev N_law_turned : List Str := ["number"]
theorem sc_law_turned : FnScope N_law_turned ["number"] (defScope s_law_turned) := ⟨rfl, rfl, rfl, by decide +kernel, rfl, by decide +kernel, by decide +kernel⟩
abbrev s_law_units : Stmt := topS 49
abbrev N_law_units : List Str := ["found", "a", "b", "c", "k", "part", "j"]
theorem sc_law_units : FnScope N_law_units [] (defScope s_law_units) := ⟨rfl, rfl, rfl, by decide +kernel, rfl, by decide +kernel, by decide +kernel⟩
abbrev s_law_greatest : Stmt := topS 50
abbrev N_law_greatest : List Str := ["number", "unit"]
theorem sc_law_greatest : FnScope N_law_greatest ["number"] (defScope s_law_greatest) := ⟨rfl, rfl, rfl, by decide +kernel, rfl, by decide +kernel, by decide +kernel⟩
abbrev s_law_letters : Stmt := topS 52
abbrev N_law_letters : List Str := ["prime", "roots", "d", "rows", "a", "b", "c", "rest", "found", "known", "row", "unit"]
theorem sc_law_letters : FnScope N_law_letters ["prime"] (defScope s_law_letters) := ⟨rfl, rfl, rfl, by decide +kernel, rfl, by decide +kernel, by decide +kernel⟩
abbrev s_law_partner : Stmt := topS 53
abbrev N_law_partner : List Str := ["known", "letter"]
theorem sc_law_partner : FnScope N_law_partner ["known", "letter"] (defScope s_law_partner) := ⟨rfl, rfl, rfl, by decide +kernel, rfl, by decide +kernel, by decide +kernel⟩
abbrev s_law_prime : Stmt := topS 56
abbrev N_law_prime : List Str := ["number"]
theorem sc_law_prime : FnScope N_law_prime ["number"] (defScope s_law_prime) := ⟨rfl, rfl, rfl, by decide +kernel, rfl, by decide +kernel, by decide +kernel⟩
abbrev s_law_all : Stmt := topS 57
abbrev N_law_all : List Str := ["known", "length", "partners", "k", "rows", "turn", "longer", "row", "letter"]
theorem sc_law_all : FnScope N_law_all ["known", "length"] (defScope s_law_all) := ⟨rfl, rfl, rfl, by decide +kernel, rfl, by decide +kernel, by decide +kernel⟩
abbrev s_law_told : Stmt := topS 58
abbrev N_law_told : List Str := ["prime", "length", "number"]
theorem sc_law_told : FnScope N_law_told ["prime", "length", "number"] (defScope s_law_told) := ⟨rfl, rfl, rfl, by decide +kernel, rfl, by decide +kernel, by decide +kernel⟩
abbrev s_law_refused : Stmt := topS 59
abbrev N_law_refused : List Str := ["prime", "word"]
theorem sc_law_refused : FnScope N_law_refused ["prime", "word"] (defScope s_law_refused) := ⟨rfl, rfl, rfl, by decide +kernel, rfl, by decide +kernel, by decide +kernel⟩
abbrev s_law : Stmt := topS 60
abbrev N_law : List Str := ["script", "numbers", "prime", "known", "length", "rows", "at", "long", "many", "number", "k", "word", "letter"]
theorem sc_law : FnScope N_law ["script"] (defScope s_law) := ⟨rfl, rfl, rfl, by decide +kernel, rfl, by decide +kernel, by decide +kernel⟩
/-- what the top has left -/
structure TT (K : PySem.W.Frag) (mg : Str → Option Value) (c_TurnprimesError : Addr) (c_InvalidNumber : Addr) (c_InvalidWord : Addr) (c_InvalidQuestion : Addr) : Prop where
  z_abs : mg "abs" = none
  z_all : mg "all" = none
  z_any : mg "any" = none
  z_bool : mg "bool" = none
  z_divmod : mg "divmod" = none
  z_enumerate : mg "enumerate" = none
  z_int : mg "int" = none
  z_isinstance : mg "isinstance" = none
  z_len : mg "len" = none
  z_list : mg "list" = none
  z_max : mg "max" = none
  z_range : mg "range" = none
  z_repr : mg "repr" = none
  z_reversed : mg "reversed" = none
  z_sorted : mg "sorted" = none
  z_tuple : mg "tuple" = none
  z_zip : mg "zip" = none
  e_TurnprimesError : ExF K mg "TurnprimesError" c_TurnprimesError
  e_InvalidNumber : ExF K mg "InvalidNumber" c_InvalidNumber
  e_InvalidWord : ExF K mg "InvalidWord" c_InvalidWord
  e_InvalidQuestion : ExF K mg "InvalidQuestion" c_InvalidQuestion
  x_InvalidNumber : ExcC K c_InvalidNumber
  m_InvalidNumber_InvalidQuestion : PySem.W.exmOne K (.ref c_InvalidNumber) (.ref c_InvalidQuestion) = some false
  m_InvalidNumber_InvalidWord : PySem.W.exmOne K (.ref c_InvalidNumber) (.ref c_InvalidWord) = some false
  x_InvalidQuestion : ExcC K c_InvalidQuestion
  m_InvalidQuestion_InvalidQuestion : PySem.W.exmOne K (.ref c_InvalidQuestion) (.ref c_InvalidQuestion) = some true
  m_InvalidQuestion_InvalidWord : PySem.W.exmOne K (.ref c_InvalidQuestion) (.ref c_InvalidWord) = some false
  x_InvalidWord : ExcC K c_InvalidWord
  m_InvalidWord_InvalidQuestion : PySem.W.exmOne K (.ref c_InvalidWord) (.ref c_InvalidQuestion) = some false
  m_InvalidWord_InvalidWord : PySem.W.exmOne K (.ref c_InvalidWord) (.ref c_InvalidWord) = some true
  g_BASES : ∃ a, mg "_BASES" = some (.ref a) ∧ ∀ F, Dp K F (.ref a) (ti [2, 3, 5, 7, 11])
  i_isqrt : mg "isqrt" = some (.builtin "math.isqrt")
  g_UNITS : ∃ a, mg "_UNITS" = some (.ref a) ∧ ∀ F, Dp K F (.ref a) (.tuple (unitsL.map ti))
  gi_MOST_PRIME : ∃ t, mg "MOST_PRIME" = some (.int 1000 t)
  gi_MOST : ∃ t, mg "MOST" = some (.int 1000000000000 t)
  gi__MOST_PRIME : ∃ t, mg "_MOST_PRIME" = some (.int 199 t)
  fn_is_number : FnAt K mg "is_number" s_is_number ["number"]
  fn_check_number : FnAt K mg "check_number" s_check_number ["number"]
  fn_check_not_zero : FnAt K mg "check_not_zero" s_check_not_zero ["number"]
  fn_conjugate : FnAt K mg "conjugate" s_conjugate ["number"]
  fn_canonical : FnAt K mg "canonical" s_canonical ["number"]
  fn_p_greatest_associate : FnAt K mg "_greatest_associate" s_p_greatest_associate ["number"]
  fn_p_conjugate : FnAt K mg "_conjugate" s_p_conjugate ["number"]
  fn_p_product : FnAt K mg "_product" s_p_product ["one", "other"]
  fn_is_prime : FnAt K mg "is_prime" s_is_prime ["value"]
  fn_primes_of : FnAt K mg "primes_of" s_primes_of ["prime"]
  fn_check_odd_prime : FnAt K mg "check_odd_prime" s_check_odd_prime ["value", "most"]
  fn_power_modulo : FnAt K mg "power_modulo" s_power_modulo ["base", "exponent", "modulus"]
  fn_p_check_prime : FnAt K mg "_check_prime" s_p_check_prime ["prime"]
  fn_p_leading_parts : FnAt K mg "_leading_parts" s_p_leading_parts ["total"]
  fn_p_with_signs : FnAt K mg "_with_signs" s_p_with_signs ["parts"]
  fn_p_passes : FnAt K mg "_passes" s_p_passes ["value", "base"]
  fn_is_plain_integer : FnAt K mg "is_plain_integer" s_is_plain_integer ["value"]
  fn_partner_of : FnAt K mg "partner_of" s_partner_of ["letters", "letter"]
  fn_word_count : FnAt K mg "word_count" s_word_count ["many", "length"]
  fn_number_of_word : FnAt K mg "number_of_word" s_number_of_word ["letters", "word"]
  fn_word_of_number : FnAt K mg "word_of_number" s_word_of_number ["letters", "length", "number"]
  fn_letters : FnAt K mg "letters" s_letters ["prime"]
  fn_is_reduced : FnAt K mg "is_reduced" s_is_reduced ["prime", "word"]
  fn_place_count : FnAt K mg "place_count" s_place_count ["prime", "length"]
  fn_number_of : FnAt K mg "number_of" s_number_of ["prime", "word"]
  fn_word_at : FnAt K mg "word_at" s_word_at ["prime", "length", "number"]
  fn_p_check_word : FnAt K mg "_check_word" s_p_check_word ["prime", "word"]
  fn_law_row : FnAt K mg "_law_row" s_law_row ["cell", "many"]
  fn_law_numbers : FnAt K mg "_law_numbers" s_law_numbers ["script", "many"]
  fn_law_product : FnAt K mg "_law_product" s_law_product ["one", "other"]
  fn_law_turned : FnAt K mg "_law_turned" s_law_turned ["number"]
  fn_law_units : FnAt K mg "_law_units" s_law_units []
  fn_law_greatest : FnAt K mg "_law_greatest" s_law_greatest ["number"]
  fn_law_letters : FnAt K mg "_law_letters" s_law_letters ["prime"]
  fn_law_partner : FnAt K mg "_law_partner" s_law_partner ["known", "letter"]
  fn_law_prime : FnAt K mg "_law_prime" s_law_prime ["number"]
  fn_law_all : FnAt K mg "_law_all" s_law_all ["known", "length"]
  fn_law_told : FnAt K mg "_law_told" s_law_told ["prime", "length", "number"]
  fn_law_refused : FnAt K mg "_law_refused" s_law_refused ["prime", "word"]
section
variable {P : Program} {w : World} {K : PySem.W.Frag} {mg : Str → Option Value} {base : Heap} {c_TurnprimesError c_InvalidNumber c_InvalidWord c_InvalidQuestion : Addr} (T : TT K mg c_TurnprimesError c_InvalidNumber c_InvalidWord c_InvalidQuestion)
include T

def R_law_row : List D → Out → Prop := fun ds o => ∃ (c : Int) (m : Nat), ds = [.int c, .int m] ∧ m < 1000 ∧ o = .o ((lawRow c m).map .int)
theorem c_law_row : Cal P w K mg base 1 "_law_row" ["cell", "many"] R_law_row := by
  refine cal_mk T.fn_law_row sc_law_row (fun ds o ⟨c, m, h, _⟩ => by subst h; rfl) fun f cdv A outer s H E F ds o hr tk pn ⟨c, m, hd, hm, ho⟩ => ?_
  subst hd ho
  refine ⟨.rto ((lawRow c m).map .int), ?_, rfl⟩
  refine jss_cons (js_setO 2 sc_law_row.nd (je_lst ja_nil)) ?_
  refine jss_cons (js_set 3 sc_law_row.nd (je_abs T.z_abs (je_var 0 rfl))) ?_
  refine jss_cons (js_set 4 sc_law_row.nd (je_mod (by decide) (je_intI T.z_int (je_add (je_mul (.inr ⟨by decide, by decide⟩) (je_var 3 rfl) je_int) je_int)) je_int)) ?_
  have em : ((m : Int)).toNat = m := Int.toNat_natCast m
  refine jss_cons (js_is (js_forAll (fun k => [.d (.int c), .d (.int m), .own (((List.range k).map (rowV c)).map .int), .d (.int (restS c k)), .d (.int (mixS c k)), .u])
    (fun k => [.d (.int c), .d (.int m), .own (((List.range k).map (rowV c)).map .int), .d (.int (restS c k)), .d (.int (mixS c k)), .d (.int (0 + (k : Nat)))])
    pn rfl (ji_range1 T.z_range (by omega) (by omega) (je_var 1 rfl)) (jg_name 5 sc_law_row.nd) (.keep (.keep (.keep (.keep (.keep (.drop .nil)))))) (fun k d e => by
      obtain ⟨_, rfl⟩ := rngD_get e
      rfl) fun k d e => ?_) rfl) ?_
  · obtain ⟨hk, _⟩ := rngD_get e
    rw [em] at hk
    refine jss_cons (js_set 4 sc_law_row.nd (je_mod (by decide) (je_intI T.z_int (je_add (je_mul (.inr ⟨by decide, by decide⟩) (je_var 4 rfl) je_int) (je_mul (.inl ⟨by decide, by decide⟩) je_int (je_add (je_var 5 rfl) je_int)))) je_int)) ?_
    refine jss_one (js_if (jt_ge (je_abs T.z_abs (je_var 0 rfl)) (je_pow ⟨by decide, by decide, by decide⟩ je_int je_int)) (fun hb => ?_) fun hb => ?_)
    · have hb' : bigC c = true := hb
      have e1 : rowV c k = restS c k % 1009 := by unfold rowV; rw [if_pos hb']
      have e2 : restS c (k + 1) = restS c k / 1009 := by show (if bigC c = true then _ else _) = _; rw [if_pos hb']
      refine jss_cons (js_append 2 rfl (by simp; omega) (je_mod (by decide) (je_intI T.z_int (je_var 3 rfl)) je_int)) ?_
      refine jss_nx (jss_one (js_set 3 sc_law_row.nd (je_fdiv ⟨by decide, by decide⟩ (je_var 3 rfl) je_int))) ?_
      rw [List.range_succ, List.map_append, List.map_append, ← e1, ← e2]
      exact .keep (.keep (.keep (.keep (.keep (.drop .nil)))))
    · have hb' : ¬ bigC c = true := by have h2 : bigC c = false := hb; rw [h2]; exact Bool.false_ne_true
      have e1 : rowV c k = mixS c (k + 1) / 7 % 1009 := by unfold rowV; rw [if_neg hb']
      have e2 : restS c (k + 1) = restS c k := by show (if bigC c = true then _ else _) = _; rw [if_neg hb']
      refine jss_nx (jss_one (js_append 2 rfl (by simp; omega) (je_mod (by decide) (je_intI T.z_int (je_fdiv ⟨by decide, by decide⟩ (je_var 4 rfl) je_int)) je_int))) ?_
      rw [List.range_succ, List.map_append, List.map_append, e2]
      have e3 : rowV c k = (mixS c k * 16807 + 271 * (0 + (k : Nat) + 3)) % 2147483629 / 7 % 1009 := e1
      show Le [_, _, S.own (_ ++ [PyData.int ((mixS c k * 16807 + 271 * (0 + (k : Nat) + 3)) % 2147483629 / 7 % 1009)]), _, _, _] _
      rw [← e3]
      exact .keep (.keep (.keep (.keep (.keep (.drop .nil)))))
  · rw [rngD_len, em]
    exact jss_one (js_retOwn 2 rfl)

def R_law_numbers : List D → Out → Prop := fun ds o => ∃ (cs : List Int) (m : Nat), ds = [li cs, .int m] ∧ cs.length ≤ 63 ∧ m ≤ 800 ∧ o = .v (li (lawNums cs m))
theorem c_law_numbers : Cal P w K mg base 2 "_law_numbers" ["script", "many"] R_law_numbers := by
  have CR : Cal P w K mg base 1 "_law_row" ["cell", "many"] R_law_row := c_law_row T
  refine cal_mk T.fn_law_numbers sc_law_numbers (fun ds o ⟨c, m, h, _⟩ => by subst h; rfl) fun f cdv A outer s H E F ds o hr tk pn ⟨cs, m, hd, hcs, hm, ho⟩ => ?_
  subst hd ho
  let ech : Nat := 1 + m / (max 1 cs.length)
  have hech : ech ≤ 801 := by
    have := Nat.div_le_self m (max 1 cs.length)
    show 1 + _ ≤ _
    omega
  let row : Int → List Int := fun c => lawRow c ech
  have hrow : ∀ c, (row c).length = ech := fun c => by show (lawRow c ech).length = ech; unfold lawRow; simp
  let flat : Nat → List Int := fun k => (cs.take k).flatMap row
  have hflat : ∀ k, (flat k).length ≤ k * ech := fun k => by
    show ((cs.take k).flatMap row).length ≤ _
    rw [List.length_flatMap]
    have : ∀ l : List Int, (l.map fun c => (row c).length).sum = l.length * ech := fun l => by
      induction l with
      | nil => simp
      | cons x l ih => rw [List.map_cons, List.sum_cons, ih, hrow, List.length_cons, Nat.succ_mul]; omega
    rw [this, List.length_take]
    exact Nat.mul_le_mul_right _ (Nat.min_le_left _ _)
  refine ⟨.rto ((lawNums cs m).map .int), ?_, rfl⟩
  -- cells = script[:63]
  have e0 : cutD (cs.map PyData.int) none (some 63) = cs.map .int := by
    unfold cutD
    have h1 : HT.sIx (cs.map PyData.int).length 0 none = 0 := rfl
    rw [h1, List.drop_zero, Nat.sub_zero]
    refine List.take_of_length_le ?_
    rw [List.length_map]
    show cs.length ≤ HT.sIx cs.length cs.length (some 63)
    unfold HT.sIx
    simp
    omega
  refine jss_cons (js_setO 2 sc_law_numbers.nd (je_slL (je_var 0 rfl) jo_none (jo_some je_int))) ?_
  refine jss_frz 2 rfl ?_
  -- each = 1 + many // max(1, len(cells))
  have e1 : (1 : Int) + (m : Int) / (if ((cs.map PyData.int).length : Int) > 1 then ((cs.map PyData.int).length : Int) else 1) = (ech : Int) := by
    rw [List.length_map]
    show _ = (((1 + m / (max 1 cs.length) : Nat)) : Int)
    have e2 : (if (cs.length : Int) > 1 then (cs.length : Int) else 1) = ((max 1 cs.length : Nat) : Int) := by split <;> omega
    rw [e2]
    omega
  refine jss_cons (js_set 3 sc_law_numbers.nd (je_is (je_add je_int (je_fdiv (j := (if ((cs.map PyData.int).length : Int) > 1 then ((cs.map PyData.int).length : Int) else 1)) (by rw [List.length_map]; constructor <;> (split <;> omega)) (je_var 1 rfl) (je_max2 rfl T.z_max je_int (je_lenL T.z_len (je_is (je_var 2 rfl) (by rw [e0])))))) (by rw [e1]))) ?_
  refine jss_cons (js_setO 4 sc_law_numbers.nd (je_lst ja_nil)) ?_
  -- for cell in cells: for number in _law_row(cell, each): numbers.append(number)
  refine jss_cons (js_is (js_forAll (fun k => [.d (li cs), .d (.int m), .d (li cs), .d (.int ech), .own ((flat k).map .int), .u, .u])
    (fun k => [.d (li cs), .d (.int m), .d (li cs), .d (.int ech), .own ((flat k).map .int), .d (((cs.map PyData.int)[k]?).getD .none), .u])
    pn rfl (ji_list (je_is (je_var 2 rfl) (by rw [e0]))) (jg_name 5 sc_law_numbers.nd) ?_ (fun k d e => by rw [e]; rfl) fun k d e => ?_) rfl) ?_
  · show Le ([.d (li cs), .d (.int m), .d (.list (cutD (cs.map PyData.int) none (some 63))), .d (.int ech), .own [], .u, .u]) _
    rw [e0]
    exact .keep (.keep (.keep (.keep (.keep (.keep (.keep .nil))))))
  · rw [e]
    have hk := (List.getElem?_eq_some_iff.mp e).1
    rw [List.length_map] at hk
    obtain ⟨c, hc, hdc⟩ : ∃ c, cs[k]? = some c ∧ PyData.int c = d := by
      rw [List.getElem?_map, List.getElem?_eq_getElem hk] at e
      exact ⟨cs[k], List.getElem?_eq_getElem hk, Option.some.inj e⟩
    subst hdc
    have hfk := hflat k
    have hbnd : k * ech ≤ 62 * 801 := Nat.mul_le_mul (by omega) hech
    refine jss_nx (jss_one (js_forAll (fun j => [.d (li cs), .d (.int m), .d (li cs), .d (.int ech), .own ((flat k ++ (row c).take j).map .int), .d (.int c), .u])
      (fun j => [.d (li cs), .d (.int m), .d (li cs), .d (.int ech), .own ((flat k ++ (row c).take j).map .int), .d (.int c), .d ((((row c).map PyData.int)[j]?).getD .none)])
      pn rfl (ji_list (je_o2v (je_callC CR ⟨c, ech, rfl, by omega, rfl⟩ (hr.mono (by decide)) takes0 (ja_cons (je_var 5 rfl) (ja_cons (je_var 3 rfl) ja_nil))))) (jg_name 6 sc_law_numbers.nd) ?_ (fun j d e => by rw [e]; rfl) fun j d e => ?_)) ?_
    · show Le ([_, _, _, _, .own ((flat k).map .int), _, _]) ([_, _, _, _, .own ((flat k ++ (row c).take 0).map .int), _, _])
      rw [List.take_zero, List.append_nil]
      exact .keep (.keep (.keep (.keep (.keep (.keep (.keep .nil))))))
    · have e' : ((row c).map PyData.int)[j]? = some d := e
      rw [e']
      have hj := (List.getElem?_eq_some_iff.mp e').1
      rw [List.length_map, hrow] at hj
      have ht : (row c).take (j + 1) = (row c).take j ++ [(row c)[j]'(by rw [hrow]; exact hj)] := by rw [List.take_succ, List.getElem?_eq_getElem (by rw [hrow]; exact hj)]; rfl
      have hd : d = .int ((row c)[j]'(by rw [hrow]; exact hj)) := by
        rw [List.getElem?_map, List.getElem?_eq_getElem (by rw [hrow]; exact hj)] at e'
        exact (Option.some.inj e').symm
      subst hd
      refine jss_nx (jss_one (js_append 4 rfl ?_ (je_var 6 rfl))) ?_
      · rw [List.length_map, List.length_append, List.length_take, hrow]
        omega
      · show Le [_, _, _, _, .own ((flat k ++ (row c).take j).map .int ++ [PyData.int _]), _, _] [_, _, _, _, .own ((flat k ++ (row c).take (j + 1)).map .int), _, _]
        rw [ht, ← List.append_assoc, List.map_append (l₂ := [_])]
        exact .keep (.keep (.keep (.keep (.keep (.keep (.drop .nil))))))
    · have hl : ((lawRow c ech).map PyData.int).length = (row c).length := by rw [List.length_map]
      show Le [_, _, _, _, .own ((flat k ++ (row c).take ((lawRow c ech).map PyData.int).length).map .int), _, _] [_, _, _, _, .own ((flat (k + 1)).map .int), _, _]
      have hf : flat (k + 1) = flat k ++ row c := by
        show (cs.take (k + 1)).flatMap row = (cs.take k).flatMap row ++ row c
        rw [List.take_succ, hc, List.flatMap_append]
        simp
      rw [hl, List.take_length, hf]
      exact .keep (.keep (.keep (.keep (.keep (.drop (.keep .nil))))))
  -- while len(numbers) < many: numbers.append(0)
  have hlen : (cs.map PyData.int).length = cs.length := List.length_map ..
  rw [hlen]
  have hfl := hflat cs.length
  have hb2 : cs.length * ech ≤ 63 * 801 := Nat.mul_le_mul hcs hech
  refine jss_cons (js_while (fun k => [.d (li cs), .d (.int m), .d (li cs), .d (.int ech), .own ((flat cs.length ++ List.replicate k 0).map .int), .u, .u]) (m - (flat cs.length).length) pn ?_ (fun k hk => ?_) (fun k hk => ?_) ?_) ?_
  · show Le _ [_, _, _, _, .own ((flat cs.length ++ List.replicate 0 0).map .int), _, _]
    rw [List.replicate_zero, List.append_nil]
    exact Le.refl _
  · refine jt_is (jt_lt (je_own_len 4 rfl T.z_len) (je_var 1 rfl)) (decide_eq_true ?_)
    simp
    omega
  · refine jss_nx (jss_one (js_append 4 rfl ?_ je_int)) ?_
    · simp
      omega
    · show Le [_, _, _, _, .own ((flat cs.length ++ List.replicate k 0).map .int ++ [PyData.int 0]), _, _] [_, _, _, _, .own ((flat cs.length ++ List.replicate (k + 1) 0).map .int), _, _]
      rw [List.replicate_succ', ← List.append_assoc, List.map_append (l₂ := [_])]
      exact Le.refl _
  · refine jt_is (jt_lt (je_own_len 4 rfl T.z_len) (je_var 1 rfl)) (decide_eq_false ?_)
    simp
    omega
  refine jss_is (jss_one (js_retO (je_own_sl 4 rfl jo_none (jo_some (je_var 1 rfl))))) ?_
  have hcut : ∀ l : List Int, m ≤ l.length → cutD (l.map PyData.int) none (some (m : Int)) = (l.take m).map .int := fun l hl => by
    unfold cutD
    have h1 : HT.sIx (l.map PyData.int).length 0 none = 0 := rfl
    rw [h1, List.drop_zero, Nat.sub_zero, ← List.map_take]
    congr 1
    congr 1
    rw [List.length_map]
    unfold HT.sIx
    simp
    split <;> omega
  rw [hcut _ (by simp; omega)]
  have hfin : (flat cs.length ++ List.replicate (m - (flat cs.length).length) 0).take m = lawNums cs m := by
    show _ = ((cs.flatMap row) ++ List.replicate m 0).take m
    have hf : flat cs.length = cs.flatMap row := by show (cs.take cs.length).flatMap row = _; rw [List.take_length]
    rw [hf, List.take_append, List.take_append, List.take_replicate, List.take_replicate]
    congr 2
    omega
  rw [hfin]

theorem c_is_number : Cal P w K mg base 1 "is_number" ["number"] R_is_number := by
  refine cal_mk T.fn_is_number sc_is_number (fun ds o ⟨d, ns, h, _⟩ => by subst h; rfl) fun f cdv A outer s H E F ds o hr tk pn ⟨d, ns, hd, sq, hl, ho⟩ => ?_
  subst hd ho
  refine ⟨.rt (.bool (isNum ns)), ?_, rfl⟩
  exact jss_one (js_ret (je_and (je_eqI (je_lenSeq sq T.z_len (je_var 0 rfl)) je_int) (fun _ => je_and1 (je_eqI (je_lenScI 1 rfl sc_is_number.nd T.z_len (ji_seq sq (je_var 0 rfl)) (blkOk_by (N := N_is_number) (sc := defScope s_is_number) (by decide +kernel)) hl (fun _ _ _ _ _ => pg_name (i := 1) sc_is_number.nd rfl (Or.inl rfl)) (fun k hk s H C cl fp => je_mod (by decide) (je_var 1 rfl) je_int)) je_int))))

theorem c_check_number : Cal P w K mg base 2 "check_number" ["number"] (R0 c_InvalidNumber) := by
  have CN : Cal P w K mg base 1 "is_number" ["number"] R_is_number := c_is_number T
  refine cal_mk T.fn_check_number sc_check_number (fun ds o ⟨d, ns, h, _⟩ => by subst h; rfl) fun f cdv A outer s H E F ds o hr tk pn ⟨d, ns, hd, sq, hl, ho⟩ => ?_
  subst hd ho
  cases hn : isNum ns with
  | true => exact ⟨_, jss_one (js_ifF (jt_is (jt_not (jt_val (je_callC CN ⟨d, ns, rfl, sq, hl, rfl⟩ (hr.mono (by decide)) takes0 (ja_cons (je_var 0 rfl) ja_nil)))) (by rw [hn]; rfl)) jss_nil), rfl⟩
  | false => exact ⟨_, jss_one (js_ifT (jt_is (jt_not (jt_val (je_callC CN ⟨d, ns, rfl, sq, hl, rfl⟩ (hr.mono (by decide)) takes0 (ja_cons (je_var 0 rfl) ja_nil)))) (by rw [hn]; rfl)) (jss_one (js_raise T.e_InvalidNumber rfl tk))), rfl⟩

def R_cnz (c q : Addr) : List D → Out → Prop := fun ds o => ∃ d ns, ds = [d] ∧ Seq d ns ∧ ns.length < 1000 ∧ o = if isNum ns = true then (if zeroB ns = true then .x q else .v .none) else .x c
theorem c_check_not_zero : Cal P w K mg base 3 "check_not_zero" ["number"] (R_cnz c_InvalidNumber c_InvalidQuestion) := by
  have CC : Cal P w K mg base 2 "check_number" ["number"] (R0 c_InvalidNumber) := c_check_number T
  refine cal_mk T.fn_check_not_zero sc_check_not_zero (fun ds o ⟨d, ns, h, _⟩ => by subst h; rfl) fun f cdv A outer s H E F ds o hr tk pn ⟨d, ns, hd, sq, hl, ho⟩ => ?_
  subst hd ho
  cases hn : isNum ns with
  | false => exact ⟨_, jss_stop (js_exprX (je_callC CC ⟨d, ns, rfl, sq, hl, by rw [hn]; rfl⟩ (hr.mono (by decide)) tk (ja_cons (je_var 0 rfl) ja_nil))) trivial, rfl⟩
  | true =>
    cases hz : zeroB ns with
    | true => exact ⟨_, jss_cons (js_expr (je_callC CC ⟨d, ns, rfl, sq, hl, by rw [hn]; rfl⟩ (hr.mono (by decide)) tk (ja_cons (je_var 0 rfl) ja_nil))) (jss_one (js_ifT (jt_is (jt_not (jt_val (je_anyS sq rfl T.z_any (je_var 0 rfl)))) hz) (jss_one (js_raise T.e_InvalidQuestion rfl tk)))), rfl⟩
    | false => exact ⟨_, jss_cons (js_expr (je_callC CC ⟨d, ns, rfl, sq, hl, by rw [hn]; rfl⟩ (hr.mono (by decide)) tk (ja_cons (je_var 0 rfl) ja_nil))) (jss_one (js_ifF (jt_is (jt_not (jt_val (je_anyS sq rfl T.z_any (je_var 0 rfl)))) hz) jss_nil)), rfl⟩

theorem cp_conjugate : Cal P w K mg base 1 "_conjugate" ["number"] (R4 fun ns => ti (conjL ns)) := by
  refine cal_mk T.fn_p_conjugate sc_p_conjugate (fun ds o ⟨d, ns, h, _⟩ => by subst h; rfl) fun f cdv A outer s H E F ds o hr tk pn ⟨d, ns, hd, sq, hl, hs, ho⟩ => ?_
  subst hd ho
  obtain ⟨x, y, z, t, rfl⟩ := four hl
  refine ⟨.rt (ti [x, -y, -z, -t]), ?_, rfl⟩
  refine jss_cons (js_asgSeq sq rfl (je_var 0 rfl) (jgs_cons (jg_name 1 sc_p_conjugate.nd) (jgs_cons (jg_name 2 sc_p_conjugate.nd) (jgs_cons (jg_name 3 sc_p_conjugate.nd) (jgs_cons (jg_name 4 sc_p_conjugate.nd) jgs_nil)))) rfl ⟨_, _, _, rfl, rfl, _, _, _, rfl, rfl, _, _, _, rfl, rfl, _, _, _, rfl, rfl, rfl, rfl⟩) ?_
  exact jss_one (js_ret (je_tup (ja_cons (je_var 1 rfl) (ja_cons (je_neg (je_var 2 rfl)) (ja_cons (je_neg (je_var 3 rfl)) (ja_cons (je_neg (je_var 4 rfl)) ja_nil)))) (by show 4 ≤ 100000; decide)))

theorem c_conjugate : Cal P w K mg base 3 "conjugate" ["number"] (R1 c_InvalidNumber fun ns => ti (conjL ns)) := by
  have CC : Cal P w K mg base 2 "check_number" ["number"] (R0 c_InvalidNumber) := c_check_number T
  have CJ : Cal P w K mg base 1 "_conjugate" ["number"] (R4 fun ns => ti (conjL ns)) := cp_conjugate T
  refine cal_mk T.fn_conjugate sc_conjugate (fun ds o ⟨d, ns, h, _⟩ => by subst h; rfl) fun f cdv A outer s H E F ds o hr tk pn ⟨d, ns, hd, sq, hl, hs, ho⟩ => ?_
  subst hd ho
  cases hn : isNum ns with
  | false => exact ⟨_, jss_stop (js_exprX (je_callC CC ⟨d, ns, rfl, sq, hl, by rw [hn]; rfl⟩ (hr.mono (by decide)) tk (ja_cons (je_var 0 rfl) ja_nil))) trivial, rfl⟩
  | true => exact ⟨_, jss_cons (js_expr (je_callC CC ⟨d, ns, rfl, sq, hl, by rw [hn]; rfl⟩ (hr.mono (by decide)) tk (ja_cons (je_var 0 rfl) ja_nil))) (jss_one (js_ret (je_callC CJ ⟨d, ns, rfl, sq, num_len hn, hs, rfl⟩ (hr.mono (by decide)) tk (ja_cons (je_var 0 rfl) ja_nil)))), rfl⟩

theorem cp_product : Cal P w K mg base 1 "_product" ["one", "other"] (R44 fun ns ms => ti (mulL ns ms)) := by
  refine cal_mk T.fn_p_product sc_p_product (fun ds o ⟨d, e, ns, ms, h, _⟩ => by subst h; rfl) fun f cdv A outer s H E F ds o hr tk pn ⟨d, e, ns, ms, hd, sq, sq2, hl, hl2, hs, hs2, ho⟩ => ?_
  subst hd ho
  obtain ⟨x0, x1, x2, x3, rfl⟩ := four hl
  obtain ⟨y0, y1, y2, y3, rfl⟩ := four hl2
  have hx : ∀ i : Nat, Bt 400000 (([x0, x1, x2, x3] : List Int).getD i 0) := fun i => by
    rw [List.getD_eq_getElem?_getD]
    cases q : ([x0, x1, x2, x3] : List Int)[i]? with
    | none => exact Bt.mono Bt.zero (by decide)
    | some x => exact hs x (List.mem_of_getElem? q)
  have hy : ∀ i : Nat, Bt 400000 (([y0, y1, y2, y3] : List Int).getD i 0) := fun i => by
    rw [List.getD_eq_getElem?_getD]
    cases q : ([y0, y1, y2, y3] : List Int)[i]? with
    | none => exact Bt.mono Bt.zero (by decide)
    | some x => exact hs2 x (List.mem_of_getElem? q)
  refine ⟨.rt (ti (mulL [x0, x1, x2, x3] [y0, y1, y2, y3])), ?_, rfl⟩
  refine jss_cons (js_asgSeq sq rfl (je_var 0 rfl) (jgs_cons (jg_name 2 sc_p_product.nd) (jgs_cons (jg_name 3 sc_p_product.nd) (jgs_cons (jg_name 4 sc_p_product.nd) (jgs_cons (jg_name 5 sc_p_product.nd) jgs_nil)))) rfl ⟨_, _, _, rfl, rfl, _, _, _, rfl, rfl, _, _, _, rfl, rfl, _, _, _, rfl, rfl, rfl, rfl⟩) ?_
  refine jss_cons (js_asgSeq sq2 rfl (je_var 1 rfl) (jgs_cons (jg_name 6 sc_p_product.nd) (jgs_cons (jg_name 7 sc_p_product.nd) (jgs_cons (jg_name 8 sc_p_product.nd) (jgs_cons (jg_name 9 sc_p_product.nd) jgs_nil)))) rfl ⟨_, _, _, rfl, rfl, _, _, _, rfl, rfl, _, _, _, rfl, rfl, _, _, _, rfl, rfl, rfl, rfl⟩) ?_
  exact jss_one (js_ret (je_tup (ja_cons (je_fdiv ⟨by decide, by decide⟩ (je_sub (je_sub (je_sub (je_mulW (cm (hx 0) (hy 0)) (je_var 2 rfl) (je_var 6 rfl)) (je_mulW (cm (hx 1) (hy 1)) (je_var 3 rfl) (je_var 7 rfl))) (je_mulW (cm (hx 2) (hy 2)) (je_var 4 rfl) (je_var 8 rfl))) (je_mulW (cm (hx 3) (hy 3)) (je_var 5 rfl) (je_var 9 rfl))) je_int) (ja_cons (je_fdiv ⟨by decide, by decide⟩ (je_sub (je_add (je_add (je_mulW (cm (hx 0) (hy 1)) (je_var 2 rfl) (je_var 7 rfl)) (je_mulW (cm (hx 1) (hy 0)) (je_var 3 rfl) (je_var 6 rfl))) (je_mulW (cm (hx 2) (hy 3)) (je_var 4 rfl) (je_var 9 rfl))) (je_mulW (cm (hx 3) (hy 2)) (je_var 5 rfl) (je_var 8 rfl))) je_int) (ja_cons (je_fdiv ⟨by decide, by decide⟩ (je_add (je_add (je_sub (je_mulW (cm (hx 0) (hy 2)) (je_var 2 rfl) (je_var 8 rfl)) (je_mulW (cm (hx 1) (hy 3)) (je_var 3 rfl) (je_var 9 rfl))) (je_mulW (cm (hx 2) (hy 0)) (je_var 4 rfl) (je_var 6 rfl))) (je_mulW (cm (hx 3) (hy 1)) (je_var 5 rfl) (je_var 7 rfl))) je_int) (ja_cons (je_fdiv ⟨by decide, by decide⟩ (je_add (je_sub (je_add (je_mulW (cm (hx 0) (hy 3)) (je_var 2 rfl) (je_var 9 rfl)) (je_mulW (cm (hx 1) (hy 2)) (je_var 3 rfl) (je_var 8 rfl))) (je_mulW (cm (hx 2) (hy 1)) (je_var 4 rfl) (je_var 7 rfl))) (je_mulW (cm (hx 3) (hy 0)) (je_var 5 rfl) (je_var 6 rfl))) je_int) ja_nil)))) (by show 4 ≤ 100000; decide)))

theorem c_law_units : Cal P w K mg base 1 "_law_units" [] R_lunits := by
  refine cal_mk T.fn_law_units sc_law_units (fun ds o ⟨h, _⟩ => by subst h; rfl) fun f cdv A outer s H E F ds o hr tk pn ⟨hd, ho⟩ => ?_
  subst hd ho
  refine ⟨.rto (lunits.map ti), ?_, rfl⟩
  refine jss_cons (js_setO 0 sc_law_units.nd (je_lst ja_nil)) ?_
  refine jss_cons (js_is (js_forAll (ds := signsL.map PyData.int) (fun i => [.own (((signsL.take i).flatMap lu1).map ti), .u, .u, .u, .u, .u, .u]) (fun i => [.own (((signsL.take i).flatMap lu1).map ti), .d (((signsL.map PyData.int)[i]?).getD .none), .u, .u, .u, .u, .u]) pn rfl (ji_list (je_is (je_o2v (je_lst (ja_cons (je_neg je_int) (ja_cons je_int ja_nil)))) rfl)) (jg_name 1 sc_law_units.nd) (Le.refl _) (fun i d e => by rw [e]; rfl) fun i d e => ?_) rfl) ?_
  · rw [e]
    obtain ⟨a, ea, rfl⟩ := signs_get e
    have l1 := lu1_len i
    refine jss_nx (jss_one (js_is (js_forAll (ds := signsL.map PyData.int) (fun j => [.own (((signsL.take i).flatMap lu1 ++ (signsL.take j).flatMap (lu2 a)).map ti), .d (.int a), .u, .u, .u, .u, .u]) (fun j => [.own (((signsL.take i).flatMap lu1 ++ (signsL.take j).flatMap (lu2 a)).map ti), .d (.int a), .d (((signsL.map PyData.int)[j]?).getD .none), .u, .u, .u, .u]) pn rfl (ji_list (je_is (je_o2v (je_lst (ja_cons (je_neg je_int) (ja_cons je_int ja_nil)))) rfl)) (jg_name 2 sc_law_units.nd) (by show Le [.own (((signsL.take i).flatMap lu1).map ti), _, _, _, _, _, _] [.own (((signsL.take i).flatMap lu1 ++ []).map ti), _, _, _, _, _, _]; rw [List.append_nil]; exact Le.refl _) (fun i d e => by rw [e]; rfl) fun j d e2 => ?_) rfl)) ?_
    · rw [e2]
      obtain ⟨b, eb, rfl⟩ := signs_get e2
      have l2 := lu2_len a j
      refine jss_nx (jss_one (js_is (js_forAll (ds := signsL.map PyData.int) (fun k => [.own (((signsL.take i).flatMap lu1 ++ (signsL.take j).flatMap (lu2 a) ++ (signsL.take k).flatMap (lu3 a b)).map ti), .d (.int a), .d (.int b), .u, .u, .u, .u]) (fun k => [.own (((signsL.take i).flatMap lu1 ++ (signsL.take j).flatMap (lu2 a) ++ (signsL.take k).flatMap (lu3 a b)).map ti), .d (.int a), .d (.int b), .d (((signsL.map PyData.int)[k]?).getD .none), .u, .u, .u]) pn rfl (ji_list (je_is (je_o2v (je_lst (ja_cons (je_neg je_int) (ja_cons je_int ja_nil)))) rfl)) (jg_name 3 sc_law_units.nd) (by show Le [.own (((signsL.take i).flatMap lu1 ++ (signsL.take j).flatMap (lu2 a)).map ti), _, _, _, _, _, _] [.own (((signsL.take i).flatMap lu1 ++ (signsL.take j).flatMap (lu2 a) ++ []).map ti), _, _, _, _, _, _]; rw [List.append_nil]; exact Le.refl _) (fun i d e => by rw [e]; rfl) fun k d e3 => ?_) rfl)) ?_
      · rw [e3]
        obtain ⟨c, ec, rfl⟩ := signs_get e3
        have l3 := lu_len a b k
        refine jss_nx (jss_one (js_setO 0 sc_law_units.nd (je_own_cat 0 rfl (by rw [List.length_map, List.length_append, List.length_append]; show _ + 2 ≤ 100000; omega) (je_lst (ja_cons (je_tup (ja_cons (je_var 1 rfl) (ja_cons (je_var 2 rfl) (ja_cons (je_var 3 rfl) (ja_cons (je_neg je_int) ja_nil))))) (ja_cons (je_tup (ja_cons (je_var 1 rfl) (ja_cons (je_var 2 rfl) (ja_cons (je_var 3 rfl) (ja_cons je_int ja_nil))))) ja_nil)))))) ?_
        show Le [.own (((signsL.take i).flatMap lu1 ++ (signsL.take j).flatMap (lu2 a) ++ (signsL.take k).flatMap (lu3 a b)).map ti ++ (lu3 a b c).map ti), _, _, _, _, _, _] [.own (((signsL.take i).flatMap lu1 ++ (signsL.take j).flatMap (lu2 a) ++ (signsL.take (k + 1)).flatMap (lu3 a b)).map ti), _, _, _, _, _, _]
        rw [take_fm ec, ← List.append_assoc, ← List.map_append]
        exact .keep (.keep (.keep (.drop (.keep (.keep (.keep .nil))))))
      · show Le [.own (((signsL.take i).flatMap lu1 ++ (signsL.take j).flatMap (lu2 a) ++ lu2 a b).map ti), _, _, _, _, _, _] [.own (((signsL.take i).flatMap lu1 ++ (signsL.take (j + 1)).flatMap (lu2 a)).map ti), _, _, _, _, _, _]
        rw [take_fm eb, List.append_assoc]
        exact .keep (.keep (.drop (.keep (.keep (.keep (.keep .nil))))))
    · show Le [.own (((signsL.take i).flatMap lu1 ++ lu1 a).map ti), _, _, _, _, _, _] [.own (((signsL.take (i + 1)).flatMap lu1).map ti), _, _, _, _, _, _]
      rw [take_fm ea]
      exact .keep (.drop (.keep (.keep (.keep (.keep (.keep .nil))))))
  refine jss_cons (js_is (js_forAll (fun k => [.own ((signsL.flatMap lu1 ++ (List.range k).flatMap lx).map ti), .u, .u, .u, .u, .u, .u]) (fun k => [.own ((signsL.flatMap lu1 ++ (List.range k).flatMap lx).map ti), .u, .u, .u, .d (.int (0 + (k : Nat))), .u, .u]) pn rfl (ji_range1 T.z_range (by decide) (by decide) je_int) (jg_name 4 sc_law_units.nd) (by show Le [.own ((signsL.flatMap lu1).map ti), _, _, _, _, _, _] [.own ((signsL.flatMap lu1 ++ []).map ti), _, _, _, _, _, _]; rw [List.append_nil]; exact Le.refl _) (fun k d e => by
      obtain ⟨_, rfl⟩ := rngD_get e
      rfl) fun k d e => ?_) rfl) ?_
  · obtain ⟨hk, _⟩ := rngD_get e
    have hk' : k < 4 := hk
    have l1 := lu1_len 2
    have l2 := lx_len k (by omega)
    have l1' : (signsL.flatMap lu1).length ≤ 16 := l1
    refine jss_nx (jss_one (js_is (js_forAll (ds := twosL.map PyData.int) (fun j => [.own ((signsL.flatMap lu1 ++ (List.range k).flatMap lx ++ (twosL.take j).map (axP k)).map ti), .u, .u, .u, .d (.int (0 + (k : Nat))), .u, .u]) (fun j => [.own ((signsL.flatMap lu1 ++ (List.range k).flatMap lx ++ (twosL.take j).map (axP k)).map ti), .u, .u, .u, .d (.int (0 + (k : Nat))), .d (((twosL.map PyData.int)[j]?).getD .none), .u]) pn rfl (ji_list (je_is (je_o2v (je_lst (ja_cons (je_neg je_int) (ja_cons je_int ja_nil)))) rfl)) (jg_name 5 sc_law_units.nd) (by show Le [.own ((signsL.flatMap lu1 ++ (List.range k).flatMap lx).map ti), _, _, _, _, _, _] [.own ((signsL.flatMap lu1 ++ (List.range k).flatMap lx ++ []).map ti), _, _, _, _, _, _]; rw [List.append_nil]; exact Le.refl _) (fun i d e => by rw [e]; rfl) fun j d e2 => ?_) rfl)) ?_
    · rw [e2]
      obtain ⟨p, ep, rfl⟩ := twos_get e2
      have hp : -2 ≤ p ∧ p ≤ 2 := (by decide : ∀ z ∈ twosL, -2 ≤ z ∧ z ≤ 2) p (List.mem_of_getElem? ep)
      refine jss_nx (jss_one (js_append 0 rfl (by rw [List.length_map, List.length_append, List.length_append, List.length_map, List.length_take]; show _ + min j 2 < 100000; omega) (je_tupL T.z_tuple (je_is (je_o2v (je_lcR (m := 4) 6 rfl sc_law_units.nd (ji_range1 T.z_range (by decide) (by decide) je_int) (blkOk_by (N := N_law_units) (sc := defScope s_law_units) (by decide +kernel)) (by decide) (fun _ _ _ _ _ => pg_name (i := 6) sc_law_units.nd rfl (Or.inl rfl)) (f := fun j => .int (p * (if decide ((0 : Int) + (j : Nat) = 0 + (k : Nat)) = true then 1 else 0))) (fun j hj s H C cl fp => je_mul (.inl ⟨by omega, by omega⟩) (je_var 5 rfl) (je_intB T.z_int (je_eqI (je_var 6 rfl) (je_var 4 rfl)))))) (show _ = Out.v (PyData.list ((axP k p).map PyData.int)) from congrArg (fun l => Out.v (PyData.list l)) (axP_eq hk' p)))))) ?_
      show Le [.own ((signsL.flatMap lu1 ++ (List.range k).flatMap lx ++ (twosL.take j).map (axP k)).map ti ++ [ti (axP k p)]), _, _, _, _, _, _] [.own ((signsL.flatMap lu1 ++ (List.range k).flatMap lx ++ (twosL.take (j + 1)).map (axP k)).map ti), _, _, _, _, _, _]
      rw [take_mp ep, ← List.append_assoc, List.map_append (l₂ := [_])]
      exact .keep (.keep (.keep (.keep (.keep (.drop (.keep .nil))))))
    · show Le [.own ((signsL.flatMap lu1 ++ (List.range k).flatMap lx ++ lx k).map ti), _, _, _, _, _, _] [.own ((signsL.flatMap lu1 ++ (List.range (k + 1)).flatMap lx).map ti), _, _, _, _, _, _]
      rw [List.range_succ, List.flatMap_append, List.append_assoc]
      simp only [List.flatMap_cons, List.flatMap_nil, List.append_nil]
      exact .keep (.keep (.keep (.keep (.drop (.keep (.keep .nil))))))
  exact jss_one (js_retOwn 0 rfl)
theorem c_law_product : Cal P w K mg base 1 "_law_product" ["one", "other"] R_law_times := by
  refine cal_mk T.fn_law_product sc_law_product (fun ds o ⟨ns, ms, h, _⟩ => by subst h; rfl) fun f cdv A outer s H E F ds o hr tk pn ⟨ns, ms, hd, hl, hl2, hs, hs2, ho⟩ => ?_
  subst hd ho
  obtain ⟨x0, x1, x2, x3, rfl⟩ := four hl
  obtain ⟨y0, y1, y2, y3, rfl⟩ := four hl2
  have bx0 : Bt 400000 x0 := hs _ (by simp)
  have bx1 : Bt 400000 x1 := hs _ (by simp)
  have bx2 : Bt 400000 x2 := hs _ (by simp)
  have bx3 : Bt 400000 x3 := hs _ (by simp)
  have by0 : Bt 400000 y0 := hs2 _ (by simp)
  have by1 : Bt 400000 y1 := hs2 _ (by simp)
  have by2 : Bt 400000 y2 := hs2 _ (by simp)
  have by3 : Bt 400000 y3 := hs2 _ (by simp)
  refine ⟨.rt (ti (mulL [x0, x1, x2, x3] [y0, y1, y2, y3])), ?_, rfl⟩
  refine jss_norm (Γ2 := [.d (ti [x0, x1, x2, x3]), .d (ti [y0, y1, y2, y3]), .u, .u, .u, .u, .u, .u, .u, .u, .u, .u, .u, .u]) rfl ?_
  refine jss_consN (js_asg (je_var 0 rfl) (jg_tup rfl (jgs_cons (jg_name 2 sc_law_product.nd) (jgs_cons (jg_name 3 sc_law_product.nd) (jgs_cons (jg_name 4 sc_law_product.nd) (jgs_cons (jg_name 5 sc_law_product.nd) jgs_nil))))) ⟨_, rfl, rfl, ⟨_, _, _, rfl, rfl, ⟨_, _, _, rfl, rfl, ⟨_, _, _, rfl, rfl, ⟨_, _, _, rfl, rfl, ⟨rfl, rfl⟩⟩⟩⟩⟩⟩) (by dsimp only [List.set_cons_zero, List.set_cons_succ]) ?_
  refine jss_consN (js_asg (je_var 1 rfl) (jg_tup rfl (jgs_cons (jg_name 6 sc_law_product.nd) (jgs_cons (jg_name 7 sc_law_product.nd) (jgs_cons (jg_name 8 sc_law_product.nd) (jgs_cons (jg_name 9 sc_law_product.nd) jgs_nil))))) ⟨_, rfl, rfl, ⟨_, _, _, rfl, rfl, ⟨_, _, _, rfl, rfl, ⟨_, _, _, rfl, rfl, ⟨_, _, _, rfl, rfl, ⟨rfl, rfl⟩⟩⟩⟩⟩⟩) (by dsimp only [List.set_cons_zero, List.set_cons_succ]) ?_
  refine jss_consN (js_set 10 sc_law_product.nd (je_sub (je_sub (je_sub (je_mulW (cm bx0 by0) (je_var 2 rfl) (je_var 6 rfl)) (je_mulW (cm bx1 by1) (je_var 3 rfl) (je_var 7 rfl))) (je_mulW (cm bx2 by2) (je_var 4 rfl) (je_var 8 rfl))) (je_mulW (cm bx3 by3) (je_var 5 rfl) (je_var 9 rfl)))) (by dsimp only [List.set_cons_zero, List.set_cons_succ]) ?_
  refine jss_consN (js_set 11 sc_law_product.nd (je_sub (je_add (je_add (je_mulW (cm bx0 by1) (je_var 2 rfl) (je_var 7 rfl)) (je_mulW (cm bx1 by0) (je_var 3 rfl) (je_var 6 rfl))) (je_mulW (cm bx2 by3) (je_var 4 rfl) (je_var 9 rfl))) (je_mulW (cm bx3 by2) (je_var 5 rfl) (je_var 8 rfl)))) (by dsimp only [List.set_cons_zero, List.set_cons_succ]) ?_
  refine jss_consN (js_set 12 sc_law_product.nd (je_add (je_add (je_sub (je_mulW (cm bx0 by2) (je_var 2 rfl) (je_var 8 rfl)) (je_mulW (cm bx1 by3) (je_var 3 rfl) (je_var 9 rfl))) (je_mulW (cm bx2 by0) (je_var 4 rfl) (je_var 6 rfl))) (je_mulW (cm bx3 by1) (je_var 5 rfl) (je_var 7 rfl)))) (by dsimp only [List.set_cons_zero, List.set_cons_succ]) ?_
  refine jss_consN (js_set 13 sc_law_product.nd (je_add (je_sub (je_add (je_mulW (cm bx0 by3) (je_var 2 rfl) (je_var 9 rfl)) (je_mulW (cm bx1 by2) (je_var 3 rfl) (je_var 8 rfl))) (je_mulW (cm bx2 by1) (je_var 4 rfl) (je_var 7 rfl))) (je_mulW (cm bx3 by0) (je_var 5 rfl) (je_var 6 rfl)))) (by dsimp only [List.set_cons_zero, List.set_cons_succ]) ?_
  exact jss_one (js_ret (je_is (je_is (je_tup (ja_cons (je_fdiv ⟨by decide, by decide⟩ (je_var 10 rfl) je_int) (ja_cons (je_fdiv ⟨by decide, by decide⟩ (je_var 11 rfl) je_int) (ja_cons (je_fdiv ⟨by decide, by decide⟩ (je_var 12 rfl) je_int) (ja_cons (je_fdiv ⟨by decide, by decide⟩ (je_var 13 rfl) je_int) ja_nil))))) rfl : JE _ _ _ _ _ _ (.v (ti [_, _, _, _]))) rfl))

theorem c_law_turned : Cal P w K mg base 1 "_law_turned" ["number"] R_law_turned := by
  refine cal_mk T.fn_law_turned sc_law_turned (fun ds o ⟨ns, h, _⟩ => by subst h; rfl) fun f cdv A outer s H E F ds o hr tk pn ⟨ns, hd, hl, ho⟩ => ?_
  subst hd ho
  obtain ⟨x, y, z, t, rfl⟩ := four hl
  refine ⟨.rt (ti [x, -y, -z, -t]), ?_, rfl⟩
  exact jss_one (js_ret (je_tup (ja_cons (je_ixT (d := .int x) rfl (je_var 0 rfl) je_int) (ja_cons (je_neg (je_ixT (d := .int y) rfl (je_var 0 rfl) je_int)) (ja_cons (je_neg (je_ixT (d := .int z) rfl (je_var 0 rfl) je_int)) (ja_cons (je_neg (je_ixT (d := .int t) rfl (je_var 0 rfl) je_int)) ja_nil))))))

theorem c_law_greatest : Cal P w K mg base 2 "_law_greatest" ["number"] R_law_greatest := by
  have CU : Cal P w K mg base 1 "_law_units" [] R_lunits := c_law_units T
  have CP : Cal P w K mg base 1 "_law_product" ["one", "other"] R_law_times := c_law_product T
  refine cal_mk T.fn_law_greatest sc_law_greatest (fun ds o ⟨ns, h, _⟩ => by subst h; rfl) fun f cdv A outer s H E F ds o hr tk pn ⟨ns, hd, hn, hs, ho⟩ => ?_
  subst hd ho
  have al : PySem.W.AlikeAll (ti (mulL ns [-1, -1, -1, -1]) :: ((lunits.drop 1).map (mulL ns)).map ti) := alike_all_ti (mulL ns [-1, -1, -1, -1] :: (lunits.drop 1).map (mulL ns))
  have dp : PyData.depthAll (ti (mulL ns [-1, -1, -1, -1]) :: ((lunits.drop 1).map (mulL ns)).map ti) ≤ 60 := Nat.le_trans (dep_all (enc := ti) (n := 1) (fun x => Nat.le_of_eq (dep_ti x)) (mulL ns [-1, -1, -1, -1] :: (lunits.drop 1).map (mulL ns))) (by decide)
  exact ⟨.rt (ti (canonL ns)), jss_one (js_ret (je_is (je_maxDD rfl hr.units al dp T.z_max (je_is (je_o2v (je_lcT (xs := lunits) 1 rfl sc_law_greatest.nd (ji_list (je_o2v (je_callC0 CU ⟨rfl, rfl⟩ (hr.mono (by decide)) takes0 (by trivial)))) (blkOk_by (N := N_law_greatest) (sc := defScope s_law_greatest) (by decide +kernel)) (by decide) (fun _ _ _ _ _ => pg_name (i := 1) sc_law_greatest.nd rfl (Or.inl rfl)) (f := fun u => ti (mulL ns u)) (fun x hx s H C cl fp => je_callC CP ⟨ns, x, rfl, num_len hn, num_len (u_num (lunits_perm.mem_iff.mp hx)), hs.mono (by decide), (units_G x (lunits_perm.mem_iff.mp hx)).sm.mono (by decide), rfl⟩ (hr.mono (by decide)) (by first | exact takes0 | exact tk) (ja_cons (je_var 0 rfl) (ja_cons (je_var 1 rfl) ja_nil))))) rfl)) (by rw [max_canon2]))), rfl⟩

theorem cp_greatest_associate : Cal P w K mg base 2 "_greatest_associate" ["number"] R_ga := by
  have CM : Cal P w K mg base 1 "_product" ["one", "other"] (R44 fun ns ms => ti (mulL ns ms)) := cp_product T
  refine cal_mk T.fn_p_greatest_associate sc_p_greatest_associate (fun ds o ⟨d, ns, h, _⟩ => by subst h; rfl) fun f cdv A outer s H E F ds o hr tk pn ⟨d, ns, hd, sq, hn, hz, hs, ho⟩ => ?_
  subst hd ho
  obtain ⟨a, ha, hdp⟩ := T.g_UNITS
  refine ⟨.rt (pd (mulL ns) (leadU ns)), ?_, rfl⟩
  obtain ⟨x, y, z, t, rfl⟩ := four (num_len hn)
  refine jss_cons (js_asgSeq sq rfl (je_var 0 rfl) (jgs_cons (jg_name 1 sc_p_greatest_associate.nd) (jgs_cons (jg_name 2 sc_p_greatest_associate.nd) (jgs_cons (jg_name 3 sc_p_greatest_associate.nd) (jgs_cons (jg_name 4 sc_p_greatest_associate.nd) jgs_nil)))) rfl ⟨_, _, _, rfl, rfl, _, _, _, rfl, rfl, _, _, _, rfl, rfl, _, _, _, rfl, rfl, rfl, rfl⟩) ?_
  refine jss_cons (js_setLcA0 5 (xs := unitsL) (enc := ti) (f := fun u => .int (firstL [x, y, z, t] u)) (own := [("e", 6), ("f", 7), ("g", 8), ("h", 9)]) (.many [6, 7, 8, 9]) rfl sc_p_greatest_associate.nd (ji_tup (je_glob hdp ha rfl)) (blkOk_by (N := N_p_greatest_associate) (sc := defScope s_p_greatest_associate) (by decide +kernel)) (by decide) (fun u hu => fits_tup (by rw [List.length_map]; exact num_len (u_num hu))) (sw_true rfl rfl rfl (by decide +kernel)) (fun _ _ _ _ _ => pg_tup rfl (pgs_cons (pg_name (i := 6) sc_p_greatest_associate.nd rfl (Or.inl rfl)) (pgs_cons (pg_name (i := 7) sc_p_greatest_associate.nd rfl (Or.inl rfl)) (pgs_cons (pg_name (i := 8) sc_p_greatest_associate.nd rfl (Or.inl rfl)) (pgs_cons (pg_name (i := 9) sc_p_greatest_associate.nd rfl (Or.inl rfl)) pgs_nil))))) (fun u hu s H C cl fp => by
    obtain ⟨e, f, g, h, rfl⟩ := four (num_len (u_num hu))
    have su := (units_G _ hu).sm
    have b1 : e.natAbs < 2 ^ 10 := su e (by simp)
    have b2 : f.natAbs < 2 ^ 10 := su f (by simp)
    have b3 : g.natAbs < 2 ^ 10 := su g (by simp)
    have b4 : h.natAbs < 2 ^ 10 := su h (by simp)
    exact je_sub (je_sub (je_sub (je_mul (.inr (by omega)) (je_var 1 rfl) (je_var 6 rfl)) (je_mul (.inr (by omega)) (je_var 2 rfl) (je_var 7 rfl))) (je_mul (.inr (by omega)) (je_var 3 rfl) (je_var 8 rfl))) (je_mul (.inr (by omega)) (je_var 4 rfl) (je_var 9 rfl)))) ?_
  refine jss_frz 5 rfl ?_
  obtain ⟨M, hM, eM, hm⟩ := max_int ((unitsL.drop 1).map (firstL [x, y, z, t])) (firstL [x, y, z, t] [-2, 0, 0, 0])
  refine jss_cons (js_set 10 sc_p_greatest_associate.nd (je_is (je_maxDD rfl hr.units (alike_all_int (unitsL.map (firstL [x, y, z, t]))) (depth_all_int (unitsL.map (firstL [x, y, z, t]))) T.z_max (je_is (je_var 5 rfl) rfl)) (by exact congrArg Out.v eM))) ?_
  obtain ⟨v, vs, hfl, emx⟩ := max_first hn hz (M := M) hM hm
  have ez : ((unitsL.map ti).zip ((unitsL.map (firstL [x, y, z, t])).map PyData.int)).map TB.prD = unitsL.map fun u => .tuple [ti u, .int (firstL [x, y, z, t] u)] := by
    rw [List.map_map, zip_maps, List.map_map]
    rfl
  exact jss_one (js_ret (je_is (je_maxDD (d := pd (mulL [x, y, z, t]) v) (ds := vs.map (pd (mulL [x, y, z, t]))) rfl hr.units (alike_all_pd (mulL [x, y, z, t]) (v :: vs)) (Nat.le_trans (dep_all (enc := pd (mulL [x, y, z, t])) (n := 2) (dep_pd _) (v :: vs)) (by decide)) T.z_max
    (je_is (je_o2v (je_lcA (xs := unitsL) (enc := fun u => .tuple [ti u, .int (firstL [x, y, z, t] u)]) (f := pd (mulL [x, y, z, t])) (p := fun u => decide (firstL [x, y, z, t] u = M)) (own := [("unit", 11), ("first", 12)]) (.many [11, 12]) rfl sc_p_greatest_associate.nd
      (ji_is (ji_zipTL T.z_zip (je_glob hdp ha rfl) (je_var 5 rfl)) ez) (blkOk_by (N := N_p_greatest_associate) (sc := defScope s_p_greatest_associate) (by decide +kernel)) (by decide) (fun u hu => fits_tup rfl) (fun _ _ _ _ _ => pg_tup rfl (pgs_cons (pg_name (i := 11) sc_p_greatest_associate.nd rfl (Or.inl rfl)) (pgs_cons (pg_name (i := 12) sc_p_greatest_associate.nd rfl (Or.inl rfl)) pgs_nil))) (fun u hu s H C cl fp => jts_one (jt_eqI (je_var 12 rfl) (je_var 10 rfl))) (fun u hu _ s H C cl fp => je_is (je_tup (ja_cons (je_callC CM ⟨d, ti u, _, u, rfl, sq, .inl rfl, rfl, num_len (u_num hu), hs.mono (by decide), (units_G u hu).sm.mono (by decide), rfl⟩ (hr.mono (by decide)) (by first | exact takes0 | exact tk) (ja_cons (je_var 0 rfl) (ja_cons (je_var 11 rfl) ja_nil))) (ja_cons (je_var 11 rfl) ja_nil))) rfl)))
      (by rw [hfl]; rfl))) (by rw [emx])))

theorem c_canonical : Cal P w K mg base 4 "canonical" ["number"] (RZ c_InvalidNumber c_InvalidQuestion fun ns => .v (ti (canonL ns))) := by
  have CG : Cal P w K mg base 2 "_greatest_associate" ["number"] R_ga := cp_greatest_associate T
  have CZ : Cal P w K mg base 3 "check_not_zero" ["number"] (R_cnz c_InvalidNumber c_InvalidQuestion) := c_check_not_zero T
  have CM : Cal P w K mg base 1 "_product" ["one", "other"] (R44 fun ns ms => ti (mulL ns ms)) := cp_product T
  refine cal_mk T.fn_canonical sc_canonical (fun ds o ⟨d, ns, h, _⟩ => by subst h; rfl) fun f cdv A outer s H E F ds o hr tk pn ⟨d, ns, hd, sq, hl, hs, ho⟩ => ?_
  subst hd ho
  cases hn : isNum ns with
  | false => exact ⟨_, jss_stop (js_exprX (je_callC CZ ⟨d, ns, rfl, sq, hl, by rw [hn]; rfl⟩ (hr.mono (by decide)) tk (ja_cons (je_var 0 rfl) ja_nil))) trivial, rfl⟩
  | true =>
    cases hz : zeroB ns with
    | true => exact ⟨_, jss_stop (js_exprX (je_callC CZ ⟨d, ns, rfl, sq, hl, by rw [hn, hz]; rfl⟩ (hr.mono (by decide)) tk (ja_cons (je_var 0 rfl) ja_nil))) trivial, rfl⟩
    | false =>
      obtain ⟨a, ha, hdp⟩ := T.g_UNITS
      have PR : ∀ x ∈ unitsL, ∀ (s : Shared) (H : Hp) (C : Addr) (cl : List (Str × Addr)) (fp : List Addr), True := fun _ _ _ _ _ _ _ => trivial
      refine ⟨.rt (ti (canonL ns)), jss_cons (js_expr (je_callC CZ ⟨d, ns, rfl, sq, hl, by rw [hn, hz]; rfl⟩ (hr.mono (by decide)) tk (ja_cons (je_var 0 rfl) ja_nil))) (jss_cons (js_asg (je_callC CG ⟨d, ns, rfl, sq, hn, hz, hs, rfl⟩ (hr.mono (by decide)) tk (ja_cons (je_var 0 rfl) ja_nil)) (jg_tup rfl (jgs_cons (jg_name 1 sc_canonical.nd) (jgs_cons (jg_name 2 sc_canonical.nd) jgs_nil))) ⟨_, rfl, rfl, _, _, _, rfl, rfl, _, _, _, rfl, rfl, rfl, rfl⟩) ?_), rfl⟩
      exact jss_one (js_ret (je_is (je_var 1 rfl) (by rw [(lead_ok ns).2])))
theorem c_is_plain_integer : Cal P w K mg base 1 "is_plain_integer" ["value"] R_isint := by
  refine cal_mk T.fn_is_plain_integer sc_is_plain_integer (fun ds o h => by rcases h with ⟨z, h, _⟩ | ⟨b, h, _⟩ <;> (subst h; rfl)) fun f cdv A outer s H E F ds o hr tk pn h => ?_
  rcases h with ⟨z, hd, ho⟩ | ⟨b, hd, ho⟩
  · subst hd ho
    exact ⟨.rt (.bool true), jss_one (js_ret (je_is (je_and (je_isD (T := "int") (r := true) (by show kitB "int" "int" = some true; decide +kernel) T.z_isinstance T.z_int (by decide +kernel) (je_var 0 rfl)) (fun _ => je_and1 (je_not (je_isD (T := "bool") (r := false) (by show kitB "int" "bool" = some false; decide +kernel) T.z_isinstance T.z_bool (by decide +kernel) (je_var 0 rfl))))) rfl)), rfl⟩
  · subst hd ho
    exact ⟨.rt (.bool false), jss_one (js_ret (je_is (je_and (je_isD (T := "int") (r := true) (by show kitB "bool" "int" = some true; decide +kernel) T.z_isinstance T.z_int (by decide +kernel) (je_var 0 rfl)) (fun _ => je_and1 (je_not (je_isD (T := "bool") (r := true) (by show kitB "bool" "bool" = some true; decide +kernel) T.z_isinstance T.z_bool (by decide +kernel) (je_var 0 rfl))))) rfl)), rfl⟩
theorem c_power_modulo : Cal P w K mg base 1 "power_modulo" ["base", "exponent", "modulus"] R_powm := by
  refine cal_mk T.fn_power_modulo sc_power_modulo (fun ds o ⟨b, e, m, h, _⟩ => by subst h; rfl) fun f cdv A outer s H E F ds o hr tk pn ⟨b, e, m, hd, h0, hm, hbm, hbb, ho⟩ => ?_
  subst hd ho
  refine ⟨.rt (.int (powF m b e)), ?_, rfl⟩
  obtain ⟨n, rfl⟩ : ∃ n : Nat, e = (n : Int) := ⟨e.toNat, by omega⟩
  have pe := pm_exp m b n 1
  have pb := pm_bt (e := (n : Int)) hm hbm hbb
  refine jss_norm (Γ2 := [.d (.int b), .d (.int (n : Nat)), .d (.int m), .u]) rfl ?_
  refine jss_consN (js_set 3 sc_power_modulo.nd je_int) (by dsimp only [List.set_cons_zero, List.set_cons_succ]) ?_
  refine jss_cons (js_while (fun k => [.d (.int (pmK m (1, b, (n : Int)) k).2.1), .d (.int (pmK m (1, b, (n : Int)) k).2.2), .d (.int m), .d (.int (pmK m (1, b, (n : Int)) k).1)]) (bitsN n) pn (Le.refl _) (fun k hk => ?_) (fun k hk => ?_) ?_) ?_
  · have h := bits_lo hk
    exact jt_is (jt_int (je_var 1 rfl)) (by rw [pe k]; exact decide_eq_true (by omega))
  · obtain ⟨q1, q2⟩ := pb k
    show JSs _ _ _ _ _ _ (.nx [.d (.int (pmK m (1, b, (n : Int)) (k + 1)).2.1), .d (.int (pmK m (1, b, (n : Int)) (k + 1)).2.2), .d (.int m), .d (.int (pmK m (1, b, (n : Int)) (k + 1)).1)])
    rw [show pmK m (1, b, (n : Int)) (k + 1) = pmS m (pmK m (1, b, (n : Int)) k) from rfl]
    generalize pmK m (1, b, (n : Int)) k = s at q1 q2 ⊢
    obtain ⟨f, b', e⟩ := s
    unfold pmS
    by_cases h2 : e % 2 = 0
    · rw [if_pos h2]
      refine jss_cons (js_ifF (jt_is (jt_int (je_mod (by decide) (je_var 1 rfl) je_int)) (decide_eq_false (fun h => h h2))) jss_nil) ?_
      exact jss_cons (js_set 0 sc_power_modulo.nd (je_mod hm (je_mulW (cm q2 q2) (je_var 0 rfl) (je_var 0 rfl)) (je_var 2 rfl))) (jss_one (js_augFd 1 ⟨by decide, by decide⟩ rfl sc_power_modulo.nd je_int))
    · rw [if_neg h2]
      refine jss_cons (js_ifT (jt_is (jt_int (je_mod (by decide) (je_var 1 rfl) je_int)) (decide_eq_true h2)) (jss_one (js_set 3 sc_power_modulo.nd (je_mod hm (je_mulW (cm q1 q2) (je_var 3 rfl) (je_var 0 rfl)) (je_var 2 rfl))))) ?_
      exact jss_cons (js_set 0 sc_power_modulo.nd (je_mod hm (je_mulW (cm q2 q2) (je_var 0 rfl) (je_var 0 rfl)) (je_var 2 rfl))) (jss_one (js_augFd 1 ⟨by decide, by decide⟩ rfl sc_power_modulo.nd je_int))
  · exact jt_is (jt_int (je_var 1 rfl)) (by rw [pe, bits_hi]; rfl)
  · exact jss_one (js_ret (je_var 3 rfl))
theorem cp_passes : Cal P w K mg base 2 "_passes" ["value", "base"] R_pass := by
  have C_power_modulo : Cal P w K mg base 1 "power_modulo" ["base", "exponent", "modulus"] R_powm := c_power_modulo T
  refine cal_mk T.fn_p_passes sc_p_passes (fun ds o ⟨v, b, h, _⟩ => by subst h; rfl) fun f cdv A outer s H E F ds o hr tk pn ⟨v, b, hd, h2, hm, hb, ho⟩ => ?_
  subst hd ho
  refine ⟨.rt (.bool (passF v b)), ?_, rfl⟩
  obtain ⟨n, hn⟩ : ∃ n : Nat, v - 1 = (n : Int) := ⟨(v - 1).toNat, by omega⟩
  have bv : Bt 64 v := by unfold Bt; omega
  have hv0 : 0 < v := by omega
  obtain ⟨tz1, tz2⟩ := tz_ok 64 n (by omega) (by omega)
  have unf : passF v b = (decide (powF v b ((n / 2 ^ tzF 64 n : Nat) : Int) = 1) || (match (List.range (tzF 64 n)).find? (fun k => decide (sqK v (powF v b ((n / 2 ^ tzF 64 n : Nat) : Int)) k = v - 1)) with | some _ => true | none => false)) := by
    unfold passF
    rw [hn, Int.toNat_natCast]
    try rfl
  rw [unf]
  have ts : tzF 64 n ≤ 64 := tz_le 64 n
  generalize tzF 64 n = s at tz1 tz2 ts ⊢
  refine jss_norm (Γ2 := [.d (.int v), .d (.int b), .u, .u, .u, .u]) rfl ?_
  refine jss_consN (js_par 2 3 rfl sc_p_passes.nd (je_is (je_sub (je_var 0 rfl) je_int) (by rw [hn])) je_int) (by dsimp only [List.set_cons_zero, List.set_cons_succ]) ?_
  refine jss_cons (js_while (fun k => [.d (.int v), .d (.int b), .d (.int ((n / 2 ^ (k) : Nat) : Int)), .d (.int ((k : Nat) : Int)), .u, .u]) s pn ?_ (fun k hk => ?_) (fun k hk => ?_) ?_) ?_
  · exact .keep (.keep (by rw [show n / 2 ^ 0 = n by simp]; exact Le.refl _))
  · have h := tz1 k hk
    exact jt_is (jt_eqI (je_mod (by decide) (je_var 2 rfl) je_int) je_int) (decide_eq_true (by omega))
  · refine jss_cons (js_augFd 2 ⟨by decide, by decide⟩ rfl sc_p_passes.nd je_int) (jss_one (js_is (js_augAdd 3 rfl sc_p_passes.nd je_int) ?_))
    show SO.nx [.d (.int v), .d (.int b), .d (.int (((n / 2 ^ k : Nat) : Int) / 2)), .d (.int (((k : Nat) : Int) + 1)), .u, .u] = SO.nx [.d (.int v), .d (.int b), .d (.int ((n / 2 ^ (k + 1) : Nat) : Int)), .d (.int ((k + 1 : Nat) : Int)), .u, .u]
    rw [Nat.pow_succ, ← Nat.div_div_eq_div_mul]
    rfl
  · exact jt_is (jt_eqI (je_mod (by decide) (je_var 2 rfl) je_int) je_int) (decide_eq_false (by generalize n / 2 ^ s = q at tz2 ⊢; omega))
  refine jss_consN (js_set 4 sc_p_passes.nd (je_callC C_power_modulo ⟨_, _, _, rfl, Int.natCast_nonneg _, hv0, bv, hb, rfl⟩ (hr.mono (by decide)) (by first | exact takes0 | exact tk) (ja_cons (je_var 1 rfl) (ja_cons (je_var 2 rfl) (ja_cons (je_var 0 rfl) ja_nil))))) (by dsimp only [List.set_cons_zero, List.set_cons_succ]) ?_
  have pb := powF_bt (e := ((n / 2 ^ s : Nat) : Int)) hv0 bv hb
  generalize powF v b ((n / 2 ^ s : Nat) : Int) = p at pb ⊢
  by_cases h1 : p = 1
  · rw [decide_eq_true h1, Bool.true_or]
    exact jss_stop (js_ifT (jt_is (jt_eqI (je_var 4 rfl) je_int) (decide_eq_true h1)) (jss_one (js_ret je_bl))) trivial
  rw [decide_eq_false h1, Bool.false_or]
  refine jss_cons (js_ifF (jt_is (jt_eqI (je_var 4 rfl) je_int) (decide_eq_false h1)) jss_nil) ?_
  have sb := sq_bt hv0 bv pb
  refine jss_is (jss_find (js_forFind (ds := rngD 0 s) (fun k => decide (sqK v p k = v - 1)) (fun _ => .rt (.bool true)) (fun k => [.d (.int v), .d (.int b), .d (.int ((n / 2 ^ s : Nat) : Int)), .d (.int ((s : Nat) : Int)), .d (.int (sqK v p k)), .u]) (fun k => [.d (.int v), .d (.int b), .d (.int ((n / 2 ^ s : Nat) : Int)), .d (.int ((s : Nat) : Int)), .d (.int (sqK v p k)), .d (.int (0 + (k : Nat)))]) pn rfl (ji_is (ji_range1 T.z_range (by omega) (by omega) (je_var 3 rfl)) (by rw [Int.toNat_natCast])) (jg_name 5 sc_p_passes.nd) (Le.refl _) (fun k d e => ?_) (fun k d e h => ?_) (fun k d e h => ?_)) (fun k => trivial) (fun _ => jss_one (js_ret je_bl))) ?_
  · obtain ⟨_, rfl⟩ := rngD_get e
    rfl
  · refine jss_nx (jss_cons (js_ifF (jt_is (jt_eqI (je_var 4 rfl) (je_sub (je_var 0 rfl) je_int)) h) jss_nil) (jss_one (js_set 4 sc_p_passes.nd (je_mod hv0 (je_mulW (cm (sb k) (sb k)) (je_var 4 rfl) (je_var 4 rfl)) (je_var 0 rfl))))) (.keep (.keep (.keep (.keep (.keep (.drop .nil))))))
  · exact ⟨jss_stop (js_ifT (jt_is (jt_eqI (je_var 4 rfl) (je_sub (je_var 0 rfl) je_int)) h) (jss_one (js_ret je_bl))) trivial, trivial⟩
  · rw [rngD_len]
    cases (List.range s).find? fun k => decide (sqK v p k = v - 1) <;> rfl
theorem c_is_prime : Cal P w K mg base 3 "is_prime" ["value"] R_isp := by
  have C__passes : Cal P w K mg base 2 "_passes" ["value", "base"] R_pass := cp_passes T
  refine cal_mk T.fn_is_prime sc_is_prime (fun ds o ⟨v, h, _⟩ => by subst h; rfl) fun f cdv A outer s H E F ds o hr tk pn ⟨v, hd, ho⟩ => ?_
  subst hd ho
  refine ⟨.rt (.bool (isPrimeF v)), ?_, rfl⟩
  obtain ⟨tM, gM⟩ := T.gi_MOST
  obtain ⟨aB, gB, dB⟩ := T.g_BASES
  unfold isPrimeF
  by_cases hv : 2 ≤ v ∧ v ≤ 1000000000000
  · rw [if_pos hv]
    refine jss_cons (js_ifF (jt_is (jt_not (jt_leLe je_int (je_var 0 rfl) (je_glob (dp_int _) gM ⟨_, rfl⟩))) (by rw [decide_eq_true hv.1, decide_eq_true hv.2]; rfl)) jss_nil) ?_
    refine jss_is (jss_find (js_forFind (ds := basesL.map .int) (fun k => decide (v % basesL.getD k 0 = 0)) (fun k => .rt (.bool (decide (v = basesL.getD k 0)))) (fun k => [.d (.int v), .u]) (fun k => [.d (.int v), .d (.int (basesL.getD k 0))]) pn rfl (ji_tup (je_glob dB gB rfl)) (jg_name 1 sc_is_prime.nd) (Le.refl _) (fun k d e => ?_) (fun k d e h => ?_) (fun k d e h => ?_)) (fun k => trivial) (fun hn => jss_one (js_ret (je_is (je_allB rfl T.z_all (je_o2v (je_lcE0 PyData.bool (xs := basesL) (enc := PyData.int) (g := fun b => passF v b) (own := [("base", 1)]) (.one 1) rfl sc_is_prime.nd (ji_tup (je_glob dB gB rfl)) (blkOk_by (N := N_is_prime) (sc := defScope s_is_prime) (by decide +kernel)) (by show 5 < 100000; decide) (fun _ _ => trivial) (fun _ _ _ _ _ => pg_name (i := 1) sc_is_prime.nd rfl (Or.inl rfl)) (fun b hb2 s H C cl fp => je_callC C__passes ⟨_, _, rfl, hv.1, hv.2, base_bt hb2, rfl⟩ (hr.mono (by decide)) takes0 (ja_cons (je_var 0 rfl) (ja_cons (je_var 1 rfl) ja_nil)))))) rfl)))) ?_
    · have hk := (List.getElem?_eq_some_iff.mp e).1
      rw [List.length_map] at hk
      have e2 : (basesL.map PyData.int)[k]? = some (.int (basesL.getD k 0)) := by rw [List.getElem?_map, List.getD_eq_getElem?_getD, List.getElem?_eq_getElem hk]; rfl
      rw [e2] at e
      cases e
      rfl
    · have hb0 := base_pos (k := k) (by have hk := (List.getElem?_eq_some_iff.mp e).1; rw [List.length_map] at hk; exact hk)
      exact jss_nx (jss_one (js_ifF (jt_is (jt_eqI (je_mod hb0 (je_var 0 rfl) (je_var 1 rfl)) je_int) h) jss_nil)) (.keep (.drop .nil))
    · have hb0 := base_pos (k := k) (by have hk := (List.getElem?_eq_some_iff.mp e).1; rw [List.length_map] at hk; exact hk)
      exact ⟨jss_stop (js_ifT (jt_is (jt_eqI (je_mod hb0 (je_var 0 rfl) (je_var 1 rfl)) je_int) h) (jss_one (js_ret (je_eqI (je_var 0 rfl) (je_var 1 rfl))))) trivial, trivial⟩
    · rw [List.length_map]
      show outOf _ _ ((List.range 5).find? _) = _
      cases (List.range 5).find? fun k => decide (v % basesL.getD k 0 = 0) with
      | none =>
        show SO.rt (.bool ((basesL.map fun b => passF v b).all id)) = SO.rt (.bool (basesL.all (passF v)))
        rw [List.all_map]
        rfl
      | some k => rfl
  · rw [if_neg hv]
    exact jss_stop (js_ifT (jt_is (jt_not (jt_leLe je_int (je_var 0 rfl) (je_glob (dp_int _) gM ⟨_, rfl⟩))) (by
      by_cases h1 : 2 ≤ v
      · rw [decide_eq_true h1, decide_eq_false (fun h => hv ⟨h1, h⟩)]; rfl
      · rw [decide_eq_false h1]; rfl)) (jss_one (js_ret je_bl))) trivial
theorem c_check_odd_prime : Cal P w K mg base 4 "check_odd_prime" ["value", "most"] (R_codd c_InvalidQuestion) := by
  have C_is_prime : Cal P w K mg base 3 "is_prime" ["value"] R_isp := c_is_prime T
  refine cal_mk T.fn_check_odd_prime sc_check_odd_prime (fun ds o ⟨v, m, h, _⟩ => by subst h; rfl) fun f cdv A outer s H E F ds o hr tk pn ⟨v, m, hd, ho⟩ => ?_
  subst hd ho
  have e : (decide (v % 2 = 0) || (decide (m < v) || !isPrimeF v)) = !oddP v m := by unfold oddP; rw [Bool.not_not, Bool.or_assoc]
  by_cases h : oddP v m = true
  · rw [if_pos h]
    exact ⟨_, jss_one (js_ifF (jt_is (jt_w (jw_or (jt_eqI (je_mod (by decide) (je_var 0 rfl) je_int) je_int) (fun _ => (jw_or (jt_gt (je_var 0 rfl) (je_var 1 rfl)) (fun _ => (jw_or1 (jt_not (jt_val (je_callC C_is_prime ⟨_, rfl, rfl⟩ (hr.mono (by decide)) (by first | exact takes0 | exact tk) (ja_cons (je_var 0 rfl) ja_nil)))))))))) (e.trans (by rw [h]; rfl))) jss_nil), rfl⟩
  · rw [if_neg h]
    exact ⟨_, jss_one (js_ifT (jt_is (jt_w (jw_or (jt_eqI (je_mod (by decide) (je_var 0 rfl) je_int) je_int) (fun _ => (jw_or (jt_gt (je_var 0 rfl) (je_var 1 rfl)) (fun _ => (jw_or1 (jt_not (jt_val (je_callC C_is_prime ⟨_, rfl, rfl⟩ (hr.mono (by decide)) (by first | exact takes0 | exact tk) (ja_cons (je_var 0 rfl) ja_nil)))))))))) (e.trans (by rw [(Bool.not_eq_true _).mp h]; rfl))) (jss_one (js_raise T.e_InvalidQuestion rfl tk))), rfl⟩
theorem cp_check_prime : Cal P w K mg base 5 "_check_prime" ["prime"] R_chkp := by
  have C_is_prime : Cal P w K mg base 3 "is_prime" ["value"] R_isp := c_is_prime T
  refine cal_mk T.fn_p_check_prime sc_p_check_prime (fun ds o ⟨p, h, _⟩ => by subst h; rfl) fun f cdv A outer s H E F ds o hr tk pn ⟨p, hd, h1, h2, ho⟩ => ?_
  subst hd ho
  obtain ⟨tM, gM⟩ := T.gi_MOST_PRIME
  have q1 : ¬ (1000 : Int) < p := by omega
  exact ⟨.nx _, jss_one (js_ifF (jt_is (jt_w (jw_or (jt_gt (je_var 0 rfl) (je_glob (dp_int _) gM ⟨_, rfl⟩)) (fun hq => jw_or1 (jt_not (jt_val (je_callC C_is_prime ⟨_, rfl, rfl⟩ (hr.mono (by decide)) takes0 (ja_cons (je_var 0 rfl) ja_nil))))))) (by rw [decide_eq_false q1, h2]; rfl)) jss_nil), rfl⟩
theorem cp_with_signs : Cal P w K mg base 1 "_with_signs" ["parts"] R_wsigns := by
  refine cal_mk T.fn_p_with_signs sc_p_with_signs (fun ds o ⟨a, b, c, d, h, _⟩ => by subst h; rfl) fun f cdv A outer s H E F ds o hr tk pn ⟨a, b, c, d, hd, ho⟩ => ?_
  subst hd ho
  refine ⟨.rto ((sortN (signF a b c d)).map ti), ?_, rfl⟩
  refine jss_consN (js_asg (je_var 0 rfl) (jg_tup rfl (jgs_cons (jg_name 1 sc_p_with_signs.nd) (jgs_cons (jg_name 2 sc_p_with_signs.nd) (jgs_cons (jg_name 3 sc_p_with_signs.nd) (jgs_cons (jg_name 4 sc_p_with_signs.nd) jgs_nil))))) ⟨_, rfl, rfl, _, _, _, rfl, rfl, _, _, _, rfl, rfl, _, _, _, rfl, rfl, _, _, _, rfl, rfl, rfl, rfl⟩) (by dsimp only [List.set_cons_zero, List.set_cons_succ]) ?_
  have two : ∀ {v : Int} {x : PyData}, x ∈ [PyData.int v, PyData.int (-v)] → x = PyData.int (ofI x) := fun {v x} h => by
    simp only [List.mem_cons, List.not_mem_nil, or_false] at h
    rcases h with rfl | rfl <;> rfl
  refine jss_one (js_retO (je_sortSet (ls := signF a b c d) rfl hr.units sign_ne T.z_sorted (pe_sc3 (own := [("x", 5), ("y", 6), ("z", 7)]) 5 6 7 (d0 := [.int b, .int (-b)]) (d1 := fun _ => [.int c, .int (-c)]) (d2 := fun _ _ => [.int d, .int (-d)]) (f := fun x y z => [a, ofI x, ofI y, ofI z]) rfl sc_p_with_signs.nd hr.units (blkOk_by (N := N_p_with_signs) (sc := defScope s_p_with_signs) (by decide +kernel)) rfl (ji_is (ji_tup (je_tup (ja_cons (je_var 2 rfl) (ja_cons (je_neg (je_var 2 rfl)) ja_nil)))) rfl) (fun _ _ _ _ _ => pg_name (i := 5) sc_p_with_signs.nd rfl (Or.inl rfl)) (fun _ _ _ _ _ => pg_name (i := 6) sc_p_with_signs.nd rfl (Or.inl rfl)) (fun _ _ _ _ _ => pg_name (i := 7) sc_p_with_signs.nd rfl (Or.inl rfl))
    (fun x hx s H C cl fp => (ji_is (ji_tup (je_tup (ja_cons (je_var 3 rfl) (ja_cons (je_neg (je_var 3 rfl)) ja_nil)))) rfl)) (fun x hx y hy s H C cl fp => (ji_is (ji_tup (je_tup (ja_cons (je_var 4 rfl) (ja_cons (je_neg (je_var 4 rfl)) ja_nil)))) rfl)) (fun x hx y hy z hz s H C cl fp => ?_) (by show 8 < 64; decide))))
  rw [two hx, two hy, two hz]
  exact je_is (je_tup (ja_cons (je_var 1 rfl) (ja_cons (je_var 5 rfl) (ja_cons (je_var 6 rfl) (ja_cons (je_var 7 rfl) ja_nil))))) rfl
theorem cp_leading_parts : Cal P w K mg base 1 "_leading_parts" ["total"] R_lead := by
  refine cal_mk T.fn_p_leading_parts sc_p_leading_parts (fun ds o ⟨t, h, _⟩ => by subst h; rfl) fun f cdv A outer s H E F ds o hr tk pn ⟨t, hd, h0, h1, ho⟩ => ?_
  subst hd ho
  refine ⟨.rto ((leadF t).map ti), ?_, rfl⟩
  obtain ⟨r0, r1⟩ := rootL h1
  refine jss_cons (js_setO 1 sc_p_leading_parts.nd (je_lst ja_nil)) ?_
  refine jss_cons (And.left (js_forFold (xs := List.range (rootI t + 1).toNat) (enc := fun i : Nat => PyData.int (0 + (i : Int))) (fun F : List (List Int) => [.d (.int t), .own ((F).map ti), .u, .u, .u, .u, .u]) (fun (F : List (List Int)) (i : Nat) => [.d (.int t), .own ((F).map ti), .d (.int (0 + (i : Int))), .u, .u, .u, .u]) (ldA t) [] (fun k F => F.length ≤ k * 1089) pn rfl (ji_is (ji_range1 T.z_range (by omega) (by omega) (je_add (je_is (je_isqrt h0 (by omega) T.i_isqrt (je_var 0 rfl)) (show _ = Out.v (.int (rootI t)) from rfl)) je_int)) rfl) (jg_name 2 sc_p_leading_parts.nd) (Le.refl _) (Nat.zero_le _) (fun _ _ => rfl) (fun i0 F i ei hF => ?_))) ?_
  · have hi : i < (rootI t + 1).toNat := rng_lt ei
    have hk : i0 ≤ 63 := by have := (List.getElem?_eq_some_iff.mp ei).1; rw [List.length_range] at this; omega
    have ba : Bt 10 (0 + (i : Int)) := by unfold Bt; omega
    refine ⟨⟨_, jss_nx (jss_one (And.left (js_forFold (xs := List.range (upN ((0 + (i : Int)) % 2) ((0 + (i : Int)) + 1))) (enc := fun j : Nat => PyData.int ((0 + (i : Int)) % 2 + (j : Nat) * 2)) (fun F : List (List Int) => [.d (.int t), .own ((F).map ti), .d (.int (0 + (i : Int))), .u, .u, .u, .u]) (fun (F : List (List Int)) (j : Nat) => [.d (.int t), .own ((F).map ti), .d (.int (0 + (i : Int))), .d (.int ((0 + (i : Int)) % 2 + (j : Nat) * 2)), .u, .u, .u]) (ldB t (0 + (i : Int))) F (fun k F2 => F2.length ≤ F.length + k * 33) pn rfl (ji_is (ji_up2 T.z_range (by omega) (je_mod (by decide) (je_var 2 rfl) je_int) (je_add (je_var 2 rfl) je_int) je_int) rfl) (jg_name 3 sc_p_leading_parts.nd) (Le.refl _) (by omega) (fun _ _ => rfl) (fun j0 F' j ej hF' => ?_)))) (.keep (.keep (.drop (.keep (.keep (.keep (.keep .nil))))))), rfl⟩, by have := ldA_len (t := t) F (i := i) (by omega); rw [Nat.succ_mul]; omega⟩
    have hj := upN_lt (rng_lt ej)
    have hj0 : j0 ≤ 33 := by have := (List.getElem?_eq_some_iff.mp ej).1; rw [List.length_range] at this; unfold upN at this; split at this <;> omega
    have bb : Bt 10 ((0 + (i : Int)) % 2 + (j : Nat) * 2) := by unfold Bt; omega
    refine ⟨⟨_, jss_nx (jss_one (And.left (js_forBrk (xs := List.range (upN ((0 + (i : Int)) % 2) ((0 + (i : Int)) - ((0 + (i : Int)) % 2 + (j : Nat) * 2) + 1))) (enc := fun l : Nat => PyData.int ((0 + (i : Int)) % 2 + (l : Nat) * 2)) (fun F : List (List Int) => [.d (.int t), .own ((F).map ti), .d (.int (0 + (i : Int))), .d (.int ((0 + (i : Int)) % 2 + (j : Nat) * 2)), .u, .u, .u]) (fun (F : List (List Int)) (l : Nat) => [.d (.int t), .own ((F).map ti), .d (.int (0 + (i : Int))), .d (.int ((0 + (i : Int)) % 2 + (j : Nat) * 2)), .d (.int ((0 + (i : Int)) % 2 + (l : Nat) * 2)), .u, .u]) (ldC t (0 + (i : Int)) ((0 + (i : Int)) % 2 + (j : Nat) * 2)) F' (fun k F2 => F2.length ≤ F'.length + k) (ldP t (0 + (i : Int)) ((0 + (i : Int)) % 2 + (j : Nat) * 2)) pn rfl (ji_is (ji_up2 T.z_range (by omega) (je_mod (by decide) (je_var 2 rfl) je_int) (je_add (je_sub (je_var 2 rfl) (je_var 3 rfl)) je_int) je_int) rfl) (jg_name 4 sc_p_leading_parts.nd) (Le.refl _) (by omega) (fun _ _ => rfl) (fun l0 F'' l el hF'' hp => ?_) (fun l0 F'' l el hF'' hp => ?_)))) (.keep (.keep (.keep (.drop (.keep (.keep (.keep .nil))))))), rfl⟩, by have := ldB_len (t := t) (a := (0 + (i : Int))) (by omega) (by omega) F' j; rw [Nat.succ_mul]; omega⟩
    · have hl := upN_lt (rng_lt el)
      have hl0 : l0 ≤ 33 := by have := (List.getElem?_eq_some_iff.mp el).1; rw [List.length_range] at this; unfold upN at this; split at this <;> omega
      have bc : Bt 10 ((0 + (i : Int)) % 2 + (l : Nat) * 2) := by unfold Bt; omega
      have hR : 0 ≤ (ldR t (0 + (i : Int)) ((0 + (i : Int)) % 2 + (j : Nat) * 2) ((0 + (i : Int)) % 2 + (l : Nat) * 2)) := by
        have : decide ((ldR t (0 + (i : Int)) ((0 + (i : Int)) % 2 + (j : Nat) * 2) ((0 + (i : Int)) % 2 + (l : Nat) * 2)) < 0) = false := jt_lt_ok hp
        have := of_decide_eq_false this
        omega
      have hR2 : (ldR t (0 + (i : Int)) ((0 + (i : Int)) % 2 + (j : Nat) * 2) ((0 + (i : Int)) % 2 + (l : Nat) * 2)) ≤ 4000 := by
        unfold ldR
        have q1 : 0 ≤ (0 + (i : Int)) * (0 + (i : Int)) := Int.mul_nonneg (by omega) (by omega)
        have q2 : 0 ≤ ((0 + (i : Int)) % 2 + (j : Nat) * 2) * ((0 + (i : Int)) % 2 + (j : Nat) * 2) := Int.mul_nonneg (by omega) (by omega)
        have q3 : 0 ≤ ((0 + (i : Int)) % 2 + (l : Nat) * 2) * ((0 + (i : Int)) % 2 + (l : Nat) * 2) := Int.mul_nonneg (by omega) (by omega)
        omega
      have gC := ldC_len t (0 + (i : Int)) ((0 + (i : Int)) % 2 + (j : Nat) * 2) F'' l
      obtain ⟨s0, s1⟩ := rootL hR2
      have bd : Bt 10 (rootI (ldR t (0 + (i : Int)) ((0 + (i : Int)) % 2 + (j : Nat) * 2) ((0 + (i : Int)) % 2 + (l : Nat) * 2))) := by unfold Bt; omega
      refine ⟨⟨_, jss_nx (Γ1 := [.d (.int t), .own (((ldC t (0 + (i : Int)) ((0 + (i : Int)) % 2 + (j : Nat) * 2) F'' l)).map ti), .d (.int (0 + (i : Int))), .d (.int ((0 + (i : Int)) % 2 + (j : Nat) * 2)), .d (.int ((0 + (i : Int)) % 2 + (l : Nat) * 2)), .d (.int (ldR t (0 + (i : Int)) ((0 + (i : Int)) % 2 + (j : Nat) * 2) ((0 + (i : Int)) % 2 + (l : Nat) * 2))), .d (.int (rootI (ldR t (0 + (i : Int)) ((0 + (i : Int)) % 2 + (j : Nat) * 2) ((0 + (i : Int)) % 2 + (l : Nat) * 2))))]) (jss_cons (js_is (js_set 5 sc_p_leading_parts.nd (je_sub (je_sub (je_sub (je_var 0 rfl) (je_mulW (cm ba ba) (je_var 2 rfl) (je_var 2 rfl))) (je_mulW (cm bb bb) (je_var 3 rfl) (je_var 3 rfl))) (je_mulW (cm bc bc) (je_var 4 rfl) (je_var 4 rfl)))) (show _ = SO.nx [.d (.int t), .own ((F'').map ti), .d (.int (0 + (i : Int))), .d (.int ((0 + (i : Int)) % 2 + (j : Nat) * 2)), .d (.int ((0 + (i : Int)) % 2 + (l : Nat) * 2)), .d (.int (ldR t (0 + (i : Int)) ((0 + (i : Int)) % 2 + (j : Nat) * 2) ((0 + (i : Int)) % 2 + (l : Nat) * 2))), .u] from rfl)) (jss_cons (js_ifF (jt_is (jt_lt (je_var 5 rfl) je_int) (jt_lt_ok hp)) jss_nil) (jss_cons (js_is (js_set 6 sc_p_leading_parts.nd (je_isqrt hR (by omega) T.i_isqrt (je_var 5 rfl))) (show _ = SO.nx [.d (.int t), .own ((F'').map ti), .d (.int (0 + (i : Int))), .d (.int ((0 + (i : Int)) % 2 + (j : Nat) * 2)), .d (.int ((0 + (i : Int)) % 2 + (l : Nat) * 2)), .d (.int (ldR t (0 + (i : Int)) ((0 + (i : Int)) % 2 + (j : Nat) * 2) ((0 + (i : Int)) % 2 + (l : Nat) * 2))), .d (.int (rootI (ldR t (0 + (i : Int)) ((0 + (i : Int)) % 2 + (j : Nat) * 2) ((0 + (i : Int)) % 2 + (l : Nat) * 2))))] from rfl)) (jss_one ?_)))) (.keep (.keep (.keep (.keep (.drop (.drop (.drop .nil))))))), rfl⟩, by omega⟩
      · unfold ldC
        by_cases hq : (rootI (ldR t (0 + (i : Int)) ((0 + (i : Int)) % 2 + (j : Nat) * 2) ((0 + (i : Int)) % 2 + (l : Nat) * 2))) * (rootI (ldR t (0 + (i : Int)) ((0 + (i : Int)) % 2 + (j : Nat) * 2) ((0 + (i : Int)) % 2 + (l : Nat) * 2))) = (ldR t (0 + (i : Int)) ((0 + (i : Int)) % 2 + (j : Nat) * 2) ((0 + (i : Int)) % 2 + (l : Nat) * 2)) ∧ ((0 + (i : Int)) % 2 + (j : Nat) * 2) + ((0 + (i : Int)) % 2 + (l : Nat) * 2) + (rootI (ldR t (0 + (i : Int)) ((0 + (i : Int)) % 2 + (j : Nat) * 2) ((0 + (i : Int)) % 2 + (l : Nat) * 2))) ≤ (0 + (i : Int))
        · rw [if_pos hq, List.map_append]
          exact js_ifT (jt_is (jt_w (jw_and (jt_eqI (je_mulW (cm bd bd) (je_var 6 rfl) (je_var 6 rfl)) (je_var 5 rfl)) (fun hq => jw_and1 (jt_le (je_add (je_add (je_var 3 rfl) (je_var 4 rfl)) (je_var 6 rfl)) (je_var 2 rfl))))) (by rw [decide_eq_true hq.1, decide_eq_true hq.2]; rfl)) (jss_one (js_append 1 rfl (by rw [List.length_map]; omega) (je_is (je_tup (ja_cons (je_var 2 rfl) (ja_cons (je_var 3 rfl) (ja_cons (je_var 4 rfl) (ja_cons (je_var 6 rfl) ja_nil))))) rfl)))
        · rw [if_neg hq]
          refine js_ifF (jt_is (jt_w (jw_and (jt_eqI (je_mulW (cm bd bd) (je_var 6 rfl) (je_var 6 rfl)) (je_var 5 rfl)) (fun hq => jw_and1 (jt_le (je_add (je_add (je_var 3 rfl) (je_var 4 rfl)) (je_var 6 rfl)) (je_var 2 rfl))))) ?_) jss_nil
          rw [← Bool.decide_and]
          exact decide_eq_false hq
    · have hl := upN_lt (rng_lt el)
      have bc : Bt 10 ((0 + (i : Int)) % 2 + (l : Nat) * 2) := by unfold Bt; omega
      refine jss_cons (js_is (js_set 5 sc_p_leading_parts.nd (je_sub (je_sub (je_sub (je_var 0 rfl) (je_mulW (cm ba ba) (je_var 2 rfl) (je_var 2 rfl))) (je_mulW (cm bb bb) (je_var 3 rfl) (je_var 3 rfl))) (je_mulW (cm bc bc) (je_var 4 rfl) (je_var 4 rfl)))) (show _ = SO.nx [.d (.int t), .own ((F'').map ti), .d (.int (0 + (i : Int))), .d (.int ((0 + (i : Int)) % 2 + (j : Nat) * 2)), .d (.int ((0 + (i : Int)) % 2 + (l : Nat) * 2)), .d (.int (ldR t (0 + (i : Int)) ((0 + (i : Int)) % 2 + (j : Nat) * 2) ((0 + (i : Int)) % 2 + (l : Nat) * 2))), .u] from rfl)) (jss_stop ?_ trivial)
      refine js_ifT (jt_is (jt_lt (je_var 5 rfl) je_int) (jt_lt_ok hp)) (jss_one ?_)
      exact js_le (.keep (.keep (.keep (.keep (.drop (.drop (.keep .nil))))))) js_break
  exact jss_one (js_retOwn 1 rfl)
theorem c_primes_of : Cal P w K mg base 6 "primes_of" ["prime"] R_prof := by
  have C__check_prime : Cal P w K mg base 5 "_check_prime" ["prime"] R_chkp := cp_check_prime T
  have C__leading_parts : Cal P w K mg base 1 "_leading_parts" ["total"] R_lead := cp_leading_parts T
  have C__with_signs : Cal P w K mg base 1 "_with_signs" ["parts"] R_wsigns := cp_with_signs T
  have C_canonical : Cal P w K mg base 4 "canonical" ["number"] (RZ c_InvalidNumber c_InvalidQuestion fun ns => .v (ti (canonL ns))) := c_canonical T
  refine cal_mk T.fn_primes_of sc_primes_of (fun ds o ⟨p, h, _⟩ => by subst h; rfl) fun f cdv A outer s H E F ds o hr tk pn ⟨p, hd, hp, ho⟩ => ?_
  subst hd ho
  obtain ⟨h1, h2, h4, h5, h6, h7, h8⟩ := elev_ok hp
  obtain ⟨p1, p2⟩ := elev_pr hp
  refine ⟨.rto ((lprimes p).map ti), ?_, rfl⟩
  refine jss_cons (js_expr (je_callC C__check_prime ⟨p, rfl, by omega, h1, rfl⟩ (hr.mono (by decide)) tk (ja_cons (je_var 0 rfl) ja_nil))) ?_
  refine jss_consN (js_setLcB 1 (xs := leadF (4 * p)) (enc := ti) (ys := fun q => sortN (signsQ q)) (enc1 := ti) (p := fun _ => true) (p1 := fun _ _ => true) (f2 := fun _ x => ti x) (own := [("parts", 2), ("number", 3)]) (.one 2) (.one 3) 1000 rfl sc_primes_of.nd (ji_list (je_o2v (je_callC C__leading_parts ⟨4 * p, rfl, by omega, by omega, rfl⟩ (hr.mono (by decide)) takes0 (ja_cons (je_mul (.inl ⟨by decide, by decide⟩) je_int (je_var 0 rfl)) ja_nil)))) (blkOk_by (N := N_primes_of) (sc := defScope s_primes_of) (by decide +kernel)) (fun _ _ => trivial) (fun _ _ _ _ => trivial) (numsF_len h7) (by decide) (sw_true rfl rfl rfl (by decide +kernel)) (fun _ _ _ _ _ => pg_name (i := 2) sc_primes_of.nd rfl (Or.inl rfl)) (fun _ _ s H C cl fp => jts_nil) (fun q hq _ s H C cl fp => ji_list (je_o2v ((by obtain ⟨a, b, c, d, rfl⟩ := four (h5 q hq); exact je_callC C__with_signs ⟨a, b, c, d, rfl, rfl⟩ (hr.mono (by decide)) takes0 (ja_cons (je_var 2 rfl) ja_nil))))) (fun _ _ _ _ _ => pg_name (i := 3) sc_primes_of.nd rfl (Or.inl rfl)) (fun _ _ _ _ _ s H C cl fp => jts_nil) (fun q hq _ x hx _ s H C cl fp => (je_var 3 rfl))) (by dsimp only [List.set_cons_zero, List.set_cons_succ]) ?_
  refine jss_frzN 1 rfl (by dsimp only [List.set_cons_zero, List.set_cons_succ]) ?_
  have e : ((leadF (4 * p)).filter fun _ => true).flatMap (fun q => ((sortN (signsQ q)).filter fun _ => true).map ti) = (numsF p).map ti := nums_map p
  rw [e]
  rw [← h2]
  exact jss_one (js_retO (je_sortTT (ls := (numsF p).filter fun x => decide (canonL x = x)) hr.units (fun l hl => num_ne (h8 l (List.mem_filter.mp hl).1).1.num) T.z_sorted (je_o2v (je_lcA (xs := numsF p) (enc := ti) (f := ti) (p := fun x => decide (canonL x = x)) (own := [("number", 3)]) (.one 3) rfl sc_primes_of.nd (ji_list (je_var 1 rfl)) (blkOk_by (N := N_primes_of) (sc := defScope s_primes_of) (by decide +kernel)) (by omega) (fun _ _ => trivial) (fun _ _ _ _ _ => pg_name (i := 3) sc_primes_of.nd rfl (Or.inl rfl)) (fun x hx s H C cl fp => jts_one (jt_is (jt_eqD hr.units (sh_ti _) (sh_ti _) (je_callC C_canonical (rzg (h8 x hx).1 (h8 x hx).2) (hr.mono (by decide)) takes0 (ja_cons (je_var 3 rfl) ja_nil)) (je_var 3 rfl)) (by rw [eqv_ti]))) (fun x hx _ s H C cl fp => (je_var 3 rfl))))))
theorem c_letters : Cal P w K mg base 7 "letters" ["prime"] R_lets := by
  have C_check_odd_prime : Cal P w K mg base 4 "check_odd_prime" ["value", "most"] (R_codd c_InvalidQuestion) := c_check_odd_prime T
  have C_primes_of : Cal P w K mg base 6 "primes_of" ["prime"] R_prof := c_primes_of T
  refine cal_mk T.fn_letters sc_letters (fun ds o ⟨p, h, _⟩ => by subst h; rfl) fun f cdv A outer s H E F ds o hr tk pn ⟨p, hd, hp, ho⟩ => ?_
  subst hd ho
  obtain ⟨tM, gM⟩ := T.gi__MOST_PRIME
  exact ⟨.rto ((lprimes p).map ti), jss_cons (js_expr (je_callC C_check_odd_prime ⟨p, 199, rfl, by rw [if_pos (six_199 p hp)]⟩ (hr.mono (by decide)) tk (ja_cons (je_var 0 rfl) (ja_cons (je_glob (dp_int _) gM ⟨_, rfl⟩) ja_nil)))) (jss_one (js_retO (je_callC C_primes_of ⟨p, rfl, six_elev p hp, rfl⟩ (hr.mono (by decide)) tk (ja_cons (je_var 0 rfl) ja_nil)))), rfl⟩
theorem c_partner_of : Cal P w K mg base 5 "partner_of" ["letters", "letter"] R_parof := by
  have C_canonical : Cal P w K mg base 4 "canonical" ["number"] (RZ c_InvalidNumber c_InvalidQuestion fun ns => .v (ti (canonL ns))) := c_canonical T
  have C_conjugate : Cal P w K mg base 3 "conjugate" ["number"] (R1 c_InvalidNumber fun ns => ti (conjL ns)) := c_conjugate T
  refine cal_mk T.fn_partner_of sc_partner_of (fun ds o ⟨p, z, h, _⟩ => by subst h; rfl) fun f cdv A outer s H E F ds o hr tk pn ⟨p, z, hd, hp, h1, h2, ho⟩ => ?_
  subst hd ho
  have hl := six_len hp
  obtain ⟨gf, zf, hpi⟩ := par_in hp h1 h2
  exact ⟨.rt (.int (parF p z)), jss_one (js_ret (je_add (je_idxD (ds := (lprimes p).map ti) (d := ti (canonL (conjL ((lprimes p).getD (z - 1).toNat [])))) (z := ti (canonL (conjL ((lprimes p).getD (z - 1).toNat [])))) (j := (lprimes p).idxOf (canonL (conjL ((lprimes p).getD (z - 1).toNat [])))) (u65 hr) (sh_lti _) (sh_ti _) (idx_at hpi) (eqv_refl _ (sh_ti _)) idx_no (je_var 0 rfl) (je_callC C_canonical (rzg gf.conj (norm_ne_zero gf.conj.num (by rw [norm_conj gf.num]; exact (zero_norm gf.num).mp zf))) (hr.mono (by decide)) (by first | exact takes0 | exact tk) (ja_cons (je_callC C_conjugate (r1g gf) (hr.mono (by decide)) (by first | exact takes0 | exact tk) (ja_cons (je_ixL (ds := (lprimes p).map ti) (at_tis (xs := lprimes p) (i := (z - 1).toNat) (by omega) (by omega)) (je_var 0 rfl) (je_sub (je_var 1 rfl) je_int)) ja_nil)) ja_nil))) je_int)), rfl⟩
theorem c_word_of_number : Cal P w K mg base 6 "word_of_number" ["letters", "length", "number"] R_wnum := by
  have C_partner_of : Cal P w K mg base 5 "partner_of" ["letters", "letter"] R_parof := c_partner_of T
  refine cal_mk T.fn_word_of_number sc_word_of_number (fun ds o ⟨p, L, n, h, _⟩ => by subst h; rfl) fun f cdv A outer s H E F ds o hr tk pn ⟨p, L, n, hd, hp, hL, h0, h1, ho⟩ => ?_
  subst hd ho
  have p3 := six_pr hp
  have hlen := six_len hp
  refine ⟨.rto ((wordF p L n).map .int), ?_, rfl⟩
  refine jss_cons (js_setO 3 sc_word_of_number.nd (je_lst ja_nil)) ?_
  refine jss_cons (js_set 4 sc_word_of_number.nd (je_var 2 rfl)) ?_
  refine jss_cons (And.left (js_forFold (xs := List.range (L - 1)) (enc := fun k : Nat => PyData.int (0 + (k : Int))) (fun s : Int × List Int => [.d (.list ((lprimes p).map ti)), .d (.int (L : Int)), .d (.int n), .own (s.2.map .int), .d (.int s.1), .u, .u, .u, .u]) (fun s k => [.d (.list ((lprimes p).map ti)), .d (.int (L : Int)), .d (.int n), .own (s.2.map .int), .d (.int s.1), .d (.int (0 + (k : Int))), .u, .u, .u]) (fun (s : Int × List Int) _ => (s.1 / p, s.2 ++ [s.1 % p])) (n, []) (fun k s => s.2.length = k) pn rfl (ji_is (ji_range1 T.z_range (by omega) (by omega) (je_sub (je_var 1 rfl) je_int)) (by unfold rngD; rw [show ((L : Int) - 1).toNat = L - 1 by omega])) (jg_name 5 sc_word_of_number.nd) (Le.refl _) rfl (fun _ _ => rfl) (fun k s a e hs => ?_))) ?_
  · have hk := (List.getElem?_eq_some_iff.mp e).1
    rw [List.length_range] at hk
    refine ⟨⟨_, jss_nx (Γ1 := [.d (.list ((lprimes p).map ti)), .d (.int (L : Int)), .d (.int n), .own ((s.2 ++ [s.1 % p]).map .int), .d (.int (s.1 / p)), .d (.int (0 + (a : Int))), .d (.int (s.1 % p)), .u, .u]) (jss_cons (js_asg (je_divmod ⟨by omega, by omega⟩ T.z_divmod (je_var 4 rfl) (je_is (je_sub (je_is (je_lenL T.z_len (je_var 0 rfl)) (by rw [List.length_map, hlen])) je_int) (show _ = Out.v (.int p) by rw [Int.add_sub_cancel]))) (jg_tup rfl (jgs_cons (jg_name 4 sc_word_of_number.nd) (jgs_cons (jg_name 6 sc_word_of_number.nd) jgs_nil))) ⟨_, rfl, rfl, ⟨_, _, _, rfl, rfl, ⟨_, _, _, rfl, rfl, ⟨rfl, rfl⟩⟩⟩⟩) (jss_one (js_is (js_append 3 rfl (by rw [List.length_map]; omega) (je_var 6 rfl)) (by rw [List.map_append]; rfl)))) (.keep (.keep (.keep (.keep (.keep (.drop (.drop (.keep (.keep .nil))))))))), rfl⟩, ?_⟩
    show (s.2 ++ [s.1 % p]).length = k + 1
    rw [List.length_append, hs]
    rfl
  have hst := st_fold p (List.range (L - 1)) n []
  generalize (List.range (L - 1)).foldl (fun (s : Int × List Int) _ => (s.1 / p, s.2 ++ [s.1 % p])) (n, []) = z at hst ⊢
  rw [List.length_range, List.nil_append] at hst
  cases L with
  | zero =>
    have hz2 : z.2 = [] := List.length_eq_zero_iff.mp (by have := congrArg List.length hst; rw [List.length_append, st_len] at this; have : ([z.1] : List Int).length = 1 := rfl; omega)
    rw [hz2]
    refine jss_cons (js_ifF (jt_is (jt_gt (je_var 1 rfl) je_int) (decide_eq_false (by omega))) jss_nil) ?_
    refine jss_cons (js_setO 7 sc_word_of_number.nd (je_lst ja_nil)) ?_
    refine jss_frz 3 rfl ?_
    exact jss_cons (js_forAll (ds := []) (fun k => [.d (.list ((lprimes p).map ti)), .d (.int ((0 : Nat) : Int)), .d (.int n), .d (.list []), .d (.int z.1), .u, .u, .own [], .u]) (fun k => [.d (.list ((lprimes p).map ti)), .d (.int ((0 : Nat) : Int)), .d (.int n), .d (.list []), .d (.int z.1), .u, .u, .own [], .u]) pn rfl (ji_is (ji_revL T.z_reversed (je_var 3 rfl)) rfl) (jg_name 6 sc_word_of_number.nd) (Le.refl _) (fun k e h => by cases h) (fun k e h => by cases h)) (jss_one (js_retOwn 7 rfl))
  | succ M =>
    rw [show M + 1 - 1 = M by omega] at hst
    refine jss_cons (js_ifT (jt_is (jt_gt (je_var 1 rfl) je_int) (decide_eq_true (by omega))) (jss_one (js_is (js_append 3 rfl (by have := congrArg List.length hst; rw [List.length_append, st_len] at this; rw [List.length_map]; have : ([z.1] : List Int).length = 1 := rfl; omega) (je_var 4 rfl)) (show _ = SO.nx [.d (.list ((lprimes p).map ti)), .d (.int ((M + 1 : Nat) : Int)), .d (.int n), .own ((stF p M n).map .int), .d (.int z.1), .u, .u, .u, .u] by rw [← hst, List.map_append]; rfl)))) ?_
    refine jss_cons (js_setO 7 sc_word_of_number.nd (je_lst ja_nil)) ?_
    refine jss_frz 3 rfl ?_
    refine jss_cons (And.left (js_forFold (xs := (stF p M n).reverse) (enc := PyData.int) (fun wd : List Int => [.d (.list ((lprimes p).map ti)), .d (.int ((M + 1 : Nat) : Int)), .d (.int n), .d (.list ((stF p M n).map .int)), .d (.int z.1), .u, .u, .own (wd.map .int), .u]) (fun wd s => [.d (.list ((lprimes p).map ti)), .d (.int ((M + 1 : Nat) : Int)), .d (.int n), .d (.list ((stF p M n).map .int)), .d (.int z.1), .u, .d (.int s), .own (wd.map .int), .u]) (wStep p) [] (fun k wd => wd.length = k ∧ WZ p wd) pn rfl (ji_is (ji_revL T.z_reversed (je_var 3 rfl)) (by rw [List.map_reverse])) (jg_name 6 sc_word_of_number.nd) (Le.refl _) ⟨rfl, fun z hz => absurd hz List.not_mem_nil⟩ (fun _ _ => rfl) (fun k wd s e hs => ?_))) ?_
    · obtain ⟨g0, g1, g2⟩ := st_get hp M n h0 h1 k s e
      have hk := (List.getElem?_eq_some_iff.mp e).1
      rw [List.length_reverse, st_len] at hk
      obtain ⟨l1, hW⟩ := hs
      have lr := letP_rng (p := p) (w := wd) g0 g1 (fun hne => g2 (by have := List.length_pos_iff.mpr hne; omega))
      refine ⟨⟨_, jss_nx (Γ1 := [.d (.list ((lprimes p).map ti)), .d (.int ((M + 1 : Nat) : Int)), .d (.int n), .d (.list ((stF p M n).map .int)), .d (.int z.1), .u, .d (.int s), .own ((wStep p wd s).map .int), .d (.int (letP p wd s))]) ?_ (.keep (.keep (.keep (.keep (.keep (.keep (.drop (.keep (.drop .nil))))))))), rfl⟩, ?_, ?_⟩
      · refine jss_cons (js_is (js_set 8 sc_word_of_number.nd (je_add (je_var 6 rfl) je_int)) (show _ = SO.nx [.d (.list ((lprimes p).map ti)), .d (.int ((M + 1 : Nat) : Int)), .d (.int n), .d (.list ((stF p M n).map .int)), .d (.int z.1), .u, .d (.int s), .own (wd.map .int), .d (.int (s + 1))] from rfl)) ?_
        refine jss_cons (js_if (so := SO.nx [.d (.list ((lprimes p).map ti)), .d (.int ((M + 1 : Nat) : Int)), .d (.int n), .d (.list ((stF p M n).map .int)), .d (.int z.1), .u, .d (.int s), .own (wd.map .int), .d (.int (letP p wd s))]) (p := !(wd.map PyData.int).isEmpty && decide (parF p (wd.getD (wd.length - 1) 0) ≤ s + 1)) (jt_w (jw_and (jt_lend 7 rfl (jt_truL (je_var 7 rfl))) (fun hne => jw_and1 (jt_ge (je_var 8 rfl) ?_)))) (fun ht => ?_) (fun ht => ?_)) (jss_one (js_is (js_append 7 rfl (by rw [List.length_map]; omega) (je_var 8 rfl)) (by unfold wStep; rw [List.map_append]; rfl)))
        · have hl : 0 < wd.length := by
            cases wd with
            | nil => cases hne
            | cons x xs => exact Nat.succ_pos _
          have gl := getD_WZ hW (show wd.length - 1 < wd.length by omega)
          exact je_callC C_partner_of ⟨p, wd.getD (wd.length - 1) 0, rfl, hp, gl.1, gl.2, rfl⟩ (hr.mono (by decide)) (by first | exact takes0 | exact tk) (ja_cons (je_var 0 rfl) (ja_cons (je_own_ix 7 rfl (at_last (a := 0) hl) (je_neg je_int)) ja_nil))
        · have hc : wd ≠ [] ∧ parF p (wd.getD (wd.length - 1) 0) ≤ s + 1 := by
            obtain ⟨a, b⟩ := (Bool.and_eq_true _ _).mp ht
            exact ⟨fun q => (by rw [q] at a; cases a), of_decide_eq_true b⟩
          exact jss_one (js_is (js_augAdd 8 rfl sc_word_of_number.nd je_int) (by unfold letP; rw [if_pos hc, Int.add_assoc]; rfl))
        · have hc : ¬ (wd ≠ [] ∧ parF p (wd.getD (wd.length - 1) 0) ≤ s + 1) := fun hc => by
            rw [decide_eq_true hc.2, Bool.and_true] at ht
            cases wd with
            | nil => exact hc.1 rfl
            | cons x xs => cases ht
          exact jss_is jss_nil (by unfold letP; rw [if_neg hc])
      · unfold wStep
        rw [List.length_append, l1]
        rfl
      · intro z hz
        rcases List.mem_append.mp hz with hz | hz
        · exact hW z hz
        · rw [List.mem_singleton.mp hz]
          exact lr
    rw [word_fold]
    exact jss_one (js_retOwn 7 rfl)
theorem c_word_count : Cal P w K mg base 1 "word_count" ["many", "length"] R_wcount := by
  refine cal_mk T.fn_word_count sc_word_count (fun ds o ⟨m, n, h, _⟩ => by subst h; rfl) fun f cdv A outer s H E F ds o hr tk pn ⟨m, n, hd, h1, h2, hn, ho⟩ => ?_
  subst hd ho
  unfold pcF
  by_cases h0 : n = 0
  · subst h0
    rw [if_pos rfl]
    exact ⟨.rt (.int 1), jss_stop (js_ifT (jt_is (jt_eqI (je_var 1 rfl) je_int) rfl) (jss_one (js_ret je_int))) trivial, rfl⟩
  · rw [if_neg h0]
    refine ⟨.rt (.int (m * (m - 1) ^ (n - 1))), ?_, rfl⟩
    refine jss_cons (js_ifF (jt_is (jt_eqI (je_var 1 rfl) je_int) (decide_eq_false (by omega))) jss_nil) ?_
    refine jss_cons (js_set 2 sc_word_count.nd (je_var 0 rfl)) ?_
    refine jss_cons (js_is (js_forAll (fun k => [.d (.int m), .d (.int (n : Int)), .d (.int (m * (m - 1) ^ k)), .u]) (fun k => [.d (.int m), .d (.int (n : Int)), .d (.int (m * (m - 1) ^ k)), .d (.int (0 + (k : Int)))]) pn rfl (ji_range1 T.z_range (by omega) (by omega) (je_sub (je_var 1 rfl) je_int)) (jg_name 3 sc_word_count.nd) (le_eq (by rw [Int.pow_zero, Int.mul_one]; rfl)) (fun k e h => by
      obtain ⟨_, rfl⟩ := rngD_get h
      rfl) (fun k e h => ?_)) (show _ = SO.nx [.d (.int m), .d (.int (n : Int)), .d (.int (m * (m - 1) ^ (n - 1))), .u] by rw [rngD_len, show ((n : Int) - 1).toNat = n - 1 by omega])) (jss_one (js_ret (je_var 2 rfl)))
    obtain ⟨hk, _⟩ := rngD_get h
    refine jss_nx (Γ1 := [.d (.int m), .d (.int (n : Int)), .d (.int (m * (m - 1) ^ (k + 1))), .d (.int (0 + (k : Int)))]) (jss_one (js_is (js_augMul 2 (.inr ⟨by omega, by omega⟩) rfl sc_word_count.nd (je_sub (je_var 0 rfl) je_int)) (by rw [Int.pow_succ, Int.mul_assoc]; rfl))) (.keep (.keep (.keep (.drop .nil))))
theorem c_place_count : Cal P w K mg base 8 "place_count" ["prime", "length"] R_pcn := by
  have C_letters : Cal P w K mg base 7 "letters" ["prime"] R_lets := c_letters T
  have C_word_count : Cal P w K mg base 1 "word_count" ["many", "length"] R_wcount := c_word_count T
  refine cal_mk T.fn_place_count sc_place_count (fun ds o ⟨p, n, h, _⟩ => by subst h; rfl) fun f cdv A outer s H E F ds o hr tk pn ⟨p, n, hd, hp, hn, ho⟩ => ?_
  subst hd ho
  have hlen := six_len hp
  have p3 := six_pr hp
  exact ⟨.rt (.int (pcF (p + 1) n)), jss_cons (js_setO 2 sc_place_count.nd (je_callC C_letters ⟨p, rfl, hp, rfl⟩ (hr.mono (by decide)) (by first | exact takes0 | exact tk) (ja_cons (je_var 0 rfl) ja_nil))) (jss_cons (js_ifF (jt_is (jt_lt (je_var 1 rfl) je_int) (decide_eq_false (by omega))) jss_nil) (jss_one (js_ret (je_callC C_word_count ⟨p + 1, n, rfl, by omega, by omega, by omega, rfl⟩ (hr.mono (by decide)) (by first | exact takes0 | exact tk) (ja_cons (je_is (je_own_len 2 rfl T.z_len) (by rw [List.length_map, hlen])) (ja_cons (je_var 1 rfl) ja_nil)))))), rfl⟩
theorem c_word_at : Cal P w K mg base 9 "word_at" ["prime", "length", "number"] (R_wat c_InvalidQuestion) := by
  have C_letters : Cal P w K mg base 7 "letters" ["prime"] R_lets := c_letters T
  have C_word_of_number : Cal P w K mg base 6 "word_of_number" ["letters", "length", "number"] R_wnum := c_word_of_number T
  have C_place_count : Cal P w K mg base 8 "place_count" ["prime", "length"] R_pcn := c_place_count T
  refine cal_mk T.fn_word_at sc_word_at (fun ds o ⟨p, L, n, h, _⟩ => by subst h; rfl) fun f cdv A outer s H E F ds o hr tk pn ⟨p, L, n, hd, hp, hL, h⟩ => ?_
  subst hd
  rcases h with ⟨h0, h1, h⟩ | ⟨h0, h⟩
  · subst h
    exact ⟨.rt (ti (wordF p L n)), jss_cons (js_ifF (jt_is (jt_not (jt_leLt je_int (je_var 2 rfl) (je_callC C_place_count ⟨p, L, rfl, hp, by omega, rfl⟩ (hr.mono (by decide)) (by first | exact takes0 | exact tk) (ja_cons (je_var 0 rfl) (ja_cons (je_var 1 rfl) ja_nil))))) (by rw [decide_eq_true h0, decide_eq_true h1]; rfl)) jss_nil) (jss_one (js_ret (je_tupL T.z_tuple (je_o2v (je_callC C_word_of_number ⟨p, L, n, rfl, hp, hL, h0, h1, rfl⟩ (hr.mono (by decide)) (by first | exact takes0 | exact tk) (ja_cons (je_o2v (je_callC C_letters ⟨p, rfl, hp, rfl⟩ (hr.mono (by decide)) (by first | exact takes0 | exact tk) (ja_cons (je_var 0 rfl) ja_nil))) (ja_cons (je_var 1 rfl) (ja_cons (je_var 2 rfl) ja_nil)))))))), rfl⟩
  · subst h
    exact ⟨.x c_InvalidQuestion _, jss_stop (js_ifT (jt_is (jt_not (jt_leLt je_int (je_var 2 rfl) (je_callC C_place_count ⟨p, L, rfl, hp, by omega, rfl⟩ (hr.mono (by decide)) (by first | exact takes0 | exact tk) (ja_cons (je_var 0 rfl) (ja_cons (je_var 1 rfl) ja_nil))))) (by rw [← Bool.decide_and, decide_eq_false h0]; rfl)) (jss_one (js_raise T.e_InvalidQuestion rfl tk))) trivial, rfl⟩
theorem c_law_told : Cal P w K mg base 10 "_law_told" ["prime", "length", "number"] R_told73 := by
  have C_word_at : Cal P w K mg base 9 "word_at" ["prime", "length", "number"] (R_wat c_InvalidQuestion) := c_word_at T
  refine cal_mk T.fn_law_told sc_law_told (fun ds o ⟨p, L, n, h, _⟩ => by subst h; rfl) fun f cdv A outer s H E F ds o hr tk pn ⟨p, L, n, hd, hp, hL, ho⟩ => ?_
  subst hd ho
  by_cases h : 0 ≤ n ∧ n < pcF (p + 1) L
  · rw [if_pos h]
    exact ⟨.rt (ti (wordF p L n)), jss_one (js_bare (C1 := c_InvalidQuestion) 0 ⟨rfl, by decide, .inl T.e_InvalidQuestion.g⟩ tk sc_law_told.nd trivial (fun W2 pn2 xe2 tk2 _ => jss_one (js_ret (je_callC C_word_at ⟨p, L, n, rfl, hp, hL, .inl ⟨h.1, h.2, rfl⟩⟩ (hr.mono (by decide)) tk2 (ja_cons (je_var 0 rfl) (ja_cons (je_var 1 rfl) (ja_cons (je_var 2 rfl) ja_nil))))))), rfl⟩
  · rw [if_neg h]
    exact ⟨.rt (.str "question"), jss_one (js_bareX (C1 := c_InvalidQuestion) (c := c_InvalidQuestion) (Γ1 := begin_ N_law_told [.int p, .int (L : Int), .int n]) 0 ⟨rfl, by decide, .inl T.e_InvalidQuestion.g⟩ tk sc_law_told.nd T.m_InvalidQuestion_InvalidQuestion (fun W2 pn2 xe2 tk2 _ => jss_one (js_retX (je_callC C_word_at ⟨p, L, n, rfl, hp, hL, .inr ⟨h, rfl⟩⟩ (hr.mono (by decide)) tk2 (ja_cons (je_var 0 rfl) (ja_cons (je_var 1 rfl) (ja_cons (je_var 2 rfl) ja_nil)))))) (fun a oe pn2 hz2 hfl => jss_one (js_ret je_str))), rfl⟩
theorem c_law_letters : Cal P w K mg base 2 "_law_letters" ["prime"] R_llet := by
  have C__law_units : Cal P w K mg base 1 "_law_units" [] R_lunits := c_law_units T
  have C__law_product : Cal P w K mg base 1 "_law_product" ["one", "other"] R_law_times := c_law_product T
  refine cal_mk T.fn_law_letters sc_law_letters (fun ds o ⟨p, h, _⟩ => by subst h; rfl) fun f cdv A outer s H E F ds o hr tk pn ⟨p, hd, hp, ho⟩ => ?_
  subst hd ho
  obtain ⟨e1, e2, e3⟩ := letters_eq hp
  obtain ⟨_, p3, p17⟩ := six_small hp
  refine ⟨.rto ((lprimes p).map ti), ?_, rfl⟩
  rw [← e1]
  have rgn : rngD (-2 * p) (2 * p - -2 * p).toNat = (List.range (4 * p).toNat).map fun j : Nat => PyData.int (-2 * p + (j : Int)) := by
    unfold rngD
    rw [show (2 * p - -2 * p).toNat = (4 * p).toNat by omega]
  have rga : rngD 1 (2 * p - 1).toNat = (List.range (2 * p - 1).toNat).map fun i : Nat => PyData.int (1 + (i : Int)) := rfl
  refine jss_cons (js_is (js_setQ 1 sc_law_letters.nd je_dNew) (show _ = SO.nx [.d (.int p), .q (dkO (dkI [])), .u, .u, .u, .u, .u, .u, .u, .u, .u, .u] from rfl)) ?_
  refine jss_cons (And.left (js_forFold (xs := List.range (2 * p).toNat) (enc := fun k : Nat => PyData.int (0 + (k : Int))) (fun acc : List (Int × Int) => [.d (.int p), .q (dkO (dkI acc)), .u, .u, .u, .u, .u, .u, .u, .u, .u, .u]) (fun acc (k : Nat) => [.d (.int p), .q (dkO (dkI acc)), .d (.int (0 + (k : Int))), .u, .u, .u, .u, .u, .u, .u, .u, .u]) (fun acc d => putI acc ((0 + (d : Int)) * (0 + (d : Int))) (0 + (d : Int))) [] (fun k acc => acc.length ≤ k) pn rfl (ji_range1 T.z_range (by omega) (by omega) (je_mul (.inl ⟨by decide, by decide⟩) je_int (je_var 0 rfl))) (jg_name 2 sc_law_letters.nd) (Le.refl _) (Nat.zero_le _) (fun _ _ => rfl) (fun k acc d ed hI => ?_))) ?_
  · have hd := rng_lt ed
    have hk := (List.getElem?_eq_some_iff.mp ed).1
    rw [List.length_range] at hk
    have bd : Bt 10 (0 + (d : Int)) := by unfold Bt; omega
    refine ⟨⟨_, jss_nx (jss_one (js_is (js_dSet 1 (u1 hr.units) rfl (key := .inl ((0 + (d : Int)) * (0 + (d : Int)))) (x := .int (0 + (d : Int))) (by unfold dkI; rw [List.length_map]; omega) (je_var 2 rfl) (je_mulW (cm bd bd) (je_var 2 rfl) (je_var 2 rfl))) (show _ = SO.nx [.d (.int p), .q (dkO (dkI (putI acc ((0 + (d : Int)) * (0 + (d : Int))) (0 + (d : Int))))), .d (.int (0 + (d : Int))), .u, .u, .u, .u, .u, .u, .u, .u, .u] by rw [put_dkI]; rfl))) (.keep (.keep (.drop (.keep (.keep (.keep (.keep (.keep (.keep (.keep (.keep (.keep .nil)))))))))))), rfl⟩, by have := put_len acc ((0 + (d : Int)) * (0 + (d : Int))) (0 + (d : Int)); omega⟩
  show JSs _ _ _ _ [.d (.int p), .q (dkO (dkI (rootsX p))), .u, .u, .u, .u, .u, .u, .u, .u, .u, .u] _ _
  refine jss_cons (js_is (js_setO 3 sc_law_letters.nd (je_lst ja_nil)) (show _ = SO.nx [.d (.int p), .q (dkO (dkI (rootsX p))), .u, .own ([]), .u, .u, .u, .u, .u, .u, .u, .u] from rfl)) ?_
  have top : ([] ++ (List.range (2 * p - 1).toNat).flatMap fun (i : Nat) => blkA p (1 + (i : Int))).length ≤ 400 := by rw [List.nil_append]; exact e2
  refine jss_cons (js_is (And.left (js_forFold (xs := List.range (2 * p - 1).toNat) (enc := fun i : Nat => PyData.int (1 + (i : Int))) (fun F : List (List Int) => [.d (.int p), .q (dkO (dkI (rootsX p))), .u, .own ((F).map ti), .u, .u, .u, .u, .u, .u, .u, .u]) (fun F (i : Nat) => [.d (.int p), .q (dkO (dkI (rootsX p))), .u, .own ((F).map ti), .d (.int (1 + (i : Int))), .u, .u, .u, .u, .u, .u, .u]) (fun F i => F ++ blkA p (1 + (i : Int))) [] (fun k F => F = [] ++ ((List.range (2 * p - 1).toNat).take k).flatMap fun (i : Nat) => blkA p (1 + (i : Int))) pn rfl (ji_is (ji_range2 T.z_range (by omega) je_int (je_mul (.inl ⟨by decide, by decide⟩) je_int (je_var 0 rfl))) rga) (jg_name 4 sc_law_letters.nd) (Le.refl _) (by rfl) (fun _ _ => rfl) (fun i0 F i ei hF => ?_))) (show _ = SO.nx [.d (.int p), .q (dkO (dkI (rootsX p))), .u, .own ((rowsX p).map ti), .u, .u, .u, .u, .u, .u, .u, .u] by rw [fmx_fold]; rfl)) ?_
  · refine ⟨?_, by rw [hF]; exact fmx_step (f := fun (i : Nat) => blkA p (1 + (i : Int))) ei⟩
    have hi := rng_lt ei
    have ba : Bt 10 (1 + (i : Int)) := by unfold Bt; omega
    have lF : (F ++ blkA p (1 + (i : Int))).length ≤ 400 := by rw [hF]; exact fmx_len (f := fun (i : Nat) => blkA p (1 + (i : Int))) top ei
    refine ⟨_, jss_nx (jss_one (js_is (And.left (js_forFold (xs := List.range (4 * p).toNat) (enc := fun j : Nat => PyData.int (-2 * p + (j : Int))) (fun F' : List (List Int) => [.d (.int p), .q (dkO (dkI (rootsX p))), .u, .own ((F').map ti), .d (.int (1 + (i : Int))), .u, .u, .u, .u, .u, .u, .u]) (fun F' (j : Nat) => [.d (.int p), .q (dkO (dkI (rootsX p))), .u, .own ((F').map ti), .d (.int (1 + (i : Int))), .d (.int (-2 * p + (j : Int))), .u, .u, .u, .u, .u, .u]) (fun F' j => F' ++ blkB p (1 + (i : Int)) (-2 * p + (j : Int))) F (fun k F' => F' = F ++ ((List.range (4 * p).toNat).take k).flatMap fun (j : Nat) => blkB p (1 + (i : Int)) (-2 * p + (j : Int))) pn rfl (ji_is (ji_range2 T.z_range (by omega) (je_mul (i := -2) (.inl ⟨by decide, by decide⟩) (je_neg je_int) (je_var 0 rfl)) (je_mul (.inl ⟨by decide, by decide⟩) je_int (je_var 0 rfl))) rgn) (jg_name 5 sc_law_letters.nd) (Le.refl _) (by rw [List.take_zero]; simp) (fun _ _ => rfl) (fun j0 F' j ej hF' => ?_))) (show _ = SO.nx [.d (.int p), .q (dkO (dkI (rootsX p))), .u, .own ((F ++ blkA p (1 + (i : Int))).map ti), .d (.int (1 + (i : Int))), .u, .u, .u, .u, .u, .u, .u] by rw [fmx_fold]; rfl))) (.keep (.keep (.keep (.keep (.drop (.drop (.drop (.drop (.keep (.keep (.keep (.keep .nil)))))))))))), rfl⟩
    refine ⟨?_, by rw [hF']; exact fmx_step (f := fun (j : Nat) => blkB p (1 + (i : Int)) (-2 * p + (j : Int))) ej⟩
    have hj := rng_lt ej
    have bb : Bt 10 (-2 * p + (j : Int)) := by unfold Bt; omega
    have lF' : (F' ++ blkB p (1 + (i : Int)) (-2 * p + (j : Int))).length ≤ 400 := by rw [hF']; exact fmx_len (f := fun (j : Nat) => blkB p (1 + (i : Int)) (-2 * p + (j : Int))) lF ej
    by_cases hab : (1 + (i : Int)) * (1 + (i : Int)) + (-2 * p + (j : Int)) * (-2 * p + (j : Int)) ≤ 4 * p ∧ ((1 + (i : Int)) + (-2 * p + (j : Int))) % 2 = 0
    · have eB : blkB p (1 + (i : Int)) (-2 * p + (j : Int)) = (List.range (4 * p).toNat).flatMap fun (l : Nat) => blkC p (1 + (i : Int)) (-2 * p + (j : Int)) (-2 * p + (l : Int)) := if_pos hab
      rw [eB] at lF' ⊢
      refine ⟨_, jss_nx (jss_one (js_ifT (jt_is (jt_w (jw_and (jt_le (je_add (je_mulW (cm ba ba) (je_var 4 rfl) (je_var 4 rfl)) (je_mulW (cm bb bb) (je_var 5 rfl) (je_var 5 rfl))) (je_mul (.inl ⟨by decide, by decide⟩) je_int (je_var 0 rfl))) (fun _ => jw_and1 (jt_eqI (je_mod (by decide) (je_intI T.z_int (je_add (je_var 4 rfl) (je_var 5 rfl))) je_int) je_int)))) (by rw [decide_eq_true hab.1, decide_eq_true hab.2]; rfl)) (jss_one (js_is (And.left (js_forFold (xs := List.range (4 * p).toNat) (enc := fun l : Nat => PyData.int (-2 * p + (l : Int))) (fun F2 : List (List Int) => [.d (.int p), .q (dkO (dkI (rootsX p))), .u, .own ((F2).map ti), .d (.int (1 + (i : Int))), .d (.int (-2 * p + (j : Int))), .u, .u, .u, .u, .u, .u]) (fun F2 (l : Nat) => [.d (.int p), .q (dkO (dkI (rootsX p))), .u, .own ((F2).map ti), .d (.int (1 + (i : Int))), .d (.int (-2 * p + (j : Int))), .d (.int (-2 * p + (l : Int))), .u, .u, .u, .u, .u]) (fun F2 l => F2 ++ blkC p (1 + (i : Int)) (-2 * p + (j : Int)) (-2 * p + (l : Int))) F' (fun k F2 => F2 = F' ++ ((List.range (4 * p).toNat).take k).flatMap fun (l : Nat) => blkC p (1 + (i : Int)) (-2 * p + (j : Int)) (-2 * p + (l : Int))) pn rfl (ji_is (ji_range2 T.z_range (by omega) (je_mul (i := -2) (.inl ⟨by decide, by decide⟩) (je_neg je_int) (je_var 0 rfl)) (je_mul (.inl ⟨by decide, by decide⟩) je_int (je_var 0 rfl))) rgn) (jg_name 6 sc_law_letters.nd) (Le.refl _) (by rw [List.take_zero]; simp) (fun _ _ => rfl) (fun l0 F2 l el hF2 => ?_))) (show _ = SO.nx [.d (.int p), .q (dkO (dkI (rootsX p))), .u, .own ((F' ++ (List.range (4 * p).toNat).flatMap fun (l : Nat) => blkC p (1 + (i : Int)) (-2 * p + (j : Int)) (-2 * p + (l : Int))).map ti), .d (.int (1 + (i : Int))), .d (.int (-2 * p + (j : Int))), .u, .u, .u, .u, .u, .u] by rw [fmx_fold]))))) (.keep (.keep (.keep (.keep (.keep (.drop (.drop (.drop (.keep (.keep (.keep (.keep .nil)))))))))))), rfl⟩
      refine ⟨?_, by rw [hF2]; exact fmx_step (f := fun (l : Nat) => blkC p (1 + (i : Int)) (-2 * p + (j : Int)) (-2 * p + (l : Int))) el⟩
      have hl := rng_lt el
      have bc : Bt 10 (-2 * p + (l : Int)) := by unfold Bt; omega
      have lF2 : (F2 ++ blkC p (1 + (i : Int)) (-2 * p + (j : Int)) (-2 * p + (l : Int))).length ≤ 400 := by rw [hF2]; exact fmx_len (f := fun (l : Nat) => blkC p (1 + (i : Int)) (-2 * p + (j : Int)) (-2 * p + (l : Int))) lF' el
      refine ⟨_, jss_nx (jss_cons (js_is (js_set 7 sc_law_letters.nd (je_sub (je_sub (je_sub (je_mul (.inl ⟨by decide, by decide⟩) je_int (je_var 0 rfl)) (je_mulW (cm ba ba) (je_var 4 rfl) (je_var 4 rfl))) (je_mulW (cm bb bb) (je_var 5 rfl) (je_var 5 rfl))) (je_mulW (cm bc bc) (je_var 6 rfl) (je_var 6 rfl)))) (show _ = SO.nx [.d (.int p), .q (dkO (dkI (rootsX p))), .u, .own ((F2).map ti), .d (.int (1 + (i : Int))), .d (.int (-2 * p + (j : Int))), .d (.int (-2 * p + (l : Int))), .d (.int (4 * p - (1 + (i : Int)) * (1 + (i : Int)) - (-2 * p + (j : Int)) * (-2 * p + (j : Int)) - (-2 * p + (l : Int)) * (-2 * p + (l : Int)))), .u, .u, .u, .u] from rfl)) (jss_one (js_if (so := SO.nx [.d (.int p), .q (dkO (dkI (rootsX p))), .u, .own ((F2 ++ blkC p (1 + (i : Int)) (-2 * p + (j : Int)) (-2 * p + (l : Int))).map ti), .d (.int (1 + (i : Int))), .d (.int (-2 * p + (j : Int))), .d (.int (-2 * p + (l : Int))), .d (.int (4 * p - (1 + (i : Int)) * (1 + (i : Int)) - (-2 * p + (j : Int)) * (-2 * p + (j : Int)) - (-2 * p + (l : Int)) * (-2 * p + (l : Int)))), .u, .u, .u, .u]) (jt_w (jw_and (jt_dIn 1 (u1 hr.units) rfl (key := .inl (4 * p - (1 + (i : Int)) * (1 + (i : Int)) - (-2 * p + (j : Int)) * (-2 * p + (j : Int)) - (-2 * p + (l : Int)) * (-2 * p + (l : Int)))) (je_var 7 rfl)) (fun _ => jw_and1 (jt_eqI (je_mod (by decide) (je_intI T.z_int (je_add (je_var 4 rfl) (je_var 6 rfl))) je_int) je_int)))) (fun ht => ?_) (fun ht => ?_)))) (.keep (.keep (.keep (.keep (.keep (.keep (.drop (.drop (.keep (.keep (.keep (.keep .nil)))))))))))), rfl⟩
      · obtain ⟨t1, t2⟩ := (Bool.and_eq_true _ _).mp ht
        rw [look_dkI, Option.isSome_map] at t1
        obtain ⟨y, hL⟩ := Option.isSome_iff_exists.mp t1
        have eC : blkC p (1 + (i : Int)) (-2 * p + (j : Int)) (-2 * p + (l : Int)) = [[(1 + (i : Int)), (-2 * p + (j : Int)), (-2 * p + (l : Int)), y], [(1 + (i : Int)), (-2 * p + (j : Int)), (-2 * p + (l : Int)), -y]] := by
          unfold TB.blkC
          rw [hL]
          exact if_pos (of_decide_eq_true t2)
        rw [eC] at lF2 ⊢
        rw [List.length_append] at lF2
        exact jss_one (js_is (js_setO 3 sc_law_letters.nd (je_own_cat 3 rfl (by rw [List.length_map]; show _ + 2 ≤ 100000; omega) (je_lst (ja_cons (je_tup (ja_cons (je_var 4 rfl) (ja_cons (je_var 5 rfl) (ja_cons (je_var 6 rfl) (ja_cons (je_dIx 1 (u1 hr.units) rfl (key := .inl (4 * p - (1 + (i : Int)) * (1 + (i : Int)) - (-2 * p + (j : Int)) * (-2 * p + (j : Int)) - (-2 * p + (l : Int)) * (-2 * p + (l : Int)))) (d := .int y) (by rw [look_dkI, hL]; rfl) (je_var 7 rfl)) ja_nil))))) (ja_cons (je_tup (ja_cons (je_var 4 rfl) (ja_cons (je_var 5 rfl) (ja_cons (je_var 6 rfl) (ja_cons (je_neg (je_dIx 1 (u1 hr.units) rfl (key := .inl (4 * p - (1 + (i : Int)) * (1 + (i : Int)) - (-2 * p + (j : Int)) * (-2 * p + (j : Int)) - (-2 * p + (l : Int)) * (-2 * p + (l : Int)))) (d := .int y) (by rw [look_dkI, hL]; rfl) (je_var 7 rfl))) ja_nil))))) ja_nil))))) (by rw [List.map_append]; rfl))
      · have eC : blkC p (1 + (i : Int)) (-2 * p + (j : Int)) (-2 * p + (l : Int)) = [] := by
          unfold TB.blkC
          rcases (Bool.and_eq_false_iff).mp ht with t1 | t2
          · rw [look_dkI, Option.isSome_map] at t1
            cases hL : lookI (rootsX p) (4 * p - (1 + (i : Int)) * (1 + (i : Int)) - (-2 * p + (j : Int)) * (-2 * p + (j : Int)) - (-2 * p + (l : Int)) * (-2 * p + (l : Int))) with
            | none => rfl
            | some y => rw [hL] at t1; cases t1
          · cases lookI (rootsX p) (4 * p - (1 + (i : Int)) * (1 + (i : Int)) - (-2 * p + (j : Int)) * (-2 * p + (j : Int)) - (-2 * p + (l : Int)) * (-2 * p + (l : Int))) with
            | none => rfl
            | some y => exact if_neg (of_decide_eq_false t2)
        rw [eC, List.append_nil]
        exact jss_nil
    · have eB : blkB p (1 + (i : Int)) (-2 * p + (j : Int)) = [] := if_neg hab
      rw [eB, List.append_nil]
      refine ⟨_, jss_nx (jss_one (js_ifF (jt_is (jt_w (jw_and (jt_le (je_add (je_mulW (cm ba ba) (je_var 4 rfl) (je_var 4 rfl)) (je_mulW (cm bb bb) (je_var 5 rfl) (je_var 5 rfl))) (je_mul (.inl ⟨by decide, by decide⟩) je_int (je_var 0 rfl))) (fun _ => jw_and1 (jt_eqI (je_mod (by decide) (je_intI T.z_int (je_add (je_var 4 rfl) (je_var 5 rfl))) je_int) je_int)))) (by
        by_cases h1 : (1 + (i : Int)) * (1 + (i : Int)) + (-2 * p + (j : Int)) * (-2 * p + (j : Int)) ≤ 4 * p
        · rw [decide_eq_true h1, decide_eq_false (fun q => hab ⟨h1, q⟩)]; rfl
        · rw [decide_eq_false h1]; rfl)) jss_nil)) (.keep (.keep (.keep (.keep (.keep (.drop (.drop (.drop (.keep (.keep (.keep (.keep .nil)))))))))))), rfl⟩
  refine jss_cons (js_setO 8 sc_law_letters.nd (je_lst ja_nil)) ?_
  refine jss_cons (js_is (js_setQ 9 sc_law_letters.nd je_tNew) (show _ = SO.nx [.d (.int p), .q (dkO (dkI (rootsX p))), .u, .own ((rowsX p).map ti), .u, .u, .u, .u, .own [], .q (tkO P w ([])), .u, .u] from rfl)) ?_
  refine jss_frz (ds := (rowsX p).map ti) 3 rfl ?_
  have hrows : ∀ x ∈ (sortLL (rowsX p)).reverse, isNum x = true ∧ normL x = p := fun x hx => e3 x ((sort_perm _).mem_iff.mp (List.mem_reverse.mp hx))
  have lrows : (sortLL (rowsX p)).reverse.length ≤ 400 := by rw [List.length_reverse, (sort_perm _).length_eq]; exact e2
  refine jss_cons (js_is (And.left (js_forFold (xs := (sortLL (rowsX p)).reverse) (enc := ti) (fun F : List (List Int) => [.d (.int p), .q (dkO (dkI (rootsX p))), .u, .d (.list ((rowsX p).map ti)), .u, .u, .u, .u, .own (F.map ti), .q (tkO P w (knownX F)), .u, .u]) (fun F (row : List Int) => [.d (.int p), .q (dkO (dkI (rootsX p))), .u, .d (.list ((rowsX p).map ti)), .u, .u, .u, .u, .own (F.map ti), .q (tkO P w (knownX F)), .d (ti row), .u]) stepX [] (fun k F => F.length ≤ k) pn rfl (ji_list (je_is (je_o2v (je_revL (je_o2v (je_sortTT hr.units (fun l hl => fun z => by have := num_len (e3 l hl).1; rw [z] at this; cases this) T.z_sorted (je_var 3 rfl))))) (by rw [List.map_reverse]))) (jg_name 10 sc_law_letters.nd) (Le.refl _) (Nat.zero_le _) (fun _ _ => rfl) (fun k F row er hF => ?_))) (show _ = SO.nx [.d (.int p), .q (dkO (dkI (rootsX p))), .u, .d (.list ((rowsX p).map ti)), .u, .u, .u, .u, .own (((sortLL (rowsX p)).reverse.foldl stepX []).map ti), .q (tkO P w (knownX ((sortLL (rowsX p)).reverse.foldl stepX []))), .u, .u] from rfl)) ?_
  · have hrow := hrows row (List.mem_of_getElem? er)
    have hk := (List.getElem?_eq_some_iff.mp er).1
    have srow : Sm 400000 row := ((norm_G (n := 3) hrow.1 (by rw [hrow.2]; omega)).sm).mono (by decide)
    have kl := knownX_len F
    by_cases hkn : row ∈ knownX F
    · have e : stepX F row = F := if_pos hkn
      rw [e]
      exact ⟨⟨_, jss_nx (jss_one (js_ifF (jt_is (jt_tNotIn 9 (u1 hr.units) rfl (je_var 10 rfl)) (by rw [decide_eq_true hkn]; rfl)) jss_nil)) (.keep (.keep (.keep (.keep (.keep (.keep (.keep (.keep (.keep (.keep (.drop (.drop .nil)))))))))))), rfl⟩, by omega⟩
    · have e : stepX F row = F ++ [row] := if_neg hkn
      rw [e]
      refine ⟨⟨_, jss_nx (jss_one (js_ifT (jt_is (jt_tNotIn 9 (u1 hr.units) rfl (je_var 10 rfl)) (by rw [decide_eq_false hkn]; rfl)) (jss_cons (js_is (js_append 8 rfl (by rw [List.length_map]; omega) (je_var 10 rfl)) (show _ = SO.nx [.d (.int p), .q (dkO (dkI (rootsX p))), .u, .d (.list ((rowsX p).map ti)), .u, .u, .u, .u, .own ((F ++ [row]).map ti), .q (tkO P w (knownX F)), .d (ti row), .u] by rw [show F.map ti ++ [ti row] = (F ++ [row]).map ti by rw [List.map_append]; rfl]; rfl)) (jss_one (js_is (And.left (js_forFold (xs := lunits) (enc := ti) (fun ks : List (List Int) => [.d (.int p), .q (dkO (dkI (rootsX p))), .u, .d (.list ((rowsX p).map ti)), .u, .u, .u, .u, .own ((F ++ [row]).map ti), .q (tkO P w (ks)), .d (ti row), .u]) (fun ks (u : List Int) => [.d (.int p), .q (dkO (dkI (rootsX p))), .u, .d (.list ((rowsX p).map ti)), .u, .u, .u, .u, .own ((F ++ [row]).map ti), .q (tkO P w (ks)), .d (ti row), .d (ti u)]) (fun ks u => insK ks (mulL row u)) (knownX F) (fun k2 ks => ks.length ≤ 9600 + k2) pn rfl (ji_list (je_o2v (je_callC0 C__law_units ⟨rfl, rfl⟩ (hr.mono (by decide)) takes0 (by trivial)))) (jg_name 11 sc_law_letters.nd) (Le.refl _) (by omega) (fun _ _ => rfl) (fun k2 ks u eu hU => ?_))) (show _ = SO.nx [.d (.int p), .q (dkO (dkI (rootsX p))), .u, .d (.list ((rowsX p).map ti)), .u, .u, .u, .u, .own ((F ++ [row]).map ti), .q (tkO P w (knownX (F ++ [row]))), .d (ti row), .u] by rw [knownX_app]; rfl)))))) (.keep (.keep (.keep (.keep (.keep (.keep (.keep (.keep (.keep (.keep (.drop (.drop .nil)))))))))))), rfl⟩, by rw [List.length_append]; show F.length + 1 ≤ k + 1; omega⟩
      have gu := units_G u (lunits_perm.mem_iff.mp (List.mem_of_getElem? eu))
      have hk2 := (List.getElem?_eq_some_iff.mp eu).1
      rw [lunits_len] at hk2
      refine ⟨⟨_, jss_nx (jss_one (js_is (js_tSet 9 (u1 hr.units) rfl (by omega) je_bl (je_callC C__law_product ⟨row, u, rfl, num_len hrow.1, num_len gu.num, srow, gu.sm.mono (by decide), rfl⟩ (hr.mono (by decide)) tk (ja_cons (je_var 10 rfl) (ja_cons (je_var 11 rfl) ja_nil)))) (show _ = SO.nx [.d (.int p), .q (dkO (dkI (rootsX p))), .u, .d (.list ((rowsX p).map ti)), .u, .u, .u, .u, .own ((F ++ [row]).map ti), .q (tkO P w (insK ks (mulL row u))), .d (ti row), .d (ti u)] from rfl))) (.keep (.keep (.keep (.keep (.keep (.keep (.keep (.keep (.keep (.keep (.keep (.drop .nil)))))))))))), rfl⟩, by have := insK_len ks (mulL row u); omega⟩
  refine jss_frz (ds := ((sortLL (rowsX p)).reverse.foldl stepX []).map ti) 8 rfl ?_
  exact jss_one (js_retO (je_is (je_revL (je_var 8 rfl)) (by unfold lettersX; rw [List.map_reverse])))
theorem c_law_partner : Cal P w K mg base 3 "_law_partner" ["known", "letter"] R_parof := by
  have C__law_turned : Cal P w K mg base 1 "_law_turned" ["number"] R_law_turned := c_law_turned T
  have C__law_greatest : Cal P w K mg base 2 "_law_greatest" ["number"] R_law_greatest := c_law_greatest T
  refine cal_mk T.fn_law_partner sc_law_partner (fun ds o ⟨p, z, h, _⟩ => by subst h; rfl) fun f cdv A outer s H E F ds o hr tk pn ⟨p, z, hd, hp, h1, h2, ho⟩ => ?_
  subst hd ho
  have hl := six_len hp
  obtain ⟨gf, zf, hpi⟩ := par_in hp h1 h2
  exact ⟨.rt (.int (parF p z)), jss_one (js_ret (je_add (je_idxD (ds := (lprimes p).map ti) (d := ti (canonL (conjL ((lprimes p).getD (z - 1).toNat [])))) (z := ti (canonL (conjL ((lprimes p).getD (z - 1).toNat [])))) (j := (lprimes p).idxOf (canonL (conjL ((lprimes p).getD (z - 1).toNat [])))) (u65 hr) (sh_lti _) (sh_ti _) (idx_at hpi) (eqv_refl _ (sh_ti _)) idx_no (je_var 0 rfl) (je_callC C__law_greatest ⟨_, rfl, gf.conj.num, gf.conj.sm.mono (by decide), rfl⟩ (hr.mono (by decide)) (by first | exact takes0 | exact tk) (ja_cons (je_callC C__law_turned ⟨_, rfl, num_len gf.num, rfl⟩ (hr.mono (by decide)) (by first | exact takes0 | exact tk) (ja_cons (je_ixL (ds := (lprimes p).map ti) (at_tis (xs := lprimes p) (i := (z - 1).toNat) (by omega) (by omega)) (je_var 0 rfl) (je_sub (je_var 1 rfl) je_int)) ja_nil)) ja_nil))) je_int)), rfl⟩
theorem cp_check_word : Cal P w K mg base 5 "_check_word" ["prime", "word"] R_chkw := by
  have C_check_odd_prime : Cal P w K mg base 4 "check_odd_prime" ["value", "most"] (R_codd c_InvalidQuestion) := c_check_odd_prime T
  have C_is_plain_integer : Cal P w K mg base 1 "is_plain_integer" ["value"] R_isint := c_is_plain_integer T
  refine cal_mk T.fn_p_check_word sc_p_check_word (fun ds o ⟨p, d, zs, h, _⟩ => by subst h; rfl) fun f cdv A outer s H E F ds o hr tk pn ⟨p, d, zs, hd, sq, hp, hl, hz1, ho⟩ => ?_
  subst hd ho
  obtain ⟨tM, gM⟩ := T.gi__MOST_PRIME
  exact ⟨.nx _, jss_cons (js_expr (je_callC C_check_odd_prime ⟨p, 199, rfl, by rw [if_pos (six_199 p hp)]⟩ (hr.mono (by decide)) tk (ja_cons (je_var 0 rfl) (ja_cons (je_glob (dp_int _) gM ⟨_, rfl⟩) ja_nil)))) (jss_one (js_ifF (jt_is (jt_not (jt_val (je_allB rfl T.z_all (je_o2v (je_lcE0 PyData.bool (xs := zs) (enc := PyData.int) (g := fun _ => true) (own := [("letter", 2)]) (.one 2) rfl sc_p_check_word.nd (ji_seq sq (je_var 1 rfl)) (blkOk_by (N := N_p_check_word) (sc := defScope s_p_check_word) (by decide +kernel)) (by omega) (fun _ _ => trivial) (fun _ _ _ _ _ => pg_name (i := 2) sc_p_check_word.nd rfl (Or.inl rfl)) (fun z hz s H C cl fp => je_is (je_and (je_callC C_is_plain_integer (.inl ⟨_, rfl, rfl⟩) (hr.mono (by decide)) takes0 (ja_cons (je_var 2 rfl) ja_nil)) (fun _ => je_and1 (je_leLe je_int (je_var 2 rfl) (je_add (je_var 0 rfl) je_int)))) (by rw [decide_eq_true (hz1 z hz).1, decide_eq_true (hz1 z hz).2]; rfl))))))) (by rw [all_true_map]; rfl)) jss_nil)), rfl⟩
theorem c_law_prime : Cal P w K mg base 1 "_law_prime" ["number"] R_lprm := by
  refine cal_mk T.fn_law_prime sc_law_prime (fun ds o ⟨z, h, _⟩ => by subst h; rfl) fun f cdv A outer s H E F ds o hr tk pn ⟨z, hd, ho⟩ => ?_
  subst hd ho
  have m0 := Int.emod_nonneg z (show (8 : Int) ≠ 0 by decide)
  have m1 := Int.emod_lt_of_pos z (show (0 : Int) < 8 by decide)
  exact ⟨.rt (.int (eightX.getD (z % 8).toNat 0)), jss_one (js_ret (je_ixL (ds := eightX.map .int) (at_ints (i := (z % 8).toNat) (by omega) (by show _ < 8; omega)) (je_is (je_o2v (je_lst (ja_cons je_int (ja_cons je_int (ja_cons je_int (ja_cons je_int (ja_cons je_int (ja_cons je_int (ja_cons je_int (ja_cons je_int ja_nil)))))))))) (show _ = Out.v (.list (eightX.map .int)) from rfl)) (je_mod (by decide) (je_intI T.z_int (je_var 0 rfl)) je_int))), rfl⟩
theorem c_is_reduced : Cal P w K mg base 8 "is_reduced" ["prime", "word"] R_isred := by
  have C__check_word : Cal P w K mg base 5 "_check_word" ["prime", "word"] R_chkw := cp_check_word T
  have C_letters : Cal P w K mg base 7 "letters" ["prime"] R_lets := c_letters T
  have C_partner_of : Cal P w K mg base 5 "partner_of" ["letters", "letter"] R_parof := c_partner_of T
  refine cal_mk T.fn_is_reduced sc_is_reduced (fun ds o ⟨p, d, zs, h, _⟩ => by subst h; rfl) fun f cdv A outer s H E F ds o hr tk pn ⟨p, d, zs, hd, sq, hp, hl, hz, ho⟩ => ?_
  subst hd ho
  have p3 := six_pr hp
  refine ⟨.rt (.bool (apartB p zs)), ?_, rfl⟩
  refine jss_cons (js_expr (je_callC C__check_word ⟨p, d, zs, rfl, sq, hp, hl, hz, rfl⟩ (hr.mono (by decide)) tk (ja_cons (je_var 0 rfl) (ja_cons (je_var 1 rfl) ja_nil)))) ?_
  refine jss_cons (js_setO 2 sc_is_reduced.nd (je_callC C_letters ⟨p, rfl, hp, rfl⟩ (hr.mono (by decide)) (by first | exact takes0 | exact tk) (ja_cons (je_var 0 rfl) ja_nil))) ?_
  refine jss_frz 2 rfl ?_
  rw [apart_zip]
  rcases sq with rfl | rfl
  · exact jss_one (js_ret (je_not (je_anyB rfl T.z_any (je_o2v (je_lcE0 PyData.bool (xs := zs.zip zs.tail) (enc := fun q => prD (.int q.1, .int q.2)) (g := fun q => decide (parF p q.1 = q.2)) (own := [("one", 3), ("other", 4)]) (.many [3, 4]) rfl sc_is_reduced.nd (ji_is (ji_zipS (ds := zs.map .int) (es := cutD (zs.map .int) (some 1) none) (.inl rfl) (.inl rfl) T.z_zip (je_var 1 rfl) (je_slTA (je_var 1 rfl) (jo_some je_int) jo_none)) (by rw [cut_one, pair_map])) (blkOk_by (N := N_is_reduced) (sc := defScope s_is_reduced) (by decide +kernel)) (by rw [List.length_zip, List.length_tail]; omega) (fun _ _ => ⟨_, rfl, rfl⟩) (fun _ _ _ _ _ => pg_tup rfl (pgs_cons (pg_name (i := 3) sc_is_reduced.nd rfl (by first | exact Or.inl rfl | exact Or.inr rfl)) (pgs_cons (pg_name (i := 4) sc_is_reduced.nd rfl (by first | exact Or.inl rfl | exact Or.inr rfl)) pgs_nil))) (fun q hq s H C cl fp => je_eqI (je_callC C_partner_of ⟨p, q.1, rfl, hp, (hz _ (List.of_mem_zip hq).1).1, (hz _ (List.of_mem_zip hq).1).2, rfl⟩ (hr.mono (by decide)) (by first | exact takes0 | exact tk) (ja_cons (je_var 2 rfl) (ja_cons (je_var 3 rfl) ja_nil))) (je_var 4 rfl)))))))
  · exact jss_one (js_ret (je_not (je_anyB rfl T.z_any (je_o2v (je_lcE0 PyData.bool (xs := zs.zip zs.tail) (enc := fun q => prD (.int q.1, .int q.2)) (g := fun q => decide (parF p q.1 = q.2)) (own := [("one", 3), ("other", 4)]) (.many [3, 4]) rfl sc_is_reduced.nd (ji_is (ji_zipS (ds := zs.map .int) (es := cutD (zs.map .int) (some 1) none) (.inr rfl) (.inr rfl) T.z_zip (je_var 1 rfl) (je_o2v (je_slL (je_var 1 rfl) (jo_some je_int) jo_none))) (by rw [cut_one, pair_map])) (blkOk_by (N := N_is_reduced) (sc := defScope s_is_reduced) (by decide +kernel)) (by rw [List.length_zip, List.length_tail]; omega) (fun _ _ => ⟨_, rfl, rfl⟩) (fun _ _ _ _ _ => pg_tup rfl (pgs_cons (pg_name (i := 3) sc_is_reduced.nd rfl (by first | exact Or.inl rfl | exact Or.inr rfl)) (pgs_cons (pg_name (i := 4) sc_is_reduced.nd rfl (by first | exact Or.inl rfl | exact Or.inr rfl)) pgs_nil))) (fun q hq s H C cl fp => je_eqI (je_callC C_partner_of ⟨p, q.1, rfl, hp, (hz _ (List.of_mem_zip hq).1).1, (hz _ (List.of_mem_zip hq).1).2, rfl⟩ (hr.mono (by decide)) (by first | exact takes0 | exact tk) (ja_cons (je_var 2 rfl) (ja_cons (je_var 3 rfl) ja_nil))) (je_var 4 rfl)))))))
theorem c_number_of_word : Cal P w K mg base 6 "number_of_word" ["letters", "word"] R_numw := by
  have C_partner_of : Cal P w K mg base 5 "partner_of" ["letters", "letter"] R_parof := c_partner_of T
  refine cal_mk T.fn_number_of_word sc_number_of_word (fun ds o ⟨p, d, zs, h, _⟩ => by subst h; rfl) fun f cdv A outer s H E F ds o hr tk pn ⟨p, d, zs, hd, sq, hp, hl, hz, ho⟩ => ?_
  subst hd ho
  have p3 := six_pr hp
  have hlen := six_len hp
  refine ⟨.rt (.int (nK p zs zs.length)), ?_, rfl⟩
  refine jss_cons (js_set 2 sc_number_of_word.nd je_int) ?_
  refine jss_cons (js_is (js_forAll (ds := enD (zs.map .int)) (fun k => [.d (.list ((lprimes p).map ti)), .d d, .d (.int (nK p zs k)), .u, .u, .u]) (fun k => [.d (.list ((lprimes p).map ti)), .d d, .d (.int (nK p zs k)), .d (.int (k : Int)), .d (.int (zs.getD k 0)), .u]) pn rfl (ji_enumS (sq_of sq) T.z_enumerate (je_var 1 rfl)) (jg_tup rfl (jgs_cons (jg_name 3 sc_number_of_word.nd) (jgs_cons (jg_name 4 sc_number_of_word.nd) jgs_nil))) (Le.refl _) (fun k e h => ?_) (fun k e h => ?_)) (show _ = SO.nx [.d (.list ((lprimes p).map ti)), .d d, .d (.int (nK p zs zs.length)), .u, .u, .u] by rw [enD_len, List.length_map])) (jss_one (js_ret (je_var 2 rfl)))
  · obtain ⟨_, rfl⟩ := en_int h
    exact ⟨_, rfl, rfl, ⟨_, _, _, rfl, rfl, ⟨_, _, _, rfl, rfl, ⟨rfl, rfl⟩⟩⟩⟩
  obtain ⟨hk, _⟩ := en_int h
  have gk : 0 < k → 1 ≤ zs.getD (k - 1) 0 ∧ zs.getD (k - 1) 0 ≤ p + 1 := fun h0 => getD_WZ hz (by omega)
  have ix : 0 < k → atI (zs.map PyData.int) ((k : Int) - 1) = some (.int (zs.getD (k - 1) 0)) := fun h0 => at_ints (i := k - 1) (by omega) (by omega)
  refine jss_nx (Γ1 := [.d (.list ((lprimes p).map ti)), .d d, .d (.int (nK p zs (k + 1))), .d (.int (k : Int)), .d (.int (zs.getD k 0)), .d (.int (zs.getD k 0 - 1 - (if 0 < k ∧ parF p (zs.getD (k - 1) 0) < zs.getD k 0 then 1 else 0)))]) ?_ (.keep (.keep (.keep (.drop (.drop (.drop .nil))))))
  refine jss_cons (js_is (js_set 5 sc_number_of_word.nd (je_sub (je_var 4 rfl) je_int)) (show _ = SO.nx [.d (.list ((lprimes p).map ti)), .d d, .d (.int (nK p zs k)), .d (.int (k : Int)), .d (.int (zs.getD k 0)), .d (.int (zs.getD k 0 - 1))] from rfl)) ?_
  refine jss_cons (js_if (so := SO.nx [.d (.list ((lprimes p).map ti)), .d d, .d (.int (nK p zs k)), .d (.int (k : Int)), .d (.int (zs.getD k 0)), .d (.int (zs.getD k 0 - 1 - (if 0 < k ∧ parF p (zs.getD (k - 1) 0) < zs.getD k 0 then 1 else 0)))]) (p := decide (0 < (k : Int)) && decide (parF p (zs.getD (k - 1) 0) < zs.getD k 0)) ?_ (fun ht => ?_) (fun ht => ?_)) (jss_one (js_is (js_set 2 sc_number_of_word.nd (je_add (je_mul (j := p + 1 - 1) (.inr ⟨by omega, by omega⟩) (je_var 2 rfl) (je_sub (je_is (je_lenL T.z_len (je_var 0 rfl)) (show _ = Out.v (.int (p + 1)) by rw [List.length_map, hlen])) je_int)) (je_var 5 rfl))) (by rw [Int.add_sub_cancel]; rfl)))
  · refine jt_w (jw_and (jt_gt (je_var 3 rfl) je_int) (fun h0 => ?_))
    have h0 : 0 < k := by have := of_decide_eq_true h0; omega
    have gk := gk h0
    have ix := ix h0
    rcases sq with rfl | rfl
    · exact jw_and1 (jt_gt (je_var 4 rfl) (je_callC C_partner_of ⟨p, zs.getD (k - 1) 0, rfl, hp, gk.1, gk.2, rfl⟩ (hr.mono (by decide)) (by first | exact takes0 | exact tk) (ja_cons (je_var 0 rfl) (ja_cons (je_ixT ix (je_var 1 rfl) (je_sub (je_var 3 rfl) je_int)) ja_nil))))
    · exact jw_and1 (jt_gt (je_var 4 rfl) (je_callC C_partner_of ⟨p, zs.getD (k - 1) 0, rfl, hp, gk.1, gk.2, rfl⟩ (hr.mono (by decide)) (by first | exact takes0 | exact tk) (ja_cons (je_var 0 rfl) (ja_cons (je_ixL ix (je_var 1 rfl) (je_sub (je_var 3 rfl) je_int)) ja_nil))))
  · have hc : 0 < k ∧ parF p (zs.getD (k - 1) 0) < zs.getD k 0 := by
      obtain ⟨a, b⟩ := (Bool.and_eq_true _ _).mp ht
      exact ⟨by have := of_decide_eq_true a; omega, of_decide_eq_true b⟩
    exact jss_one (js_is (js_augSub 5 rfl sc_number_of_word.nd je_int) (by rw [if_pos hc]; rfl))
  · have hc : ¬ (0 < k ∧ parF p (zs.getD (k - 1) 0) < zs.getD k 0) := fun hc => by
      rw [decide_eq_true (show 0 < (k : Int) by omega), decide_eq_true hc.2] at ht
      cases ht
    exact jss_is jss_nil (by rw [if_neg hc, Int.sub_zero])
theorem c_number_of : Cal P w K mg base 9 "number_of" ["prime", "word"] (R_nof c_InvalidWord) := by
  have C_letters : Cal P w K mg base 7 "letters" ["prime"] R_lets := c_letters T
  have C_is_reduced : Cal P w K mg base 8 "is_reduced" ["prime", "word"] R_isred := c_is_reduced T
  have C_number_of_word : Cal P w K mg base 6 "number_of_word" ["letters", "word"] R_numw := c_number_of_word T
  refine cal_mk T.fn_number_of sc_number_of (fun ds o ⟨p, d, zs, h, _⟩ => by subst h; rfl) fun f cdv A outer s H E F ds o hr tk pn ⟨p, d, zs, hd, sq, hp, hl, hz, h⟩ => ?_
  subst hd
  rcases h with ⟨ha, h⟩ | ⟨ha, h⟩
  · subst h
    exact ⟨.rt (.int (nK p zs zs.length)), jss_cons (js_ifF (jt_is (jt_not (jt_val (je_callC C_is_reduced ⟨p, d, zs, rfl, sq, hp, hl, hz, rfl⟩ (hr.mono (by decide)) (by first | exact takes0 | exact tk) (ja_cons (je_var 0 rfl) (ja_cons (je_var 1 rfl) ja_nil))))) (by rw [ha]; rfl)) jss_nil) (jss_one (js_ret (je_callC C_number_of_word ⟨p, d, zs, rfl, sq, hp, hl, hz, rfl⟩ (hr.mono (by decide)) (by first | exact takes0 | exact tk) (ja_cons (je_o2v (je_callC C_letters ⟨p, rfl, hp, rfl⟩ (hr.mono (by decide)) (by first | exact takes0 | exact tk) (ja_cons (je_var 0 rfl) ja_nil))) (ja_cons (je_var 1 rfl) ja_nil))))), rfl⟩
  · subst h
    exact ⟨.x c_InvalidWord _, jss_stop (js_ifT (jt_is (jt_not (jt_val (je_callC C_is_reduced ⟨p, d, zs, rfl, sq, hp, hl, hz, rfl⟩ (hr.mono (by decide)) (by first | exact takes0 | exact tk) (ja_cons (je_var 0 rfl) (ja_cons (je_var 1 rfl) ja_nil))))) (by rw [ha]; rfl)) (jss_one (js_raise T.e_InvalidWord rfl tk))) trivial, rfl⟩
theorem c_law_refused : Cal P w K mg base 10 "_law_refused" ["prime", "word"] R_ref73 := by
  have C_number_of : Cal P w K mg base 9 "number_of" ["prime", "word"] (R_nof c_InvalidWord) := c_number_of T
  refine cal_mk T.fn_law_refused sc_law_refused (fun ds o ⟨p, zs, h, _⟩ => by subst h; rfl) fun f cdv A outer s H E F ds o hr tk pn ⟨p, zs, hd, hp, hl, hz, ho⟩ => ?_
  subst hd ho
  cases h : apartB p zs with
  | true => exact ⟨.rt (.bool false), jss_cons (js_bare (C1 := c_InvalidWord) 0 ⟨rfl, by decide, .inl T.e_InvalidWord.g⟩ tk sc_law_refused.nd trivial (fun W2 pn2 xe2 tk2 _ => jss_one (js_expr (je_callC C_number_of ⟨p, _, zs, rfl, .inl rfl, hp, hl, hz, .inl ⟨h, rfl⟩⟩ (hr.mono (by decide)) tk2 (ja_cons (je_var 0 rfl) (ja_cons (je_var 1 rfl) ja_nil)))))) (jss_one (js_ret je_bl)), rfl⟩
  | false => exact ⟨.rt (.bool true), jss_stop (js_bareX (C1 := c_InvalidWord) (c := c_InvalidWord) (Γ1 := begin_ N_law_refused [.int p, ti zs]) 0 ⟨rfl, by decide, .inl T.e_InvalidWord.g⟩ tk sc_law_refused.nd T.m_InvalidWord_InvalidWord (fun W2 pn2 xe2 tk2 _ => jss_one (js_exprX (je_callC C_number_of ⟨p, _, zs, rfl, .inl rfl, hp, hl, hz, .inr ⟨h, rfl⟩⟩ (hr.mono (by decide)) tk2 (ja_cons (je_var 0 rfl) (ja_cons (je_var 1 rfl) ja_nil))))) (fun a oe pn2 hz2 hfl => jss_one (js_ret je_bl))) trivial, rfl⟩
theorem c_law_all : Cal P w K mg base 4 "_law_all" ["known", "length"] R_lall := by
  have C__law_partner : Cal P w K mg base 3 "_law_partner" ["known", "letter"] R_parof := c_law_partner T
  refine cal_mk T.fn_law_all sc_law_all (fun ds o ⟨p, L, h, _⟩ => by subst h; rfl) fun f cdv A outer s H E F ds o hr tk pn ⟨p, L, hd, hp, hL, ho⟩ => ?_
  subst hd ho
  have p3 := six_pr hp
  have hlen := six_len hp
  refine ⟨.rto ((rowsAll p L).map ti), ?_, rfl⟩
  refine jss_cons (js_is (js_setLcE0 PyData.int 2 (xs := List.range (p + 1).toNat) (enc := fun k : Nat => PyData.int (0 + (k : Int))) (g := fun k : Nat => parF p (0 + (k : Int) + 1)) (own := [("k", 3)]) (.one 3) rfl sc_law_all.nd (ji_range1 T.z_range (by omega) (by omega) (je_is (je_lenL T.z_len (je_var 0 rfl)) (show _ = Out.v (.int (p + 1)) by rw [List.length_map, hlen]))) (blkOk_by (N := N_law_all) (sc := defScope s_law_all) (by decide +kernel)) (by rw [List.length_range]; omega) (fun _ _ => trivial) rfl (fun _ _ _ _ _ => pg_name (i := 3) sc_law_all.nd rfl (by first | exact Or.inl rfl | exact Or.inr rfl)) (fun k hk s H C cl fp => je_callC C__law_partner ⟨p, 0 + (k : Int) + 1, rfl, hp, by omega, by have := List.mem_range.mp hk; omega, rfl⟩ (hr.mono (by decide)) (by first | exact takes0 | exact tk) (ja_cons (je_var 0 rfl) (ja_cons (je_add (je_var 3 rfl) je_int) ja_nil)))) (show _ = SO.nx [.d (.list ((lprimes p).map ti)), .d (.int (L : Int)), .own ((parL p).map .int), .u, .u, .u, .u, .u, .u] from rfl)) ?_
  refine jss_frz 2 rfl ?_
  refine jss_cons (js_is (js_setO 4 sc_law_all.nd (je_lst (ja_cons (je_tup ja_nil) ja_nil))) (show _ = SO.nx [.d (.list ((lprimes p).map ti)), .d (.int (L : Int)), .d (.list ((parL p).map .int)), .u, .own ((rowsAll p 0).map ti), .u, .u, .u, .u] from rfl)) ?_
  refine jss_cons (js_is (js_forAll (fun k => [.d (.list ((lprimes p).map ti)), .d (.int (L : Int)), .d (.list ((parL p).map .int)), .u, .own ((rowsAll p k).map ti), .u, .u, .u, .u]) (fun k => [.d (.list ((lprimes p).map ti)), .d (.int (L : Int)), .d (.list ((parL p).map .int)), .u, .own ((rowsAll p k).map ti), .d (.int (0 + (k : Int))), .u, .u, .u]) pn rfl (ji_range1 T.z_range (by omega) (by omega) (je_var 1 rfl)) (jg_name 5 sc_law_all.nd) (Le.refl _) (fun k e h => by
    obtain ⟨_, rfl⟩ := rngD_get h
    rfl) (fun k e h => ?_)) (show _ = SO.nx [.d (.list ((lprimes p).map ti)), .d (.int (L : Int)), .d (.list ((parL p).map .int)), .u, .own ((rowsAll p L).map ti), .u, .u, .u, .u] by rw [rngD_len, Int.toNat_natCast])) (jss_one (js_retOwn 4 rfl))
  obtain ⟨hk0, _⟩ := rngD_get h
  have hk : k ≤ 2 := by omega
  have hcnt := rows_cnt hp hk
  refine jss_nx (Γ1 := [.d (.list ((lprimes p).map ti)), .d (.int (L : Int)), .d (.list ((parL p).map .int)), .u, .own ((rowsAll p (k + 1)).map ti), .d (.int (0 + (k : Int))), .u, .u, .u]) ?_ (.keep (.keep (.keep (.keep (.keep (.drop (.keep (.keep (.keep .nil)))))))))
  refine jss_cons (js_setO 6 sc_law_all.nd (je_lst ja_nil)) ?_
  refine jss_frz 4 rfl ?_
  refine jss_cons (js_is (And.left (js_forFold (xs := rowsAll p k) (enc := ti) (fun F : List (List Int) => [.d (.list ((lprimes p).map ti)), .d (.int (L : Int)), .d (.list ((parL p).map .int)), .u, .d (.list ((rowsAll p k).map ti)), .d (.int (0 + (k : Int))), .own ((F).map ti), .u, .u]) (fun F (row : List Int) => [.d (.list ((lprimes p).map ti)), .d (.int (L : Int)), .d (.list ((parL p).map .int)), .u, .d (.list ((rowsAll p k).map ti)), .d (.int (0 + (k : Int))), .own ((F).map ti), .d (ti row), .u]) (fun F row => F ++ nextF p row) [] (fun j F => F.length ≤ 20 * j) pn rfl (ji_list (je_var 4 rfl)) (jg_name 7 sc_law_all.nd) (Le.refl _) (Nat.zero_le _) (fun _ _ => rfl) (fun j F row er hF => ?_))) (show _ = SO.nx [.d (.list ((lprimes p).map ti)), .d (.int (L : Int)), .d (.list ((parL p).map .int)), .u, .d (.list ((rowsAll p k).map ti)), .d (.int (0 + (k : Int))), .own ((rowsAll p (k + 1)).map ti), .u, .u] by rw [rows_succ])) (jss_one (js_mv 4 6 rfl (by decide) sc_law_all.nd))
  have hj := (List.getElem?_eq_some_iff.mp er).1
  obtain ⟨hW, hl⟩ := rows_WZ hp (List.mem_of_getElem? er)
  refine ⟨⟨_, jss_nx (Γ1 := [.d (.list ((lprimes p).map ti)), .d (.int (L : Int)), .d (.list ((parL p).map .int)), .u, .d (.list ((rowsAll p k).map ti)), .d (.int (0 + (k : Int))), .own ((F ++ nextF p row).map ti), .d (ti row), .u]) (jss_one (js_is (And.left (js_forFold (xs := List.range (p + 1).toNat) (enc := fun l : Nat => PyData.int (1 + (l : Int))) (fun F2 : List (List Int) => [.d (.list ((lprimes p).map ti)), .d (.int (L : Int)), .d (.list ((parL p).map .int)), .u, .d (.list ((rowsAll p k).map ti)), .d (.int (0 + (k : Int))), .own ((F2).map ti), .d (ti row), .u]) (fun F2 (l : Nat) => [.d (.list ((lprimes p).map ti)), .d (.int (L : Int)), .d (.list ((parL p).map .int)), .u, .d (.list ((rowsAll p k).map ti)), .d (.int (0 + (k : Int))), .own ((F2).map ti), .d (ti row), .d (.int (1 + (l : Int)))]) (stepN p row) F (fun j2 F2 => F2.length ≤ 20 * j + j2) pn rfl (ji_is (ji_range2 T.z_range (by omega) je_int (je_add (je_is (je_lenL T.z_len (je_var 0 rfl)) (show _ = Out.v (.int (p + 1)) by rw [List.length_map, hlen])) je_int)) (show rngD 1 (p + 1 + 1 - 1).toNat = _ by rw [Int.add_sub_cancel]; rfl)) (jg_name 8 sc_law_all.nd) (Le.refl _) (by omega) (fun _ _ => rfl) (fun j2 F2 l e2 h2 => ?_))) (by rw [stepN_fold]; rfl))) (.keep (.keep (.keep (.keep (.keep (.keep (.keep (.drop (.drop .nil))))))))), rfl⟩, by rw [List.length_append]; have := next_len p row; omega⟩
  have hj2 := (List.getElem?_eq_some_iff.mp e2).1
  rw [List.length_range] at hj2
  have hl2 : (stepN p row F2 l).length ≤ 20 * j + (j2 + 1) := by
    unfold stepN
    split
    · rw [List.length_append]; show F2.length + 1 ≤ _; omega
    · omega
  have RLEN : (Out.v (.int ((row.map PyData.int).length : Int))) = Out.v (.int (row.length : Int)) := by rw [List.length_map]
  refine ⟨⟨_, jss_nx (Γ1 := [.d (.list ((lprimes p).map ti)), .d (.int (L : Int)), .d (.list ((parL p).map .int)), .u, .d (.list ((rowsAll p k).map ti)), .d (.int (0 + (k : Int))), .own ((stepN p row F2 l).map ti), .d (ti row), .d (.int (1 + (l : Int)))]) (jss_one (js_if (so := SO.nx [.d (.list ((lprimes p).map ti)), .d (.int (L : Int)), .d (.list ((parL p).map .int)), .u, .d (.list ((rowsAll p k).map ti)), .d (.int (0 + (k : Int))), .own ((stepN p row F2 l).map ti), .d (ti row), .d (.int (1 + (l : Int)))]) (p := nextB p row l) (jt_w (jw_or (jt_eqI (je_is (je_lenT T.z_len (je_var 7 rfl)) RLEN) je_int) (fun hne => jw_or1 ?_))) (fun ht => ?_) (fun ht => ?_))) (.keep (.keep (.keep (.keep (.keep (.keep (.keep (.keep (.drop .nil))))))))), rfl⟩, hl2⟩
  · have h0 : row.length ≠ 0 := by have := of_decide_eq_false hne; omega
    have gl := getD_WZ hW (show row.length - 1 < row.length by omega)
    exact jt_neI (je_ixL (parL_at hp gl.1 gl.2) (je_var 2 rfl) (je_sub (je_ixT (at_ints (i := row.length - 1) (by omega) (by omega)) (je_var 7 rfl) (je_sub (je_is (je_lenT T.z_len (je_var 7 rfl)) RLEN) je_int)) je_int)) (je_var 8 rfl)
  · exact jss_one (js_is (js_append 6 rfl (by rw [List.length_map]; omega) (je_catTA (by rw [List.length_map, hl]; show k + 1 ≤ _; omega) (je_var 7 rfl) (je_tup (ja_cons (je_var 8 rfl) ja_nil)))) (by unfold stepN; rw [if_pos ht, ← own_snoc]; rfl))
  · exact jss_is jss_nil (by unfold stepN; rw [if_neg (show ¬ nextB p row l = true by rw [ht]; exact Bool.false_ne_true)])

/-! the law: LEVEL 11 -/
theorem ok_law {f : Addr} {fd : FuncData} (Fn : Fun K "law" "law" s_law f fd) : FnG P w K mg base 11 f fd ["script"] (spD K R_law) := by
  have C__law_numbers : Cal P w K mg base 2 "_law_numbers" ["script", "many"] R_law_numbers := c_law_numbers T
  have C__law_prime : Cal P w K mg base 1 "_law_prime" ["number"] R_lprm := c_law_prime T
  have C__law_letters : Cal P w K mg base 2 "_law_letters" ["prime"] R_llet := c_law_letters T
  have C__law_all : Cal P w K mg base 4 "_law_all" ["known", "length"] R_lall := c_law_all T
  have C__law_partner : Cal P w K mg base 3 "_law_partner" ["known", "letter"] R_parof := c_law_partner T
  have C_place_count : Cal P w K mg base 8 "place_count" ["prime", "length"] R_pcn := c_place_count T
  have C_number_of : Cal P w K mg base 9 "number_of" ["prime", "word"] (R_nof c_InvalidWord) := c_number_of T
  have C_word_at : Cal P w K mg base 9 "word_at" ["prime", "length", "number"] (R_wat c_InvalidQuestion) := c_word_at T
  have C__law_told : Cal P w K mg base 10 "_law_told" ["prime", "length", "number"] R_told73 := c_law_told T
  have C__law_refused : Cal P w K mg base 10 "_law_refused" ["prime", "word"] R_ref73 := c_law_refused T
  refine fn_okG Fn sc_law (fun ds o ⟨ns, h, _⟩ => by subst h; rfl) fun cdv A outer s H E F ds o hgd hr tk pn ⟨ns, hd, hl, ho⟩ => ?_
  subst hd ho
  refine ⟨.rt (.bool true), ?_, rfl⟩
  refine jss_norm (Γ2 := [.d (li ns), .u, .u, .u, .u, .u, .u, .u, .u, .u, .u, .u, .u]) rfl ?_
  refine jss_consN (js_set 1 sc_law.nd (je_callC C__law_numbers ⟨ns, 30, rfl, hl, by decide, rfl⟩ (hr.mono (by decide)) (by first | exact takes0 | exact tk) (ja_cons (je_var 0 rfl) (ja_cons je_int ja_nil)))) (by dsimp only [List.set_cons_zero, List.set_cons_succ]) ?_
  have dr := lawNums_ok ns 30
  generalize lawNums ns 30 = nums at dr ⊢
  have hin : In9 nums := dr.2
  have hlen := dr.1
  have hg := fun j => hin.get j
  refine jss_consN (js_set 2 sc_law.nd (je_callC C__law_prime ⟨_, rfl, rfl⟩ (hr.mono (by decide)) (by first | exact takes0 | exact tk) (ja_cons (je_ixL (ds := nums.map .int) (at_ints (i := 0) rfl (by omega)) (je_var 1 rfl) je_int) ja_nil))) (by dsimp only [List.set_cons_zero, List.set_cons_succ]) ?_
  have hp : eightX.getD (nums.getD 0 0 % 8).toNat 0 ∈ sixP := eight_six _ (getD_memI (by show _ < 8; have := hg 0; omega))
  generalize eightX.getD (nums.getD 0 0 % 8).toNat 0 = p at hp ⊢
  have p3 := six_pr hp
  refine jss_consN (js_setO 3 sc_law.nd (je_callC C__law_letters ⟨p, rfl, hp, rfl⟩ (hr.mono (by decide)) (by first | exact takes0 | exact tk) (ja_cons (je_var 2 rfl) ja_nil))) (by dsimp only [List.set_cons_zero, List.set_cons_succ]) ?_
  refine jss_frzN 3 rfl (by dsimp only [List.set_cons_zero, List.set_cons_succ]) ?_
  have h1 := hg 1
  have h2 := hg 2
  refine jss_ex (α := Nat) (fun L => L ≤ 3) (fun L => [.d (li ns), .d (li nums), .d (.int p), .d (.list ((lprimes p).map ti)), .d (.int (L : Int)), .u, .u, .u, .u, .u, .u, .u, .u]) ?_ (fun L hL => ?_)
  · refine ⟨(nums.getD 1 0 % 3).toNat + (if (decide (p = 3) && decide (nums.getD 2 0 % 2 = 1)) = true then 1 else 0), (by split <;> omega), ?_⟩
    exact js_is (js_set 4 sc_law.nd (je_add (je_mod (by decide) (je_intI T.z_int (je_ixL (ds := nums.map .int) (at_ints (i := 1) rfl (by omega)) (je_var 1 rfl) je_int)) je_int) (je_intB T.z_int (je_and (je_eqI (je_var 2 rfl) je_int) (fun _ => je_and1 (je_eqI (je_mod (by decide) (je_intI T.z_int (je_ixL (ds := nums.map .int) (at_ints (i := 2) rfl (by omega)) (je_var 1 rfl) je_int)) je_int) je_int)))))) (by
      rw [show nums.getD 1 0 % 3 + (if (decide (p = 3) && decide (nums.getD 2 0 % 2 = 1)) = true then 1 else 0) = (((nums.getD 1 0 % 3).toNat + (if (decide (p = 3) && decide (nums.getD 2 0 % 2 = 1)) = true then 1 else 0) : Nat) : Int) by split <;> omega]
      rfl)
  have hM := pc_small hp hL
  have hM0 := pc_pos (p := p) (by omega) L
  have hrl := (rows_get hp L).1
  refine jss_consN (js_setO 5 sc_law.nd (je_callC C__law_all ⟨p, L, rfl, hp, hL, rfl⟩ (hr.mono (by decide)) (by first | exact takes0 | exact tk) (ja_cons (je_var 3 rfl) (ja_cons (je_var 4 rfl) ja_nil)))) (by dsimp only [List.set_cons_zero, List.set_cons_succ]) ?_
  refine jss_frzN 5 rfl (by dsimp only [List.set_cons_zero, List.set_cons_succ]) ?_
  have sM : Shown (.int (pcF (p + 1) L)) := shown_int (b := 20) (by unfold Bt; omega) (by decide) (by decide)
  refine jss_cons (js_ifF (jt_is (jt_neS (je_repr hgd hr.units T.z_repr sM (je_callC C_place_count ⟨p, L, rfl, hp, by omega, rfl⟩ (hr.mono (by decide)) (by first | exact takes0 | exact tk) (ja_cons (je_var 2 rfl) (ja_cons (je_var 4 rfl) ja_nil)))) (je_repr hgd hr.units T.z_repr sM (je_is (je_lenL T.z_len (je_var 5 rfl)) (show _ = Out.v (.int (pcF (p + 1) L)) by rw [List.length_map, hrl])))) (by rw [decide_eq_true rfl]; rfl)) jss_nil) ?_
  refine jss_consN (js_set 6 sc_law.nd (je_mod (j := pcF (p + 1) L) hM0 (je_intI T.z_int (je_ixL (ds := nums.map .int) (at_ints (i := 3) rfl (by omega)) (je_var 1 rfl) je_int)) (je_is (je_lenL T.z_len (je_var 5 rfl)) (show _ = Out.v (.int (pcF (p + 1) L)) by rw [List.length_map, hrl])))) (by dsimp only [List.set_cons_zero, List.set_cons_succ]) ?_
  have a0 := Int.emod_nonneg (nums.getD 3 0) (show pcF (p + 1) L ≠ 0 by omega)
  have a1 := Int.emod_lt_of_pos (nums.getD 3 0) hM0
  generalize nums.getD 3 0 % pcF (p + 1) L = at' at a0 a1 ⊢
  obtain ⟨b1, b2⟩ := word_back hp L at' a0 a1
  have bW := word_ok hp L at' a0 a1
  have bl := word_len p L at'
  have bn := word_n hp a0 a1
  have sA : Shown (.int at') := shown_int (b := 20) (by unfold Bt; omega) (by decide) (by decide)
  have sW : Shown (ti (wordF p L at')) := shown_pl (fun z hz => by have := bW z hz; unfold Bt; omega) (by omega)
  refine jss_cons (js_ifF (jt_is (jt_w (jw_or (p := false) (q := false) (jt_is (jt_neS (je_repr hgd hr.units T.z_repr sW (je_is (je_callC C__law_told ⟨p, L, at', rfl, hp, by omega, rfl⟩ (hr.mono (by decide)) (by first | exact takes0 | exact tk) (ja_cons (je_var 2 rfl) (ja_cons (je_var 4 rfl) (ja_cons (je_var 6 rfl) ja_nil)))) (by rw [if_pos ⟨a0, a1⟩]))) (je_repr hgd hr.units T.z_repr sW (je_ixL (rows_at hp a0 a1) (je_var 5 rfl) (je_var 6 rfl)))) (by rw [decide_eq_true rfl]; rfl)) (fun _ => jw_or1 (jt_is (jt_neS (je_repr hgd hr.units T.z_repr sA (je_is (je_callC C_number_of ⟨p, _, wordF p L at', rfl, .inr rfl, hp, by omega, bW, .inl ⟨b2, rfl⟩⟩ (hr.mono (by decide)) (by first | exact takes0 | exact tk) (ja_cons (je_var 2 rfl) (ja_cons (je_o2v (je_listT T.z_list (je_ixL (rows_at hp a0 a1) (je_var 5 rfl) (je_var 6 rfl)))) ja_nil))) (by rw [bn]))) (je_repr hgd hr.units T.z_repr sA (je_var 6 rfl))) (by rw [decide_eq_true rfl]; rfl))))) rfl) jss_nil) ?_
  refine jss_cons (js_ifF (jt_is (jt_w (jw_or (p := false) (q := false) (jt_is (jt_neS (je_is (je_callC C__law_told ⟨p, L, pcF (p + 1) L, rfl, hp, by omega, rfl⟩ (hr.mono (by decide)) (by first | exact takes0 | exact tk) (ja_cons (je_var 2 rfl) (ja_cons (je_var 4 rfl) (ja_cons (je_is (je_lenL T.z_len (je_var 5 rfl)) (show _ = Out.v (.int (pcF (p + 1) L)) by rw [List.length_map, hrl])) ja_nil)))) (by rw [if_neg (fun q => by have := q.2; omega)])) je_str) (by rw [decide_eq_true rfl]; rfl)) (fun _ => jw_or1 (jt_is (jt_neS (je_is (je_callC C__law_told ⟨p, L, -1, rfl, hp, by omega, rfl⟩ (hr.mono (by decide)) (by first | exact takes0 | exact tk) (ja_cons (je_var 2 rfl) (ja_cons (je_var 4 rfl) (ja_cons (je_neg je_int) ja_nil)))) (by rw [if_neg (fun q => by have := q.1; omega)])) je_str) (by rw [decide_eq_true rfl]; rfl))))) rfl) jss_nil) ?_
  have h4 := hg 4
  refine jss_consN (js_is (js_set 7 sc_law.nd (je_mod (by decide) (je_intI T.z_int (je_ixL (ds := nums.map .int) (at_ints (i := 4) rfl (by omega)) (je_var 1 rfl) je_int)) je_int)) (show _ = SO.nx [.d (li ns), .d (li nums), .d (.int p), .d (.list ((lprimes p).map ti)), .d (.int (L : Int)), .d (.list ((rowsAll p L).map ti)), .d (.int at'), .d (.int (((nums.getD 4 0 % 21).toNat : Nat) : Int)), .u, .u, .u, .u, .u] by rw [Int.toNat_of_nonneg (show 0 ≤ nums.getD 4 0 % 21 by omega)]; rfl)) rfl ?_
  have hl20 : (nums.getD 4 0 % 21).toNat ≤ 20 := by omega
  generalize (nums.getD 4 0 % 21).toNat = l at hl20 ⊢
  refine jss_consN (js_set 8 sc_law.nd (je_callC C_place_count ⟨p, l, rfl, hp, by omega, rfl⟩ (hr.mono (by decide)) (by first | exact takes0 | exact tk) (ja_cons (je_var 2 rfl) (ja_cons (je_var 7 rfl) ja_nil)))) (by dsimp only [List.set_cons_zero, List.set_cons_succ]) ?_
  refine jss_cons (js_ifF (jt_is (jt_w (jw_and (q := decide (pcF (p + 1) (l - 1) * (if l = 1 then p + 1 else p) ≠ pcF (p + 1) l)) (jt_gt (je_var 7 rfl) je_int) (fun hgt => jw_and1 (jt_neI (je_mul (.inr (by split <;> omega)) (je_callC C_place_count ⟨p, l - 1, by rw [show ((l : Int) - 1) = ((l - 1 : Nat) : Int) by have := of_decide_eq_true hgt; omega], hp, by omega, rfl⟩ (hr.mono (by decide)) (by first | exact takes0 | exact tk) (ja_cons (je_var 2 rfl) (ja_cons (je_sub (je_var 7 rfl) je_int) ja_nil))) (je_ixL (ds := [.int p, .int (p + 1)]) (d := .int (if l = 1 then p + 1 else p)) (pick_at l) (je_o2v (je_lst (ja_cons (je_var 2 rfl) (ja_cons (je_add (je_var 2 rfl) je_int) ja_nil)))) (je_intB T.z_int (je_eqI (je_var 7 rfl) je_int)))) (je_var 8 rfl))))) (by
    by_cases h0 : 0 < l
    · rw [pc_prev h0, decide_eq_false (show ¬ (pcF (p + 1) l ≠ pcF (p + 1) l) from fun q => q rfl), Bool.and_false]
    · rw [decide_eq_false (show ¬ (0 : Int) < (l : Int) by omega), Bool.false_and])) jss_nil) ?_
  refine jss_consN (js_set 9 sc_law.nd je_int) (by dsimp only [List.set_cons_zero, List.set_cons_succ]) ?_
  refine jss_cons (js_is (js_forAll (fun k => [.d (li ns), .d (li nums), .d (.int p), .d (.list ((lprimes p).map ti)), .d (.int (L : Int)), .d (.list ((rowsAll p L).map ti)), .d (.int at'), .d (.int (l : Int)), .d (.int (pcF (p + 1) l)), .d (.int (big73 nums k)), .u, .u, .u]) (fun k => [.d (li ns), .d (li nums), .d (.int p), .d (.list ((lprimes p).map ti)), .d (.int (L : Int)), .d (.list ((rowsAll p L).map ti)), .d (.int at'), .d (.int (l : Int)), .d (.int (pcF (p + 1) l)), .d (.int (big73 nums k)), .d (.int (0 + (k : Int))), .u, .u]) pn rfl (ji_range1 T.z_range (by decide) (by decide) je_int) (jg_name 10 sc_law.nd) (Le.refl _) (fun k e h => by
    obtain ⟨_, rfl⟩ := rngD_get h
    rfl) (fun k e h => ?_)) (show _ = SO.nx [.d (li ns), .d (li nums), .d (.int p), .d (.list ((lprimes p).map ti)), .d (.int (L : Int)), .d (.list ((rowsAll p L).map ti)), .d (.int at'), .d (.int (l : Int)), .d (.int (pcF (p + 1) l)), .d (.int (big73 nums 9)), .u, .u, .u] from rfl)) ?_
  · obtain ⟨hk, _⟩ := rngD_get h
    have hk9 : k < 9 := hk
    exact jss_nx (Γ1 := [.d (li ns), .d (li nums), .d (.int p), .d (.list ((lprimes p).map ti)), .d (.int (L : Int)), .d (.list ((rowsAll p L).map ti)), .d (.int at'), .d (.int (l : Int)), .d (.int (pcF (p + 1) l)), .d (.int (big73 nums (k + 1))), .d (.int (0 + (k : Int))), .u, .u]) (jss_one (js_is (js_set 9 sc_law.nd (je_add (je_mul (.inr ⟨by decide, by decide⟩) (je_var 9 rfl) je_int) (je_ixL (ds := nums.map .int) (at_ints (i := 10 + k) (by omega) (by omega)) (je_var 1 rfl) (je_add je_int (je_var 10 rfl))))) rfl)) (.keep (.keep (.keep (.keep (.keep (.keep (.keep (.keep (.keep (.keep (.drop (.keep (.keep .nil)))))))))))))
  have hN0 := pc_pos (p := p) (by omega) l
  refine jss_consN (js_set 9 sc_law.nd (je_mod hN0 (je_intI T.z_int (je_var 9 rfl)) (je_var 8 rfl))) (by dsimp only [List.set_cons_zero, List.set_cons_succ]) ?_
  have c0 := Int.emod_nonneg (big73 nums 9) (show pcF (p + 1) l ≠ 0 by omega)
  have c1 := Int.emod_lt_of_pos (big73 nums 9) hN0
  generalize big73 nums 9 % pcF (p + 1) l = n at c0 c1 ⊢
  obtain ⟨d1, d2⟩ := word_back hp l n c0 c1
  have dW := word_ok hp l n c0 c1
  have dl := word_len p l n
  have dn := word_n hp c0 c1
  refine jss_consN (js_set 11 sc_law.nd (je_callC C_word_at ⟨p, l, n, rfl, hp, by omega, .inl ⟨c0, c1, rfl⟩⟩ (hr.mono (by decide)) (by first | exact takes0 | exact tk) (ja_cons (je_var 2 rfl) (ja_cons (je_var 7 rfl) (ja_cons (je_var 9 rfl) ja_nil))))) (by dsimp only [List.set_cons_zero, List.set_cons_succ]) ?_
  refine jss_cons (js_ifF (jt_is (jt_w (jw_or (p := false) (q := false) (jt_is (jt_neI (je_is (je_lenT T.z_len (je_var 11 rfl)) (show _ = Out.v (.int (l : Int)) by rw [List.length_map, dl])) (je_var 7 rfl)) (decide_eq_false (fun q => q rfl))) (fun _ => jw_or1 (jt_is (jt_neI (je_is (je_callC C_number_of ⟨p, _, wordF p l n, rfl, .inl rfl, hp, by omega, dW, .inl ⟨d2, rfl⟩⟩ (hr.mono (by decide)) (by first | exact takes0 | exact tk) (ja_cons (je_var 2 rfl) (ja_cons (je_var 11 rfl) ja_nil))) (by rw [dn])) (je_var 9 rfl)) (decide_eq_false (fun q => q rfl)))))) rfl) jss_nil) ?_
  have m0 := Int.emod_nonneg (nums.getD 5 0) (show p + 1 ≠ 0 by omega)
  have m1 := Int.emod_lt_of_pos (nums.getD 5 0) (show 0 < p + 1 by omega)
  refine jss_consN (js_set 12 sc_law.nd (je_add je_int (je_mod (j := p + 1) (by omega) (je_intI T.z_int (je_ixL (ds := nums.map .int) (at_ints (i := 5) rfl (by omega)) (je_var 1 rfl) je_int)) (je_add (je_var 2 rfl) je_int)))) (by dsimp only [List.set_cons_zero, List.set_cons_succ]) ?_
  generalize nums.getD 5 0 % (p + 1) = z0 at m0 m1 ⊢
  have pb := par_bt hp (show 1 ≤ 1 + z0 by omega) (show 1 + z0 ≤ p + 1 by omega)
  refine jss_one (js_ret (je_is (je_callC C__law_refused ⟨p, [1 + z0, parF p (1 + z0)], rfl, hp, by show 2 ≤ 60; decide, (fun z hz => by
    rcases List.mem_cons.mp hz with rfl | hz
    · omega
    · rw [List.mem_singleton.mp hz]; exact pb), rfl⟩ (hr.mono (by decide)) (by first | exact takes0 | exact tk) (ja_cons (je_var 2 rfl) (ja_cons (je_tup (ja_cons (je_var 12 rfl) (ja_cons (je_callC C__law_partner ⟨p, 1 + z0, rfl, hp, by omega, by omega, rfl⟩ (hr.mono (by decide)) (by first | exact takes0 | exact tk) (ja_cons (je_var 3 rfl) (ja_cons (je_var 12 rfl) ja_nil))) ja_nil))) ja_nil))) (by rw [apart_pair]; rfl)))

end
theorem all_mk {l : PySem.W.OpenLaw} {w : World} {K : PySem.W.Frag} {h : Heap} {mg : Str → Option Value} {fa : Addr} {f1 f2 f3 f4 f5 f6 f7 f8 f9 f10 f11 f12 f13 f14 f15 f16 f17 f18 f19 f20 f21 f22 f23 f24 f25 f26 f27 f28 f29 f30 f31 f32 f33 f34 f35 f36 f37 f38 f39 f40 C1 C2 C3 C4 : Addr} (X : K.In h) (G : h.Ns mainGlobals mg) (hfa : mg "law" = some (.ref fa))
    {od1 an1 od2 an2 od3 an3 od4 an4 od5 an5 od6 an6 od7 an7 od8 an8 od9 an9 od10 an10 od11 an11 od12 an12 od13 an13 od14 an14 od15 an15 od16 an16 od17 an17 od18 an18 od19 an19 od20 an20 od21 an21 od22 an22 od23 an23 od24 an24 od25 an25 od26 an26 od27 an27 od28 an28 od29 an29 od30 an30 od31 an31 od32 an32 od33 an33 od34 an34 od35 an35 od36 an36 od37 an37 od38 an38 od39 an39 od40 an40 : Option Addr} {sl1 sl2 sl3 sl4 sl5 sl6 sl7 sl8 sl9 sl10 sl11 sl12 sl13 sl14 sl15 sl16 sl17 sl18 sl19 sl20 sl21 sl22 sl23 sl24 sl25 sl26 sl27 sl28 sl29 sl30 sl31 sl32 sl33 sl34 sl35 sl36 sl37 sl38 sl39 sl40 : Array (Option Value)} {oc1 kV1 dc1 pm1 cd1 ct1 oc2 kV2 dc2 pm2 cd2 ct2 oc3 kV3 dc3 pm3 cd3 ct3 oc4 kV4 dc4 pm4 cd4 ct4 oc5 kV5 dc5 pm5 cd5 ct5 oc6 kV6 dc6 pm6 cd6 ct6 oc7 kV7 dc7 pm7 cd7 ct7 oc8 kV8 dc8 pm8 cd8 ct8 oc9 kV9 dc9 pm9 cd9 ct9 oc10 kV10 dc10 pm10 cd10 ct10 oc11 kV11 dc11 pm11 cd11 ct11 oc12 kV12 dc12 pm12 cd12 ct12 oc13 kV13 dc13 pm13 cd13 ct13 oc14 kV14 dc14 pm14 cd14 ct14 oc15 kV15 dc15 pm15 cd15 ct15 oc16 kV16 dc16 pm16 cd16 ct16 oc17 kV17 dc17 pm17 cd17 ct17 oc18 kV18 dc18 pm18 cd18 ct18 oc19 kV19 dc19 pm19 cd19 ct19 oc20 kV20 dc20 pm20 cd20 ct20 oc21 kV21 dc21 pm21 cd21 ct21 oc22 kV22 dc22 pm22 cd22 ct22 oc23 kV23 dc23 pm23 cd23 ct23 oc24 kV24 dc24 pm24 cd24 ct24 oc25 kV25 dc25 pm25 cd25 ct25 oc26 kV26 dc26 pm26 cd26 ct26 oc27 kV27 dc27 pm27 cd27 ct27 oc28 kV28 dc28 pm28 cd28 ct28 oc29 kV29 dc29 pm29 cd29 ct29 oc30 kV30 dc30 pm30 cd30 ct30 oc31 kV31 dc31 pm31 cd31 ct31 oc32 kV32 dc32 pm32 cd32 ct32 oc33 kV33 dc33 pm33 cd33 ct33 oc34 kV34 dc34 pm34 cd34 ct34 oc35 kV35 dc35 pm35 cd35 ct35 oc36 kV36 dc36 pm36 cd36 ct36 oc37 kV37 dc37 pm37 cd37 ct37 oc38 kV38 dc38 pm38 cd38 ct38 oc39 kV39 dc39 pm39 cd39 ct39 oc40 kV40 dc40 pm40 cd40 ct40 : Value}
    {kk1 : Addr} {odK1 : Option Addr} {uK1_0 uK1_1 uK1_2 uK1_3 uK1_4 : Tok} {nK1 : Nat} {slK1 : Array (Option Value)} {kkT1 : Addr} {odKT1 : Option Addr} {nKT1 : Nat} {slKT1 : Array (Option Value)} {kkT1_0 : Addr} {odKT1_0 : Option Addr} {uKT1_0_0 uKT1_0_1 uKT1_0_2 uKT1_0_3 : Tok} {nKT1_0 : Nat} {slKT1_0 : Array (Option Value)} {kkT1_1 : Addr} {odKT1_1 : Option Addr} {uKT1_1_0 uKT1_1_1 uKT1_1_2 uKT1_1_3 : Tok} {nKT1_1 : Nat} {slKT1_1 : Array (Option Value)} {kkT1_2 : Addr} {odKT1_2 : Option Addr} {uKT1_2_0 uKT1_2_1 uKT1_2_2 uKT1_2_3 : Tok} {nKT1_2 : Nat} {slKT1_2 : Array (Option Value)} {kkT1_3 : Addr} {odKT1_3 : Option Addr} {uKT1_3_0 uKT1_3_1 uKT1_3_2 uKT1_3_3 : Tok} {nKT1_3 : Nat} {slKT1_3 : Array (Option Value)} {kkT1_4 : Addr} {odKT1_4 : Option Addr} {uKT1_4_0 uKT1_4_1 uKT1_4_2 uKT1_4_3 : Tok} {nKT1_4 : Nat} {slKT1_4 : Array (Option Value)} {kkT1_5 : Addr} {odKT1_5 : Option Addr} {uKT1_5_0 uKT1_5_1 uKT1_5_2 uKT1_5_3 : Tok} {nKT1_5 : Nat} {slKT1_5 : Array (Option Value)} {kkT1_6 : Addr} {odKT1_6 : Option Addr} {uKT1_6_0 uKT1_6_1 uKT1_6_2 uKT1_6_3 : Tok} {nKT1_6 : Nat} {slKT1_6 : Array (Option Value)} {kkT1_7 : Addr} {odKT1_7 : Option Addr} {uKT1_7_0 uKT1_7_1 uKT1_7_2 uKT1_7_3 : Tok} {nKT1_7 : Nat} {slKT1_7 : Array (Option Value)} {kkT1_8 : Addr} {odKT1_8 : Option Addr} {uKT1_8_0 uKT1_8_1 uKT1_8_2 uKT1_8_3 : Tok} {nKT1_8 : Nat} {slKT1_8 : Array (Option Value)} {kkT1_9 : Addr} {odKT1_9 : Option Addr} {uKT1_9_0 uKT1_9_1 uKT1_9_2 uKT1_9_3 : Tok} {nKT1_9 : Nat} {slKT1_9 : Array (Option Value)} {kkT1_10 : Addr} {odKT1_10 : Option Addr} {uKT1_10_0 uKT1_10_1 uKT1_10_2 uKT1_10_3 : Tok} {nKT1_10 : Nat} {slKT1_10 : Array (Option Value)} {kkT1_11 : Addr} {odKT1_11 : Option Addr} {uKT1_11_0 uKT1_11_1 uKT1_11_2 uKT1_11_3 : Tok} {nKT1_11 : Nat} {slKT1_11 : Array (Option Value)} {kkT1_12 : Addr} {odKT1_12 : Option Addr} {uKT1_12_0 uKT1_12_1 uKT1_12_2 uKT1_12_3 : Tok} {nKT1_12 : Nat} {slKT1_12 : Array (Option Value)} {kkT1_13 : Addr} {odKT1_13 : Option Addr} {uKT1_13_0 uKT1_13_1 uKT1_13_2 uKT1_13_3 : Tok} {nKT1_13 : Nat} {slKT1_13 : Array (Option Value)} {kkT1_14 : Addr} {odKT1_14 : Option Addr} {uKT1_14_0 uKT1_14_1 uKT1_14_2 uKT1_14_3 : Tok} {nKT1_14 : Nat} {slKT1_14 : Array (Option Value)} {kkT1_15 : Addr} {odKT1_15 : Option Addr} {uKT1_15_0 uKT1_15_1 uKT1_15_2 uKT1_15_3 : Tok} {nKT1_15 : Nat} {slKT1_15 : Array (Option Value)} {kkT1_16 : Addr} {odKT1_16 : Option Addr} {uKT1_16_0 uKT1_16_1 uKT1_16_2 uKT1_16_3 : Tok} {nKT1_16 : Nat} {slKT1_16 : Array (Option Value)} {kkT1_17 : Addr} {odKT1_17 : Option Addr} {uKT1_17_0 uKT1_17_1 uKT1_17_2 uKT1_17_3 : Tok} {nKT1_17 : Nat} {slKT1_17 : Array (Option Value)} {kkT1_18 : Addr} {odKT1_18 : Option Addr} {uKT1_18_0 uKT1_18_1 uKT1_18_2 uKT1_18_3 : Tok} {nKT1_18 : Nat} {slKT1_18 : Array (Option Value)} {kkT1_19 : Addr} {odKT1_19 : Option Addr} {uKT1_19_0 uKT1_19_1 uKT1_19_2 uKT1_19_3 : Tok} {nKT1_19 : Nat} {slKT1_19 : Array (Option Value)} {kkT1_20 : Addr} {odKT1_20 : Option Addr} {uKT1_20_0 uKT1_20_1 uKT1_20_2 uKT1_20_3 : Tok} {nKT1_20 : Nat} {slKT1_20 : Array (Option Value)} {kkT1_21 : Addr} {odKT1_21 : Option Addr} {uKT1_21_0 uKT1_21_1 uKT1_21_2 uKT1_21_3 : Tok} {nKT1_21 : Nat} {slKT1_21 : Array (Option Value)} {kkT1_22 : Addr} {odKT1_22 : Option Addr} {uKT1_22_0 uKT1_22_1 uKT1_22_2 uKT1_22_3 : Tok} {nKT1_22 : Nat} {slKT1_22 : Array (Option Value)} {kkT1_23 : Addr} {odKT1_23 : Option Addr} {uKT1_23_0 uKT1_23_1 uKT1_23_2 uKT1_23_3 : Tok} {nKT1_23 : Nat} {slKT1_23 : Array (Option Value)} {uN1 : Tok} {uN2 : Tok} {uN3 : Tok}
    (a1 : PySem.W.nsIn K mainGlobals "is_number" = some (some (.ref f1))) (l1 : K.lookup f1 = some ⟨oc1, od1, .func (PySem.W.fnOf "is_number" "is_number" (defArgs s_is_number) (defBody s_is_number) (defScope s_is_number) .none kV1 dc1 pm1 an1 cd1 ct1), sl1⟩) (c1 : PySem.W.codeIn K cd1 "is_number" = true) (k1 : PySem.W.keepIn K (.ref f1) = true)
    (a2 : PySem.W.nsIn K mainGlobals "check_number" = some (some (.ref f2))) (l2 : K.lookup f2 = some ⟨oc2, od2, .func (PySem.W.fnOf "check_number" "check_number" (defArgs s_check_number) (defBody s_check_number) (defScope s_check_number) .none kV2 dc2 pm2 an2 cd2 ct2), sl2⟩) (c2 : PySem.W.codeIn K cd2 "check_number" = true) (k2 : PySem.W.keepIn K (.ref f2) = true)
    (a3 : PySem.W.nsIn K mainGlobals "check_not_zero" = some (some (.ref f3))) (l3 : K.lookup f3 = some ⟨oc3, od3, .func (PySem.W.fnOf "check_not_zero" "check_not_zero" (defArgs s_check_not_zero) (defBody s_check_not_zero) (defScope s_check_not_zero) .none kV3 dc3 pm3 an3 cd3 ct3), sl3⟩) (c3 : PySem.W.codeIn K cd3 "check_not_zero" = true) (k3 : PySem.W.keepIn K (.ref f3) = true)
    (a4 : PySem.W.nsIn K mainGlobals "conjugate" = some (some (.ref f4))) (l4 : K.lookup f4 = some ⟨oc4, od4, .func (PySem.W.fnOf "conjugate" "conjugate" (defArgs s_conjugate) (defBody s_conjugate) (defScope s_conjugate) .none kV4 dc4 pm4 an4 cd4 ct4), sl4⟩) (c4 : PySem.W.codeIn K cd4 "conjugate" = true) (k4 : PySem.W.keepIn K (.ref f4) = true)
    (a5 : PySem.W.nsIn K mainGlobals "canonical" = some (some (.ref f5))) (l5 : K.lookup f5 = some ⟨oc5, od5, .func (PySem.W.fnOf "canonical" "canonical" (defArgs s_canonical) (defBody s_canonical) (defScope s_canonical) .none kV5 dc5 pm5 an5 cd5 ct5), sl5⟩) (c5 : PySem.W.codeIn K cd5 "canonical" = true) (k5 : PySem.W.keepIn K (.ref f5) = true)
    (a6 : PySem.W.nsIn K mainGlobals "_greatest_associate" = some (some (.ref f6))) (l6 : K.lookup f6 = some ⟨oc6, od6, .func (PySem.W.fnOf "_greatest_associate" "_greatest_associate" (defArgs s_p_greatest_associate) (defBody s_p_greatest_associate) (defScope s_p_greatest_associate) .none kV6 dc6 pm6 an6 cd6 ct6), sl6⟩) (c6 : PySem.W.codeIn K cd6 "_greatest_associate" = true) (k6 : PySem.W.keepIn K (.ref f6) = true)
    (a7 : PySem.W.nsIn K mainGlobals "_conjugate" = some (some (.ref f7))) (l7 : K.lookup f7 = some ⟨oc7, od7, .func (PySem.W.fnOf "_conjugate" "_conjugate" (defArgs s_p_conjugate) (defBody s_p_conjugate) (defScope s_p_conjugate) .none kV7 dc7 pm7 an7 cd7 ct7), sl7⟩) (c7 : PySem.W.codeIn K cd7 "_conjugate" = true) (k7 : PySem.W.keepIn K (.ref f7) = true)
    (a8 : PySem.W.nsIn K mainGlobals "_product" = some (some (.ref f8))) (l8 : K.lookup f8 = some ⟨oc8, od8, .func (PySem.W.fnOf "_product" "_product" (defArgs s_p_product) (defBody s_p_product) (defScope s_p_product) .none kV8 dc8 pm8 an8 cd8 ct8), sl8⟩) (c8 : PySem.W.codeIn K cd8 "_product" = true) (k8 : PySem.W.keepIn K (.ref f8) = true)
    (a9 : PySem.W.nsIn K mainGlobals "is_prime" = some (some (.ref f9))) (l9 : K.lookup f9 = some ⟨oc9, od9, .func (PySem.W.fnOf "is_prime" "is_prime" (defArgs s_is_prime) (defBody s_is_prime) (defScope s_is_prime) .none kV9 dc9 pm9 an9 cd9 ct9), sl9⟩) (c9 : PySem.W.codeIn K cd9 "is_prime" = true) (k9 : PySem.W.keepIn K (.ref f9) = true)
    (a10 : PySem.W.nsIn K mainGlobals "primes_of" = some (some (.ref f10))) (l10 : K.lookup f10 = some ⟨oc10, od10, .func (PySem.W.fnOf "primes_of" "primes_of" (defArgs s_primes_of) (defBody s_primes_of) (defScope s_primes_of) .none kV10 dc10 pm10 an10 cd10 ct10), sl10⟩) (c10 : PySem.W.codeIn K cd10 "primes_of" = true) (k10 : PySem.W.keepIn K (.ref f10) = true)
    (a11 : PySem.W.nsIn K mainGlobals "check_odd_prime" = some (some (.ref f11))) (l11 : K.lookup f11 = some ⟨oc11, od11, .func (PySem.W.fnOf "check_odd_prime" "check_odd_prime" (defArgs s_check_odd_prime) (defBody s_check_odd_prime) (defScope s_check_odd_prime) .none kV11 dc11 pm11 an11 cd11 ct11), sl11⟩) (c11 : PySem.W.codeIn K cd11 "check_odd_prime" = true) (k11 : PySem.W.keepIn K (.ref f11) = true)
    (a12 : PySem.W.nsIn K mainGlobals "power_modulo" = some (some (.ref f12))) (l12 : K.lookup f12 = some ⟨oc12, od12, .func (PySem.W.fnOf "power_modulo" "power_modulo" (defArgs s_power_modulo) (defBody s_power_modulo) (defScope s_power_modulo) .none kV12 dc12 pm12 an12 cd12 ct12), sl12⟩) (c12 : PySem.W.codeIn K cd12 "power_modulo" = true) (k12 : PySem.W.keepIn K (.ref f12) = true)
    (a13 : PySem.W.nsIn K mainGlobals "_check_prime" = some (some (.ref f13))) (l13 : K.lookup f13 = some ⟨oc13, od13, .func (PySem.W.fnOf "_check_prime" "_check_prime" (defArgs s_p_check_prime) (defBody s_p_check_prime) (defScope s_p_check_prime) .none kV13 dc13 pm13 an13 cd13 ct13), sl13⟩) (c13 : PySem.W.codeIn K cd13 "_check_prime" = true) (k13 : PySem.W.keepIn K (.ref f13) = true)
    (a14 : PySem.W.nsIn K mainGlobals "_leading_parts" = some (some (.ref f14))) (l14 : K.lookup f14 = some ⟨oc14, od14, .func (PySem.W.fnOf "_leading_parts" "_leading_parts" (defArgs s_p_leading_parts) (defBody s_p_leading_parts) (defScope s_p_leading_parts) .none kV14 dc14 pm14 an14 cd14 ct14), sl14⟩) (c14 : PySem.W.codeIn K cd14 "_leading_parts" = true) (k14 : PySem.W.keepIn K (.ref f14) = true)
    (a15 : PySem.W.nsIn K mainGlobals "_with_signs" = some (some (.ref f15))) (l15 : K.lookup f15 = some ⟨oc15, od15, .func (PySem.W.fnOf "_with_signs" "_with_signs" (defArgs s_p_with_signs) (defBody s_p_with_signs) (defScope s_p_with_signs) .none kV15 dc15 pm15 an15 cd15 ct15), sl15⟩) (c15 : PySem.W.codeIn K cd15 "_with_signs" = true) (k15 : PySem.W.keepIn K (.ref f15) = true)
    (a16 : PySem.W.nsIn K mainGlobals "_passes" = some (some (.ref f16))) (l16 : K.lookup f16 = some ⟨oc16, od16, .func (PySem.W.fnOf "_passes" "_passes" (defArgs s_p_passes) (defBody s_p_passes) (defScope s_p_passes) .none kV16 dc16 pm16 an16 cd16 ct16), sl16⟩) (c16 : PySem.W.codeIn K cd16 "_passes" = true) (k16 : PySem.W.keepIn K (.ref f16) = true)
    (a17 : PySem.W.nsIn K mainGlobals "is_plain_integer" = some (some (.ref f17))) (l17 : K.lookup f17 = some ⟨oc17, od17, .func (PySem.W.fnOf "is_plain_integer" "is_plain_integer" (defArgs s_is_plain_integer) (defBody s_is_plain_integer) (defScope s_is_plain_integer) .none kV17 dc17 pm17 an17 cd17 ct17), sl17⟩) (c17 : PySem.W.codeIn K cd17 "is_plain_integer" = true) (k17 : PySem.W.keepIn K (.ref f17) = true)
    (a18 : PySem.W.nsIn K mainGlobals "partner_of" = some (some (.ref f18))) (l18 : K.lookup f18 = some ⟨oc18, od18, .func (PySem.W.fnOf "partner_of" "partner_of" (defArgs s_partner_of) (defBody s_partner_of) (defScope s_partner_of) .none kV18 dc18 pm18 an18 cd18 ct18), sl18⟩) (c18 : PySem.W.codeIn K cd18 "partner_of" = true) (k18 : PySem.W.keepIn K (.ref f18) = true)
    (a19 : PySem.W.nsIn K mainGlobals "word_count" = some (some (.ref f19))) (l19 : K.lookup f19 = some ⟨oc19, od19, .func (PySem.W.fnOf "word_count" "word_count" (defArgs s_word_count) (defBody s_word_count) (defScope s_word_count) .none kV19 dc19 pm19 an19 cd19 ct19), sl19⟩) (c19 : PySem.W.codeIn K cd19 "word_count" = true) (k19 : PySem.W.keepIn K (.ref f19) = true)
    (a20 : PySem.W.nsIn K mainGlobals "number_of_word" = some (some (.ref f20))) (l20 : K.lookup f20 = some ⟨oc20, od20, .func (PySem.W.fnOf "number_of_word" "number_of_word" (defArgs s_number_of_word) (defBody s_number_of_word) (defScope s_number_of_word) .none kV20 dc20 pm20 an20 cd20 ct20), sl20⟩) (c20 : PySem.W.codeIn K cd20 "number_of_word" = true) (k20 : PySem.W.keepIn K (.ref f20) = true)
    (a21 : PySem.W.nsIn K mainGlobals "word_of_number" = some (some (.ref f21))) (l21 : K.lookup f21 = some ⟨oc21, od21, .func (PySem.W.fnOf "word_of_number" "word_of_number" (defArgs s_word_of_number) (defBody s_word_of_number) (defScope s_word_of_number) .none kV21 dc21 pm21 an21 cd21 ct21), sl21⟩) (c21 : PySem.W.codeIn K cd21 "word_of_number" = true) (k21 : PySem.W.keepIn K (.ref f21) = true)
    (a22 : PySem.W.nsIn K mainGlobals "letters" = some (some (.ref f22))) (l22 : K.lookup f22 = some ⟨oc22, od22, .func (PySem.W.fnOf "letters" "letters" (defArgs s_letters) (defBody s_letters) (defScope s_letters) .none kV22 dc22 pm22 an22 cd22 ct22), sl22⟩) (c22 : PySem.W.codeIn K cd22 "letters" = true) (k22 : PySem.W.keepIn K (.ref f22) = true)
    (a23 : PySem.W.nsIn K mainGlobals "is_reduced" = some (some (.ref f23))) (l23 : K.lookup f23 = some ⟨oc23, od23, .func (PySem.W.fnOf "is_reduced" "is_reduced" (defArgs s_is_reduced) (defBody s_is_reduced) (defScope s_is_reduced) .none kV23 dc23 pm23 an23 cd23 ct23), sl23⟩) (c23 : PySem.W.codeIn K cd23 "is_reduced" = true) (k23 : PySem.W.keepIn K (.ref f23) = true)
    (a24 : PySem.W.nsIn K mainGlobals "place_count" = some (some (.ref f24))) (l24 : K.lookup f24 = some ⟨oc24, od24, .func (PySem.W.fnOf "place_count" "place_count" (defArgs s_place_count) (defBody s_place_count) (defScope s_place_count) .none kV24 dc24 pm24 an24 cd24 ct24), sl24⟩) (c24 : PySem.W.codeIn K cd24 "place_count" = true) (k24 : PySem.W.keepIn K (.ref f24) = true)
    (a25 : PySem.W.nsIn K mainGlobals "number_of" = some (some (.ref f25))) (l25 : K.lookup f25 = some ⟨oc25, od25, .func (PySem.W.fnOf "number_of" "number_of" (defArgs s_number_of) (defBody s_number_of) (defScope s_number_of) .none kV25 dc25 pm25 an25 cd25 ct25), sl25⟩) (c25 : PySem.W.codeIn K cd25 "number_of" = true) (k25 : PySem.W.keepIn K (.ref f25) = true)
    (a26 : PySem.W.nsIn K mainGlobals "word_at" = some (some (.ref f26))) (l26 : K.lookup f26 = some ⟨oc26, od26, .func (PySem.W.fnOf "word_at" "word_at" (defArgs s_word_at) (defBody s_word_at) (defScope s_word_at) .none kV26 dc26 pm26 an26 cd26 ct26), sl26⟩) (c26 : PySem.W.codeIn K cd26 "word_at" = true) (k26 : PySem.W.keepIn K (.ref f26) = true)
    (a27 : PySem.W.nsIn K mainGlobals "_check_word" = some (some (.ref f27))) (l27 : K.lookup f27 = some ⟨oc27, od27, .func (PySem.W.fnOf "_check_word" "_check_word" (defArgs s_p_check_word) (defBody s_p_check_word) (defScope s_p_check_word) .none kV27 dc27 pm27 an27 cd27 ct27), sl27⟩) (c27 : PySem.W.codeIn K cd27 "_check_word" = true) (k27 : PySem.W.keepIn K (.ref f27) = true)
    (a28 : PySem.W.nsIn K mainGlobals "_law_row" = some (some (.ref f28))) (l28 : K.lookup f28 = some ⟨oc28, od28, .func (PySem.W.fnOf "_law_row" "_law_row" (defArgs s_law_row) (defBody s_law_row) (defScope s_law_row) .none kV28 dc28 pm28 an28 cd28 ct28), sl28⟩) (c28 : PySem.W.codeIn K cd28 "_law_row" = true) (k28 : PySem.W.keepIn K (.ref f28) = true)
    (a29 : PySem.W.nsIn K mainGlobals "_law_numbers" = some (some (.ref f29))) (l29 : K.lookup f29 = some ⟨oc29, od29, .func (PySem.W.fnOf "_law_numbers" "_law_numbers" (defArgs s_law_numbers) (defBody s_law_numbers) (defScope s_law_numbers) .none kV29 dc29 pm29 an29 cd29 ct29), sl29⟩) (c29 : PySem.W.codeIn K cd29 "_law_numbers" = true) (k29 : PySem.W.keepIn K (.ref f29) = true)
    (a30 : PySem.W.nsIn K mainGlobals "_law_product" = some (some (.ref f30))) (l30 : K.lookup f30 = some ⟨oc30, od30, .func (PySem.W.fnOf "_law_product" "_law_product" (defArgs s_law_product) (defBody s_law_product) (defScope s_law_product) .none kV30 dc30 pm30 an30 cd30 ct30), sl30⟩) (c30 : PySem.W.codeIn K cd30 "_law_product" = true) (k30 : PySem.W.keepIn K (.ref f30) = true)
    (a31 : PySem.W.nsIn K mainGlobals "_law_turned" = some (some (.ref f31))) (l31 : K.lookup f31 = some ⟨oc31, od31, .func (PySem.W.fnOf "_law_turned" "_law_turned" (defArgs s_law_turned) (defBody s_law_turned) (defScope s_law_turned) .none kV31 dc31 pm31 an31 cd31 ct31), sl31⟩) (c31 : PySem.W.codeIn K cd31 "_law_turned" = true) (k31 : PySem.W.keepIn K (.ref f31) = true)
    (a32 : PySem.W.nsIn K mainGlobals "_law_units" = some (some (.ref f32))) (l32 : K.lookup f32 = some ⟨oc32, od32, .func (PySem.W.fnOf "_law_units" "_law_units" (defArgs s_law_units) (defBody s_law_units) (defScope s_law_units) .none kV32 dc32 pm32 an32 cd32 ct32), sl32⟩) (c32 : PySem.W.codeIn K cd32 "_law_units" = true) (k32 : PySem.W.keepIn K (.ref f32) = true)
    (a33 : PySem.W.nsIn K mainGlobals "_law_greatest" = some (some (.ref f33))) (l33 : K.lookup f33 = some ⟨oc33, od33, .func (PySem.W.fnOf "_law_greatest" "_law_greatest" (defArgs s_law_greatest) (defBody s_law_greatest) (defScope s_law_greatest) .none kV33 dc33 pm33 an33 cd33 ct33), sl33⟩) (c33 : PySem.W.codeIn K cd33 "_law_greatest" = true) (k33 : PySem.W.keepIn K (.ref f33) = true)
    (a34 : PySem.W.nsIn K mainGlobals "_law_letters" = some (some (.ref f34))) (l34 : K.lookup f34 = some ⟨oc34, od34, .func (PySem.W.fnOf "_law_letters" "_law_letters" (defArgs s_law_letters) (defBody s_law_letters) (defScope s_law_letters) .none kV34 dc34 pm34 an34 cd34 ct34), sl34⟩) (c34 : PySem.W.codeIn K cd34 "_law_letters" = true) (k34 : PySem.W.keepIn K (.ref f34) = true)
    (a35 : PySem.W.nsIn K mainGlobals "_law_partner" = some (some (.ref f35))) (l35 : K.lookup f35 = some ⟨oc35, od35, .func (PySem.W.fnOf "_law_partner" "_law_partner" (defArgs s_law_partner) (defBody s_law_partner) (defScope s_law_partner) .none kV35 dc35 pm35 an35 cd35 ct35), sl35⟩) (c35 : PySem.W.codeIn K cd35 "_law_partner" = true) (k35 : PySem.W.keepIn K (.ref f35) = true)
    (a36 : PySem.W.nsIn K mainGlobals "_law_prime" = some (some (.ref f36))) (l36 : K.lookup f36 = some ⟨oc36, od36, .func (PySem.W.fnOf "_law_prime" "_law_prime" (defArgs s_law_prime) (defBody s_law_prime) (defScope s_law_prime) .none kV36 dc36 pm36 an36 cd36 ct36), sl36⟩) (c36 : PySem.W.codeIn K cd36 "_law_prime" = true) (k36 : PySem.W.keepIn K (.ref f36) = true)
    (a37 : PySem.W.nsIn K mainGlobals "_law_all" = some (some (.ref f37))) (l37 : K.lookup f37 = some ⟨oc37, od37, .func (PySem.W.fnOf "_law_all" "_law_all" (defArgs s_law_all) (defBody s_law_all) (defScope s_law_all) .none kV37 dc37 pm37 an37 cd37 ct37), sl37⟩) (c37 : PySem.W.codeIn K cd37 "_law_all" = true) (k37 : PySem.W.keepIn K (.ref f37) = true)
    (a38 : PySem.W.nsIn K mainGlobals "_law_told" = some (some (.ref f38))) (l38 : K.lookup f38 = some ⟨oc38, od38, .func (PySem.W.fnOf "_law_told" "_law_told" (defArgs s_law_told) (defBody s_law_told) (defScope s_law_told) .none kV38 dc38 pm38 an38 cd38 ct38), sl38⟩) (c38 : PySem.W.codeIn K cd38 "_law_told" = true) (k38 : PySem.W.keepIn K (.ref f38) = true)
    (a39 : PySem.W.nsIn K mainGlobals "_law_refused" = some (some (.ref f39))) (l39 : K.lookup f39 = some ⟨oc39, od39, .func (PySem.W.fnOf "_law_refused" "_law_refused" (defArgs s_law_refused) (defBody s_law_refused) (defScope s_law_refused) .none kV39 dc39 pm39 an39 cd39 ct39), sl39⟩) (c39 : PySem.W.codeIn K cd39 "_law_refused" = true) (k39 : PySem.W.keepIn K (.ref f39) = true)
    (a40 : PySem.W.nsIn K mainGlobals "law" = some (some (.ref f40))) (l40 : K.lookup f40 = some ⟨oc40, od40, .func (PySem.W.fnOf "law" "law" (defArgs s_law) (defBody s_law) (defScope s_law) .none kV40 dc40 pm40 an40 cd40 ct40), sl40⟩) (c40 : PySem.W.codeIn K cd40 "law" = true) (k40 : PySem.W.keepIn K (.ref f40) = true)
    (gC1 : PySem.W.nsIn K mainGlobals "TurnprimesError" = some (some (.ref C1))) (xC1 : PySem.W.excIn K C1 [.type "ValueError", .type "Exception", .type "BaseException", .type "object"] "ValueError.__new__" = true) (kC1 : PySem.W.keepIn K (.ref C1) = true) (bC1 : PySem.W.subIn K (.ref C1) (.type "BaseException") = some true) (tC1 : PySem.W.typeIn K (.ref C1) = some (.type "type"))
    (gC2 : PySem.W.nsIn K mainGlobals "InvalidNumber" = some (some (.ref C2))) (xC2 : PySem.W.excIn K C2 [.type "ValueError", .type "Exception", .type "BaseException", .type "object"] "ValueError.__new__" = true) (kC2 : PySem.W.keepIn K (.ref C2) = true) (bC2 : PySem.W.subIn K (.ref C2) (.type "BaseException") = some true) (tC2 : PySem.W.typeIn K (.ref C2) = some (.type "type"))
    (gC3 : PySem.W.nsIn K mainGlobals "InvalidWord" = some (some (.ref C3))) (xC3 : PySem.W.excIn K C3 [.type "ValueError", .type "Exception", .type "BaseException", .type "object"] "ValueError.__new__" = true) (kC3 : PySem.W.keepIn K (.ref C3) = true) (bC3 : PySem.W.subIn K (.ref C3) (.type "BaseException") = some true) (tC3 : PySem.W.typeIn K (.ref C3) = some (.type "type"))
    (gC4 : PySem.W.nsIn K mainGlobals "InvalidQuestion" = some (some (.ref C4))) (xC4 : PySem.W.excIn K C4 [.type "ValueError", .type "Exception", .type "BaseException", .type "object"] "ValueError.__new__" = true) (kC4 : PySem.W.keepIn K (.ref C4) = true) (bC4 : PySem.W.subIn K (.ref C4) (.type "BaseException") = some true) (tC4 : PySem.W.typeIn K (.ref C4) = some (.type "type"))
    (hgR2 : PySem.W.findIn K (.ref C2) "__getattribute__" = some (some (.builtin "BaseException.__getattribute__")))
    (hkR2 : PySem.W.findIn K (.ref C2) "__getattr__" = some none)
    (hsR2 : PySem.W.subIn K (.ref C2) (.type "BaseException") = some true)
    (hdR2 : PySem.W.hasDictIn K C2 = true)
    (haR2 : PySem.W.findIn K (.ref C2) "__class__" = some (some (.builtin "object.__class__")))
    (hnR2 : PySem.W.specialIn K (.builtin "object.__class__") "__get__" = some (some (.builtin "getset_descriptor.__get__")))
    (htR2 : PySem.W.takesIn K (.builtin "object.__class__") = some true)
    (hmR2 : PySem.W.mroIn K C2 (.type "object") = some true)
    (sb2_4 : PySem.W.subIn K (.ref C2) (.ref C4) = some false) (hhsb2_4 : PySem.W.hasDictIn K C4 = true)
    (sb2_3 : PySem.W.subIn K (.ref C2) (.ref C3) = some false) (hhsb2_3 : PySem.W.hasDictIn K C3 = true)
    (hgR4 : PySem.W.findIn K (.ref C4) "__getattribute__" = some (some (.builtin "BaseException.__getattribute__")))
    (hkR4 : PySem.W.findIn K (.ref C4) "__getattr__" = some none)
    (hsR4 : PySem.W.subIn K (.ref C4) (.type "BaseException") = some true)
    (hdR4 : PySem.W.hasDictIn K C4 = true)
    (haR4 : PySem.W.findIn K (.ref C4) "__class__" = some (some (.builtin "object.__class__")))
    (hnR4 : PySem.W.specialIn K (.builtin "object.__class__") "__get__" = some (some (.builtin "getset_descriptor.__get__")))
    (htR4 : PySem.W.takesIn K (.builtin "object.__class__") = some true)
    (hmR4 : PySem.W.mroIn K C4 (.type "object") = some true)
    (sb4_4 : PySem.W.subIn K (.ref C4) (.ref C4) = some true) (hhsb4_4 : PySem.W.hasDictIn K C4 = true)
    (sb4_3 : PySem.W.subIn K (.ref C4) (.ref C3) = some false) (hhsb4_3 : PySem.W.hasDictIn K C3 = true)
    (hgR3 : PySem.W.findIn K (.ref C3) "__getattribute__" = some (some (.builtin "BaseException.__getattribute__")))
    (hkR3 : PySem.W.findIn K (.ref C3) "__getattr__" = some none)
    (hsR3 : PySem.W.subIn K (.ref C3) (.type "BaseException") = some true)
    (hdR3 : PySem.W.hasDictIn K C3 = true)
    (haR3 : PySem.W.findIn K (.ref C3) "__class__" = some (some (.builtin "object.__class__")))
    (hnR3 : PySem.W.specialIn K (.builtin "object.__class__") "__get__" = some (some (.builtin "getset_descriptor.__get__")))
    (htR3 : PySem.W.takesIn K (.builtin "object.__class__") = some true)
    (hmR3 : PySem.W.mroIn K C3 (.type "object") = some true)
    (sb3_4 : PySem.W.subIn K (.ref C3) (.ref C4) = some false) (hhsb3_4 : PySem.W.hasDictIn K C4 = true)
    (sb3_3 : PySem.W.subIn K (.ref C3) (.ref C3) = some true) (hhsb3_3 : PySem.W.hasDictIn K C3 = true)
    (aK1 : PySem.W.nsIn K mainGlobals "_BASES" = some (some (.ref kk1))) (lK1 : K.lookup kk1 = some ⟨.type "tuple", odK1, .seq #[.int 2 uK1_0, .int 3 uK1_1, .int 5 uK1_2, .int 7 uK1_3, .int 11 uK1_4] nK1, slK1⟩)
    (aKT1 : PySem.W.nsIn K mainGlobals "_UNITS" = some (some (.ref kkT1))) (lKT1 : K.lookup kkT1 = some ⟨.type "tuple", odKT1, .seq #[.ref kkT1_0, .ref kkT1_1, .ref kkT1_2, .ref kkT1_3, .ref kkT1_4, .ref kkT1_5, .ref kkT1_6, .ref kkT1_7, .ref kkT1_8, .ref kkT1_9, .ref kkT1_10, .ref kkT1_11, .ref kkT1_12, .ref kkT1_13, .ref kkT1_14, .ref kkT1_15, .ref kkT1_16, .ref kkT1_17, .ref kkT1_18, .ref kkT1_19, .ref kkT1_20, .ref kkT1_21, .ref kkT1_22, .ref kkT1_23] nKT1, slKT1⟩)
    (lKT1_0 : K.lookup kkT1_0 = some ⟨.type "tuple", odKT1_0, .seq #[.int (-2) uKT1_0_0, .int 0 uKT1_0_1, .int 0 uKT1_0_2, .int 0 uKT1_0_3] nKT1_0, slKT1_0⟩)
    (lKT1_1 : K.lookup kkT1_1 = some ⟨.type "tuple", odKT1_1, .seq #[.int (-1) uKT1_1_0, .int (-1) uKT1_1_1, .int (-1) uKT1_1_2, .int (-1) uKT1_1_3] nKT1_1, slKT1_1⟩)
    (lKT1_2 : K.lookup kkT1_2 = some ⟨.type "tuple", odKT1_2, .seq #[.int (-1) uKT1_2_0, .int (-1) uKT1_2_1, .int (-1) uKT1_2_2, .int 1 uKT1_2_3] nKT1_2, slKT1_2⟩)
    (lKT1_3 : K.lookup kkT1_3 = some ⟨.type "tuple", odKT1_3, .seq #[.int (-1) uKT1_3_0, .int (-1) uKT1_3_1, .int 1 uKT1_3_2, .int (-1) uKT1_3_3] nKT1_3, slKT1_3⟩)
    (lKT1_4 : K.lookup kkT1_4 = some ⟨.type "tuple", odKT1_4, .seq #[.int (-1) uKT1_4_0, .int (-1) uKT1_4_1, .int 1 uKT1_4_2, .int 1 uKT1_4_3] nKT1_4, slKT1_4⟩)
    (lKT1_5 : K.lookup kkT1_5 = some ⟨.type "tuple", odKT1_5, .seq #[.int (-1) uKT1_5_0, .int 1 uKT1_5_1, .int (-1) uKT1_5_2, .int (-1) uKT1_5_3] nKT1_5, slKT1_5⟩)
    (lKT1_6 : K.lookup kkT1_6 = some ⟨.type "tuple", odKT1_6, .seq #[.int (-1) uKT1_6_0, .int 1 uKT1_6_1, .int (-1) uKT1_6_2, .int 1 uKT1_6_3] nKT1_6, slKT1_6⟩)
    (lKT1_7 : K.lookup kkT1_7 = some ⟨.type "tuple", odKT1_7, .seq #[.int (-1) uKT1_7_0, .int 1 uKT1_7_1, .int 1 uKT1_7_2, .int (-1) uKT1_7_3] nKT1_7, slKT1_7⟩)
    (lKT1_8 : K.lookup kkT1_8 = some ⟨.type "tuple", odKT1_8, .seq #[.int (-1) uKT1_8_0, .int 1 uKT1_8_1, .int 1 uKT1_8_2, .int 1 uKT1_8_3] nKT1_8, slKT1_8⟩)
    (lKT1_9 : K.lookup kkT1_9 = some ⟨.type "tuple", odKT1_9, .seq #[.int 0 uKT1_9_0, .int (-2) uKT1_9_1, .int 0 uKT1_9_2, .int 0 uKT1_9_3] nKT1_9, slKT1_9⟩)
    (lKT1_10 : K.lookup kkT1_10 = some ⟨.type "tuple", odKT1_10, .seq #[.int 0 uKT1_10_0, .int 0 uKT1_10_1, .int (-2) uKT1_10_2, .int 0 uKT1_10_3] nKT1_10, slKT1_10⟩)
    (lKT1_11 : K.lookup kkT1_11 = some ⟨.type "tuple", odKT1_11, .seq #[.int 0 uKT1_11_0, .int 0 uKT1_11_1, .int 0 uKT1_11_2, .int (-2) uKT1_11_3] nKT1_11, slKT1_11⟩)
    (lKT1_12 : K.lookup kkT1_12 = some ⟨.type "tuple", odKT1_12, .seq #[.int 0 uKT1_12_0, .int 0 uKT1_12_1, .int 0 uKT1_12_2, .int 2 uKT1_12_3] nKT1_12, slKT1_12⟩)
    (lKT1_13 : K.lookup kkT1_13 = some ⟨.type "tuple", odKT1_13, .seq #[.int 0 uKT1_13_0, .int 0 uKT1_13_1, .int 2 uKT1_13_2, .int 0 uKT1_13_3] nKT1_13, slKT1_13⟩)
    (lKT1_14 : K.lookup kkT1_14 = some ⟨.type "tuple", odKT1_14, .seq #[.int 0 uKT1_14_0, .int 2 uKT1_14_1, .int 0 uKT1_14_2, .int 0 uKT1_14_3] nKT1_14, slKT1_14⟩)
    (lKT1_15 : K.lookup kkT1_15 = some ⟨.type "tuple", odKT1_15, .seq #[.int 1 uKT1_15_0, .int (-1) uKT1_15_1, .int (-1) uKT1_15_2, .int (-1) uKT1_15_3] nKT1_15, slKT1_15⟩)
    (lKT1_16 : K.lookup kkT1_16 = some ⟨.type "tuple", odKT1_16, .seq #[.int 1 uKT1_16_0, .int (-1) uKT1_16_1, .int (-1) uKT1_16_2, .int 1 uKT1_16_3] nKT1_16, slKT1_16⟩)
    (lKT1_17 : K.lookup kkT1_17 = some ⟨.type "tuple", odKT1_17, .seq #[.int 1 uKT1_17_0, .int (-1) uKT1_17_1, .int 1 uKT1_17_2, .int (-1) uKT1_17_3] nKT1_17, slKT1_17⟩)
    (lKT1_18 : K.lookup kkT1_18 = some ⟨.type "tuple", odKT1_18, .seq #[.int 1 uKT1_18_0, .int (-1) uKT1_18_1, .int 1 uKT1_18_2, .int 1 uKT1_18_3] nKT1_18, slKT1_18⟩)
    (lKT1_19 : K.lookup kkT1_19 = some ⟨.type "tuple", odKT1_19, .seq #[.int 1 uKT1_19_0, .int 1 uKT1_19_1, .int (-1) uKT1_19_2, .int (-1) uKT1_19_3] nKT1_19, slKT1_19⟩)
    (lKT1_20 : K.lookup kkT1_20 = some ⟨.type "tuple", odKT1_20, .seq #[.int 1 uKT1_20_0, .int 1 uKT1_20_1, .int (-1) uKT1_20_2, .int 1 uKT1_20_3] nKT1_20, slKT1_20⟩)
    (lKT1_21 : K.lookup kkT1_21 = some ⟨.type "tuple", odKT1_21, .seq #[.int 1 uKT1_21_0, .int 1 uKT1_21_1, .int 1 uKT1_21_2, .int (-1) uKT1_21_3] nKT1_21, slKT1_21⟩)
    (lKT1_22 : K.lookup kkT1_22 = some ⟨.type "tuple", odKT1_22, .seq #[.int 1 uKT1_22_0, .int 1 uKT1_22_1, .int 1 uKT1_22_2, .int 1 uKT1_22_3] nKT1_22, slKT1_22⟩)
    (lKT1_23 : K.lookup kkT1_23 = some ⟨.type "tuple", odKT1_23, .seq #[.int 2 uKT1_23_0, .int 0 uKT1_23_1, .int 0 uKT1_23_2, .int 0 uKT1_23_3] nKT1_23, slKT1_23⟩)
    (aN1 : PySem.W.nsIn K mainGlobals "MOST_PRIME" = some (some (.int 1000 uN1)))
    (aN2 : PySem.W.nsIn K mainGlobals "MOST" = some (some (.int 1000000000000 uN2)))
    (aN3 : PySem.W.nsIn K mainGlobals "_MOST_PRIME" = some (some (.int 199 uN3)))
    (aI1 : PySem.W.nsIn K mainGlobals "isqrt" = some (some (.builtin "math.isqrt")))
    (z0 : PySem.W.nsIn K mainGlobals "abs" = some none) (z1 : PySem.W.nsIn K mainGlobals "all" = some none) (z2 : PySem.W.nsIn K mainGlobals "any" = some none) (z3 : PySem.W.nsIn K mainGlobals "bool" = some none) (z4 : PySem.W.nsIn K mainGlobals "divmod" = some none) (z5 : PySem.W.nsIn K mainGlobals "enumerate" = some none) (z6 : PySem.W.nsIn K mainGlobals "int" = some none) (z7 : PySem.W.nsIn K mainGlobals "isinstance" = some none) (z8 : PySem.W.nsIn K mainGlobals "len" = some none) (z9 : PySem.W.nsIn K mainGlobals "list" = some none) (z10 : PySem.W.nsIn K mainGlobals "max" = some none) (z11 : PySem.W.nsIn K mainGlobals "range" = some none) (z12 : PySem.W.nsIn K mainGlobals "repr" = some none) (z13 : PySem.W.nsIn K mainGlobals "reversed" = some none) (z14 : PySem.W.nsIn K mainGlobals "sorted" = some none) (z15 : PySem.W.nsIn K mainGlobals "tuple" = some none) (z16 : PySem.W.nsIn K mainGlobals "zip" = some none) :
    ∃ fd : FuncData, (∀ (s : Shared) (v : Value), BindsTo s fd ⟨[v], []⟩ [("script", v)]) ∧ ∀ base : Heap, K.In base → base.Ns mainGlobals mg → FnG l.prog w K mg base 11 fa fd ["script"] (spD K R_law) := by
  have ee := hfa.symm.trans (PySem.W.mg_of X G a40)
  cases ee
  have F1 := fun_mk (st := s_is_number) l1 c1 k1
  have A1 : FnAt K mg "is_number" s_is_number ["number"] := ⟨f1, _, F1, PySem.W.mg_of X G a1, F1.binds (ps := ["number"]) fun _ _ _ _ _ _ us hl => match us, hl with | [_], _ => rfl⟩
  have F2 := fun_mk (st := s_check_number) l2 c2 k2
  have A2 : FnAt K mg "check_number" s_check_number ["number"] := ⟨f2, _, F2, PySem.W.mg_of X G a2, F2.binds (ps := ["number"]) fun _ _ _ _ _ _ us hl => match us, hl with | [_], _ => rfl⟩
  have F3 := fun_mk (st := s_check_not_zero) l3 c3 k3
  have A3 : FnAt K mg "check_not_zero" s_check_not_zero ["number"] := ⟨f3, _, F3, PySem.W.mg_of X G a3, F3.binds (ps := ["number"]) fun _ _ _ _ _ _ us hl => match us, hl with | [_], _ => rfl⟩
  have F4 := fun_mk (st := s_conjugate) l4 c4 k4
  have A4 : FnAt K mg "conjugate" s_conjugate ["number"] := ⟨f4, _, F4, PySem.W.mg_of X G a4, F4.binds (ps := ["number"]) fun _ _ _ _ _ _ us hl => match us, hl with | [_], _ => rfl⟩
  have F5 := fun_mk (st := s_canonical) l5 c5 k5
  have A5 : FnAt K mg "canonical" s_canonical ["number"] := ⟨f5, _, F5, PySem.W.mg_of X G a5, F5.binds (ps := ["number"]) fun _ _ _ _ _ _ us hl => match us, hl with | [_], _ => rfl⟩
  have F6 := fun_mk (st := s_p_greatest_associate) l6 c6 k6
  have A6 : FnAt K mg "_greatest_associate" s_p_greatest_associate ["number"] := ⟨f6, _, F6, PySem.W.mg_of X G a6, F6.binds (ps := ["number"]) fun _ _ _ _ _ _ us hl => match us, hl with | [_], _ => rfl⟩
  have F7 := fun_mk (st := s_p_conjugate) l7 c7 k7
  have A7 : FnAt K mg "_conjugate" s_p_conjugate ["number"] := ⟨f7, _, F7, PySem.W.mg_of X G a7, F7.binds (ps := ["number"]) fun _ _ _ _ _ _ us hl => match us, hl with | [_], _ => rfl⟩
  have F8 := fun_mk (st := s_p_product) l8 c8 k8
  have A8 : FnAt K mg "_product" s_p_product ["one", "other"] := ⟨f8, _, F8, PySem.W.mg_of X G a8, F8.binds (ps := ["one", "other"]) fun _ _ _ _ _ _ us hl => match us, hl with | [_, _], _ => rfl⟩
  have F9 := fun_mk (st := s_is_prime) l9 c9 k9
  have A9 : FnAt K mg "is_prime" s_is_prime ["value"] := ⟨f9, _, F9, PySem.W.mg_of X G a9, F9.binds (ps := ["value"]) fun _ _ _ _ _ _ us hl => match us, hl with | [_], _ => rfl⟩
  have F10 := fun_mk (st := s_primes_of) l10 c10 k10
  have A10 : FnAt K mg "primes_of" s_primes_of ["prime"] := ⟨f10, _, F10, PySem.W.mg_of X G a10, F10.binds (ps := ["prime"]) fun _ _ _ _ _ _ us hl => match us, hl with | [_], _ => rfl⟩
  have F11 := fun_mk (st := s_check_odd_prime) l11 c11 k11
  have A11 : FnAt K mg "check_odd_prime" s_check_odd_prime ["value", "most"] := ⟨f11, _, F11, PySem.W.mg_of X G a11, F11.binds (ps := ["value", "most"]) fun _ _ _ _ _ _ us hl => match us, hl with | [_, _], _ => rfl⟩
  have F12 := fun_mk (st := s_power_modulo) l12 c12 k12
  have A12 : FnAt K mg "power_modulo" s_power_modulo ["base", "exponent", "modulus"] := ⟨f12, _, F12, PySem.W.mg_of X G a12, F12.binds (ps := ["base", "exponent", "modulus"]) fun _ _ _ _ _ _ us hl => match us, hl with | [_, _, _], _ => rfl⟩
  have F13 := fun_mk (st := s_p_check_prime) l13 c13 k13
  have A13 : FnAt K mg "_check_prime" s_p_check_prime ["prime"] := ⟨f13, _, F13, PySem.W.mg_of X G a13, F13.binds (ps := ["prime"]) fun _ _ _ _ _ _ us hl => match us, hl with | [_], _ => rfl⟩
  have F14 := fun_mk (st := s_p_leading_parts) l14 c14 k14
  have A14 : FnAt K mg "_leading_parts" s_p_leading_parts ["total"] := ⟨f14, _, F14, PySem.W.mg_of X G a14, F14.binds (ps := ["total"]) fun _ _ _ _ _ _ us hl => match us, hl with | [_], _ => rfl⟩
  have F15 := fun_mk (st := s_p_with_signs) l15 c15 k15
  have A15 : FnAt K mg "_with_signs" s_p_with_signs ["parts"] := ⟨f15, _, F15, PySem.W.mg_of X G a15, F15.binds (ps := ["parts"]) fun _ _ _ _ _ _ us hl => match us, hl with | [_], _ => rfl⟩
  have F16 := fun_mk (st := s_p_passes) l16 c16 k16
  have A16 : FnAt K mg "_passes" s_p_passes ["value", "base"] := ⟨f16, _, F16, PySem.W.mg_of X G a16, F16.binds (ps := ["value", "base"]) fun _ _ _ _ _ _ us hl => match us, hl with | [_, _], _ => rfl⟩
  have F17 := fun_mk (st := s_is_plain_integer) l17 c17 k17
  have A17 : FnAt K mg "is_plain_integer" s_is_plain_integer ["value"] := ⟨f17, _, F17, PySem.W.mg_of X G a17, F17.binds (ps := ["value"]) fun _ _ _ _ _ _ us hl => match us, hl with | [_], _ => rfl⟩
  have F18 := fun_mk (st := s_partner_of) l18 c18 k18
  have A18 : FnAt K mg "partner_of" s_partner_of ["letters", "letter"] := ⟨f18, _, F18, PySem.W.mg_of X G a18, F18.binds (ps := ["letters", "letter"]) fun _ _ _ _ _ _ us hl => match us, hl with | [_, _], _ => rfl⟩
  have F19 := fun_mk (st := s_word_count) l19 c19 k19
  have A19 : FnAt K mg "word_count" s_word_count ["many", "length"] := ⟨f19, _, F19, PySem.W.mg_of X G a19, F19.binds (ps := ["many", "length"]) fun _ _ _ _ _ _ us hl => match us, hl with | [_, _], _ => rfl⟩
  have F20 := fun_mk (st := s_number_of_word) l20 c20 k20
  have A20 : FnAt K mg "number_of_word" s_number_of_word ["letters", "word"] := ⟨f20, _, F20, PySem.W.mg_of X G a20, F20.binds (ps := ["letters", "word"]) fun _ _ _ _ _ _ us hl => match us, hl with | [_, _], _ => rfl⟩
  have F21 := fun_mk (st := s_word_of_number) l21 c21 k21
  have A21 : FnAt K mg "word_of_number" s_word_of_number ["letters", "length", "number"] := ⟨f21, _, F21, PySem.W.mg_of X G a21, F21.binds (ps := ["letters", "length", "number"]) fun _ _ _ _ _ _ us hl => match us, hl with | [_, _, _], _ => rfl⟩
  have F22 := fun_mk (st := s_letters) l22 c22 k22
  have A22 : FnAt K mg "letters" s_letters ["prime"] := ⟨f22, _, F22, PySem.W.mg_of X G a22, F22.binds (ps := ["prime"]) fun _ _ _ _ _ _ us hl => match us, hl with | [_], _ => rfl⟩
  have F23 := fun_mk (st := s_is_reduced) l23 c23 k23
  have A23 : FnAt K mg "is_reduced" s_is_reduced ["prime", "word"] := ⟨f23, _, F23, PySem.W.mg_of X G a23, F23.binds (ps := ["prime", "word"]) fun _ _ _ _ _ _ us hl => match us, hl with | [_, _], _ => rfl⟩
  have F24 := fun_mk (st := s_place_count) l24 c24 k24
  have A24 : FnAt K mg "place_count" s_place_count ["prime", "length"] := ⟨f24, _, F24, PySem.W.mg_of X G a24, F24.binds (ps := ["prime", "length"]) fun _ _ _ _ _ _ us hl => match us, hl with | [_, _], _ => rfl⟩
  have F25 := fun_mk (st := s_number_of) l25 c25 k25
  have A25 : FnAt K mg "number_of" s_number_of ["prime", "word"] := ⟨f25, _, F25, PySem.W.mg_of X G a25, F25.binds (ps := ["prime", "word"]) fun _ _ _ _ _ _ us hl => match us, hl with | [_, _], _ => rfl⟩
  have F26 := fun_mk (st := s_word_at) l26 c26 k26
  have A26 : FnAt K mg "word_at" s_word_at ["prime", "length", "number"] := ⟨f26, _, F26, PySem.W.mg_of X G a26, F26.binds (ps := ["prime", "length", "number"]) fun _ _ _ _ _ _ us hl => match us, hl with | [_, _, _], _ => rfl⟩
  have F27 := fun_mk (st := s_p_check_word) l27 c27 k27
  have A27 : FnAt K mg "_check_word" s_p_check_word ["prime", "word"] := ⟨f27, _, F27, PySem.W.mg_of X G a27, F27.binds (ps := ["prime", "word"]) fun _ _ _ _ _ _ us hl => match us, hl with | [_, _], _ => rfl⟩
  have F28 := fun_mk (st := s_law_row) l28 c28 k28
  have A28 : FnAt K mg "_law_row" s_law_row ["cell", "many"] := ⟨f28, _, F28, PySem.W.mg_of X G a28, F28.binds (ps := ["cell", "many"]) fun _ _ _ _ _ _ us hl => match us, hl with | [_, _], _ => rfl⟩
  have F29 := fun_mk (st := s_law_numbers) l29 c29 k29
  have A29 : FnAt K mg "_law_numbers" s_law_numbers ["script", "many"] := ⟨f29, _, F29, PySem.W.mg_of X G a29, F29.binds (ps := ["script", "many"]) fun _ _ _ _ _ _ us hl => match us, hl with | [_, _], _ => rfl⟩
  have F30 := fun_mk (st := s_law_product) l30 c30 k30
  have A30 : FnAt K mg "_law_product" s_law_product ["one", "other"] := ⟨f30, _, F30, PySem.W.mg_of X G a30, F30.binds (ps := ["one", "other"]) fun _ _ _ _ _ _ us hl => match us, hl with | [_, _], _ => rfl⟩
  have F31 := fun_mk (st := s_law_turned) l31 c31 k31
  have A31 : FnAt K mg "_law_turned" s_law_turned ["number"] := ⟨f31, _, F31, PySem.W.mg_of X G a31, F31.binds (ps := ["number"]) fun _ _ _ _ _ _ us hl => match us, hl with | [_], _ => rfl⟩
  have F32 := fun_mk (st := s_law_units) l32 c32 k32
  have A32 : FnAt K mg "_law_units" s_law_units [] := ⟨f32, _, F32, PySem.W.mg_of X G a32, F32.binds (ps := []) fun _ _ _ _ _ _ us hl => match us, hl with | [], _ => rfl⟩
  have F33 := fun_mk (st := s_law_greatest) l33 c33 k33
  have A33 : FnAt K mg "_law_greatest" s_law_greatest ["number"] := ⟨f33, _, F33, PySem.W.mg_of X G a33, F33.binds (ps := ["number"]) fun _ _ _ _ _ _ us hl => match us, hl with | [_], _ => rfl⟩
  have F34 := fun_mk (st := s_law_letters) l34 c34 k34
  have A34 : FnAt K mg "_law_letters" s_law_letters ["prime"] := ⟨f34, _, F34, PySem.W.mg_of X G a34, F34.binds (ps := ["prime"]) fun _ _ _ _ _ _ us hl => match us, hl with | [_], _ => rfl⟩
  have F35 := fun_mk (st := s_law_partner) l35 c35 k35
  have A35 : FnAt K mg "_law_partner" s_law_partner ["known", "letter"] := ⟨f35, _, F35, PySem.W.mg_of X G a35, F35.binds (ps := ["known", "letter"]) fun _ _ _ _ _ _ us hl => match us, hl with | [_, _], _ => rfl⟩
  have F36 := fun_mk (st := s_law_prime) l36 c36 k36
  have A36 : FnAt K mg "_law_prime" s_law_prime ["number"] := ⟨f36, _, F36, PySem.W.mg_of X G a36, F36.binds (ps := ["number"]) fun _ _ _ _ _ _ us hl => match us, hl with | [_], _ => rfl⟩
  have F37 := fun_mk (st := s_law_all) l37 c37 k37
  have A37 : FnAt K mg "_law_all" s_law_all ["known", "length"] := ⟨f37, _, F37, PySem.W.mg_of X G a37, F37.binds (ps := ["known", "length"]) fun _ _ _ _ _ _ us hl => match us, hl with | [_, _], _ => rfl⟩
  have F38 := fun_mk (st := s_law_told) l38 c38 k38
  have A38 : FnAt K mg "_law_told" s_law_told ["prime", "length", "number"] := ⟨f38, _, F38, PySem.W.mg_of X G a38, F38.binds (ps := ["prime", "length", "number"]) fun _ _ _ _ _ _ us hl => match us, hl with | [_, _, _], _ => rfl⟩
  have F39 := fun_mk (st := s_law_refused) l39 c39 k39
  have A39 : FnAt K mg "_law_refused" s_law_refused ["prime", "word"] := ⟨f39, _, F39, PySem.W.mg_of X G a39, F39.binds (ps := ["prime", "word"]) fun _ _ _ _ _ _ us hl => match us, hl with | [_, _], _ => rfl⟩
  have F40 := fun_mk (st := s_law) l40 c40 k40
  have T : TT K mg C1 C2 C3 C4 := ⟨PySem.W.mg_none_of X G z0, PySem.W.mg_none_of X G z1, PySem.W.mg_none_of X G z2, PySem.W.mg_none_of X G z3, PySem.W.mg_none_of X G z4, PySem.W.mg_none_of X G z5, PySem.W.mg_none_of X G z6, PySem.W.mg_none_of X G z7, PySem.W.mg_none_of X G z8, PySem.W.mg_none_of X G z9, PySem.W.mg_none_of X G z10, PySem.W.mg_none_of X G z11, PySem.W.mg_none_of X G z12, PySem.W.mg_none_of X G z13, PySem.W.mg_none_of X G z14, PySem.W.mg_none_of X G z15, PySem.W.mg_none_of X G z16, ⟨PySem.W.mg_of X G gC1, xC1, kC1, bC1, tC1⟩, ⟨PySem.W.mg_of X G gC2, xC2, kC2, bC2, tC2⟩, ⟨PySem.W.mg_of X G gC3, xC3, kC3, bC3, tC3⟩, ⟨PySem.W.mg_of X G gC4, xC4, kC4, bC4, tC4⟩, ⟨hgR2, hkR2, hsR2, hdR2, haR2, hnR2, htR2, hmR2⟩, PySem.W.exm_ref bC4 hhsb2_4 tC4 sb2_4, PySem.W.exm_ref bC3 hhsb2_3 tC3 sb2_3, ⟨hgR4, hkR4, hsR4, hdR4, haR4, hnR4, htR4, hmR4⟩, PySem.W.exm_ref bC4 hhsb4_4 tC4 sb4_4, PySem.W.exm_ref bC3 hhsb4_3 tC3 sb4_3, ⟨hgR3, hkR3, hsR3, hdR3, haR3, hnR3, htR3, hmR3⟩, PySem.W.exm_ref bC4 hhsb3_4 tC4 sb3_4, PySem.W.exm_ref bC3 hhsb3_3 tC3 sb3_3, ⟨_, PySem.W.mg_of X G aK1, dp_k5 lK1⟩, PySem.W.mg_of X G aI1, ⟨_, PySem.W.mg_of X G aKT1, dp_kT (as := [kkT1_0, kkT1_1, kkT1_2, kkT1_3, kkT1_4, kkT1_5, kkT1_6, kkT1_7, kkT1_8, kkT1_9, kkT1_10, kkT1_11, kkT1_12, kkT1_13, kkT1_14, kkT1_15, kkT1_16, kkT1_17, kkT1_18, kkT1_19, kkT1_20, kkT1_21, kkT1_22, kkT1_23]) (xs := unitsL) lKT1 (by show 24 ≤ 100; decide) (.cons (dp_k4 lKT1_0) (.cons (dp_k4 lKT1_1) (.cons (dp_k4 lKT1_2) (.cons (dp_k4 lKT1_3) (.cons (dp_k4 lKT1_4) (.cons (dp_k4 lKT1_5) (.cons (dp_k4 lKT1_6) (.cons (dp_k4 lKT1_7) (.cons (dp_k4 lKT1_8) (.cons (dp_k4 lKT1_9) (.cons (dp_k4 lKT1_10) (.cons (dp_k4 lKT1_11) (.cons (dp_k4 lKT1_12) (.cons (dp_k4 lKT1_13) (.cons (dp_k4 lKT1_14) (.cons (dp_k4 lKT1_15) (.cons (dp_k4 lKT1_16) (.cons (dp_k4 lKT1_17) (.cons (dp_k4 lKT1_18) (.cons (dp_k4 lKT1_19) (.cons (dp_k4 lKT1_20) (.cons (dp_k4 lKT1_21) (.cons (dp_k4 lKT1_22) (.cons (dp_k4 lKT1_23) (.nil)))))))))))))))))))))))))⟩, ⟨_, PySem.W.mg_of X G aN1⟩, ⟨_, PySem.W.mg_of X G aN2⟩, ⟨_, PySem.W.mg_of X G aN3⟩, A1, A2, A3, A4, A5, A6, A7, A8, A9, A10, A11, A12, A13, A14, A15, A16, A17, A18, A19, A20, A21, A22, A23, A24, A25, A26, A27, A28, A29, A30, A31, A32, A33, A34, A35, A36, A37, A38, A39⟩
  exact ⟨PySem.W.fnOf "law" "law" (defArgs s_law) (defBody s_law) (defScope s_law) .none kV40 dc40 pm40 an40 cd40 ct40, fun s v => .of_eq rfl, fun base _ _ => ok_law T F40⟩
end KK
open PySem PySem.W PyProof.Rows
set_option maxRecDepth 100000 in
set_option maxHeartbeats 0 in
theorem PySem.Challenge.cw_turnprimes_k73_numbers_of_words_holds : PySem.Challenge.rw_turnprimes_k73_numbers_of_words.Holds := by
  w_on; o_law; k_head; (case hw => w_witness2)
  k_fill
  refine TB.law_walkG (k := 11) (l := PySem.Challenge.rw_turnprimes_k73_numbers_of_words) rfl rfl ⟨rfl, by decide, by decide⟩ (fun w h Y => PySem.W.kIn_of Y) ?F
  case F =>
    intro w mg fa h KX G hmg
    refine' KK.all_mk KX G hmg ?a1 ?l1 ?c1 ?k1 ?a2 ?l2 ?c2 ?k2 ?a3 ?l3 ?c3 ?k3 ?a4 ?l4 ?c4 ?k4 ?a5 ?l5 ?c5 ?k5 ?a6 ?l6 ?c6 ?k6 ?a7 ?l7 ?c7 ?k7 ?a8 ?l8 ?c8 ?k8 ?a9 ?l9 ?c9 ?k9 ?a10 ?l10 ?c10 ?k10 ?a11 ?l11 ?c11 ?k11 ?a12 ?l12 ?c12 ?k12 ?a13 ?l13 ?c13 ?k13 ?a14 ?l14 ?c14 ?k14 ?a15 ?l15 ?c15 ?k15 ?a16 ?l16 ?c16 ?k16 ?a17 ?l17 ?c17 ?k17 ?a18 ?l18 ?c18 ?k18 ?a19 ?l19 ?c19 ?k19 ?a20 ?l20 ?c20 ?k20 ?a21 ?l21 ?c21 ?k21 ?a22 ?l22 ?c22 ?k22 ?a23 ?l23 ?c23 ?k23 ?a24 ?l24 ?c24 ?k24 ?a25 ?l25 ?c25 ?k25 ?a26 ?l26 ?c26 ?k26 ?a27 ?l27 ?c27 ?k27 ?a28 ?l28 ?c28 ?k28 ?a29 ?l29 ?c29 ?k29 ?a30 ?l30 ?c30 ?k30 ?a31 ?l31 ?c31 ?k31 ?a32 ?l32 ?c32 ?k32 ?a33 ?l33 ?c33 ?k33 ?a34 ?l34 ?c34 ?k34 ?a35 ?l35 ?c35 ?k35 ?a36 ?l36 ?c36 ?k36 ?a37 ?l37 ?c37 ?k37 ?a38 ?l38 ?c38 ?k38 ?a39 ?l39 ?c39 ?k39 ?a40 ?l40 ?c40 ?k40 ?gC1 ?xC1 ?kC1 ?bC1 ?tC1 ?gC2 ?xC2 ?kC2 ?bC2 ?tC2 ?gC3 ?xC3 ?kC3 ?bC3 ?tC3 ?gC4 ?xC4 ?kC4 ?bC4 ?tC4 ?hgR2 ?hkR2 ?hsR2 ?hdR2 ?haR2 ?hnR2 ?htR2 ?hmR2 ?sb2_4 ?hhsb2_4 ?sb2_3 ?hhsb2_3 ?hgR4 ?hkR4 ?hsR4 ?hdR4 ?haR4 ?hnR4 ?htR4 ?hmR4 ?sb4_4 ?hhsb4_4 ?sb4_3 ?hhsb4_3 ?hgR3 ?hkR3 ?hsR3 ?hdR3 ?haR3 ?hnR3 ?htR3 ?hmR3 ?sb3_4 ?hhsb3_4 ?sb3_3 ?hhsb3_3 ?aK1 ?lK1 ?aKT1 ?lKT1 ?lKT1_0 ?lKT1_1 ?lKT1_2 ?lKT1_3 ?lKT1_4 ?lKT1_5 ?lKT1_6 ?lKT1_7 ?lKT1_8 ?lKT1_9 ?lKT1_10 ?lKT1_11 ?lKT1_12 ?lKT1_13 ?lKT1_14 ?lKT1_15 ?lKT1_16 ?lKT1_17 ?lKT1_18 ?lKT1_19 ?lKT1_20 ?lKT1_21 ?lKT1_22 ?lKT1_23 ?aN1 ?aN2 ?aN3 ?aI1 ?z0 ?z1 ?z2 ?z3 ?z4 ?z5 ?z6 ?z7 ?z8 ?z9 ?z10 ?z11 ?z12 ?z13 ?z14 ?z15 ?z16
    (case a1 => first | k_is | k_exc | rfl)
    (case l1 => first | k_is | k_exc | rfl)
    (case c1 => first | k_is | k_exc | rfl)
    (case k1 => first | k_is | k_exc | rfl)
    (case a2 => first | k_is | k_exc | rfl)
    (case l2 => first | k_is | k_exc | rfl)
    (case c2 => first | k_is | k_exc | rfl)
    (case k2 => first | k_is | k_exc | rfl)
    (case a3 => first | k_is | k_exc | rfl)
    (case l3 => first | k_is | k_exc | rfl)
    (case c3 => first | k_is | k_exc | rfl)
    (case k3 => first | k_is | k_exc | rfl)
    (case a4 => first | k_is | k_exc | rfl)
    (case l4 => first | k_is | k_exc | rfl)
    (case c4 => first | k_is | k_exc | rfl)
    (case k4 => first | k_is | k_exc | rfl)
    (case a5 => first | k_is | k_exc | rfl)
    (case l5 => first | k_is | k_exc | rfl)
    (case c5 => first | k_is | k_exc | rfl)
    (case k5 => first | k_is | k_exc | rfl)
    (case a6 => first | k_is | k_exc | rfl)
    (case l6 => first | k_is | k_exc | rfl)
    (case c6 => first | k_is | k_exc | rfl)
    (case k6 => first | k_is | k_exc | rfl)
    (case a7 => first | k_is | k_exc | rfl)
    (case l7 => first | k_is | k_exc | rfl)
    (case c7 => first | k_is | k_exc | rfl)
    (case k7 => first | k_is | k_exc | rfl)
    (case a8 => first | k_is | k_exc | rfl)
    (case l8 => first | k_is | k_exc | rfl)
    (case c8 => first | k_is | k_exc | rfl)
    (case k8 => first | k_is | k_exc | rfl)
    (case a9 => first | k_is | k_exc | rfl)
    (case l9 => first | k_is | k_exc | rfl)
    (case c9 => first | k_is | k_exc | rfl)
    (case k9 => first | k_is | k_exc | rfl)
    (case a10 => first | k_is | k_exc | rfl)
    (case l10 => first | k_is | k_exc | rfl)
    (case c10 => first | k_is | k_exc | rfl)
    (case k10 => first | k_is | k_exc | rfl)
    (case a11 => first | k_is | k_exc | rfl)
    (case l11 => first | k_is | k_exc | rfl)
    (case c11 => first | k_is | k_exc | rfl)
    (case k11 => first | k_is | k_exc | rfl)
    (case a12 => first | k_is | k_exc | rfl)
    (case l12 => first | k_is | k_exc | rfl)
    (case c12 => first | k_is | k_exc | rfl)
    (case k12 => first | k_is | k_exc | rfl)
    (case a13 => first | k_is | k_exc | rfl)
    (case l13 => first | k_is | k_exc | rfl)
    (case c13 => first | k_is | k_exc | rfl)
    (case k13 => first | k_is | k_exc | rfl)
    (case a14 => first | k_is | k_exc | rfl)
    (case l14 => first | k_is | k_exc | rfl)
    (case c14 => first | k_is | k_exc | rfl)
    (case k14 => first | k_is | k_exc | rfl)
    (case a15 => first | k_is | k_exc | rfl)
    (case l15 => first | k_is | k_exc | rfl)
    (case c15 => first | k_is | k_exc | rfl)
    (case k15 => first | k_is | k_exc | rfl)
    (case a16 => first | k_is | k_exc | rfl)
    (case l16 => first | k_is | k_exc | rfl)
    (case c16 => first | k_is | k_exc | rfl)
    (case k16 => first | k_is | k_exc | rfl)
    (case a17 => first | k_is | k_exc | rfl)
    (case l17 => first | k_is | k_exc | rfl)
    (case c17 => first | k_is | k_exc | rfl)
    (case k17 => first | k_is | k_exc | rfl)
    (case a18 => first | k_is | k_exc | rfl)
    (case l18 => first | k_is | k_exc | rfl)
    (case c18 => first | k_is | k_exc | rfl)
    (case k18 => first | k_is | k_exc | rfl)
    (case a19 => first | k_is | k_exc | rfl)
    (case l19 => first | k_is | k_exc | rfl)
    (case c19 => first | k_is | k_exc | rfl)
    (case k19 => first | k_is | k_exc | rfl)
    (case a20 => first | k_is | k_exc | rfl)
    (case l20 => first | k_is | k_exc | rfl)
    (case c20 => first | k_is | k_exc | rfl)
    (case k20 => first | k_is | k_exc | rfl)
    (case a21 => first | k_is | k_exc | rfl)
    (case l21 => first | k_is | k_exc | rfl)
    (case c21 => first | k_is | k_exc | rfl)
    (case k21 => first | k_is | k_exc | rfl)
    (case a22 => first | k_is | k_exc | rfl)
    (case l22 => first | k_is | k_exc | rfl)
    (case c22 => first | k_is | k_exc | rfl)
    (case k22 => first | k_is | k_exc | rfl)
    (case a23 => first | k_is | k_exc | rfl)
    (case l23 => first | k_is | k_exc | rfl)
    (case c23 => first | k_is | k_exc | rfl)
    (case k23 => first | k_is | k_exc | rfl)
    (case a24 => first | k_is | k_exc | rfl)
    (case l24 => first | k_is | k_exc | rfl)
    (case c24 => first | k_is | k_exc | rfl)
    (case k24 => first | k_is | k_exc | rfl)
    (case a25 => first | k_is | k_exc | rfl)
    (case l25 => first | k_is | k_exc | rfl)
    (case c25 => first | k_is | k_exc | rfl)
    (case k25 => first | k_is | k_exc | rfl)
    (case a26 => first | k_is | k_exc | rfl)
    (case l26 => first | k_is | k_exc | rfl)
    (case c26 => first | k_is | k_exc | rfl)
    (case k26 => first | k_is | k_exc | rfl)
    (case a27 => first | k_is | k_exc | rfl)
    (case l27 => first | k_is | k_exc | rfl)
    (case c27 => first | k_is | k_exc | rfl)
    (case k27 => first | k_is | k_exc | rfl)
    (case a28 => first | k_is | k_exc | rfl)
    (case l28 => first | k_is | k_exc | rfl)
    (case c28 => first | k_is | k_exc | rfl)
    (case k28 => first | k_is | k_exc | rfl)
    (case a29 => first | k_is | k_exc | rfl)
    (case l29 => first | k_is | k_exc | rfl)
    (case c29 => first | k_is | k_exc | rfl)
    (case k29 => first | k_is | k_exc | rfl)
    (case a30 => first | k_is | k_exc | rfl)
    (case l30 => first | k_is | k_exc | rfl)
    (case c30 => first | k_is | k_exc | rfl)
    (case k30 => first | k_is | k_exc | rfl)
    (case a31 => first | k_is | k_exc | rfl)
    (case l31 => first | k_is | k_exc | rfl)
    (case c31 => first | k_is | k_exc | rfl)
    (case k31 => first | k_is | k_exc | rfl)
    (case a32 => first | k_is | k_exc | rfl)
    (case l32 => first | k_is | k_exc | rfl)
    (case c32 => first | k_is | k_exc | rfl)
    (case k32 => first | k_is | k_exc | rfl)
    (case a33 => first | k_is | k_exc | rfl)
    (case l33 => first | k_is | k_exc | rfl)
    (case c33 => first | k_is | k_exc | rfl)
    (case k33 => first | k_is | k_exc | rfl)
    (case a34 => first | k_is | k_exc | rfl)
    (case l34 => first | k_is | k_exc | rfl)
    (case c34 => first | k_is | k_exc | rfl)
    (case k34 => first | k_is | k_exc | rfl)
    (case a35 => first | k_is | k_exc | rfl)
    (case l35 => first | k_is | k_exc | rfl)
    (case c35 => first | k_is | k_exc | rfl)
    (case k35 => first | k_is | k_exc | rfl)
    (case a36 => first | k_is | k_exc | rfl)
    (case l36 => first | k_is | k_exc | rfl)
    (case c36 => first | k_is | k_exc | rfl)
    (case k36 => first | k_is | k_exc | rfl)
    (case a37 => first | k_is | k_exc | rfl)
    (case l37 => first | k_is | k_exc | rfl)
    (case c37 => first | k_is | k_exc | rfl)
    (case k37 => first | k_is | k_exc | rfl)
    (case a38 => first | k_is | k_exc | rfl)
    (case l38 => first | k_is | k_exc | rfl)
    (case c38 => first | k_is | k_exc | rfl)
    (case k38 => first | k_is | k_exc | rfl)
    (case a39 => first | k_is | k_exc | rfl)
    (case l39 => first | k_is | k_exc | rfl)
    (case c39 => first | k_is | k_exc | rfl)
    (case k39 => first | k_is | k_exc | rfl)
    (case a40 => first | k_is | k_exc | rfl)
    (case l40 => first | k_is | k_exc | rfl)
    (case c40 => first | k_is | k_exc | rfl)
    (case k40 => first | k_is | k_exc | rfl)
    (case gC1 => first | k_is | k_exc | rfl)
    (case xC1 => first | k_is | k_exc | rfl)
    (case kC1 => first | k_is | k_exc | rfl)
    (case bC1 => first | k_is | k_exc | rfl)
    (case tC1 => first | k_is | k_exc | rfl)
    (case gC2 => first | k_is | k_exc | rfl)
    (case xC2 => first | k_is | k_exc | rfl)
    (case kC2 => first | k_is | k_exc | rfl)
    (case bC2 => first | k_is | k_exc | rfl)
    (case tC2 => first | k_is | k_exc | rfl)
    (case gC3 => first | k_is | k_exc | rfl)
    (case xC3 => first | k_is | k_exc | rfl)
    (case kC3 => first | k_is | k_exc | rfl)
    (case bC3 => first | k_is | k_exc | rfl)
    (case tC3 => first | k_is | k_exc | rfl)
    (case gC4 => first | k_is | k_exc | rfl)
    (case xC4 => first | k_is | k_exc | rfl)
    (case kC4 => first | k_is | k_exc | rfl)
    (case bC4 => first | k_is | k_exc | rfl)
    (case tC4 => first | k_is | k_exc | rfl)
    (case hgR2 => first | k_is | k_exc | rfl)
    (case hkR2 => first | k_is | k_exc | rfl)
    (case hsR2 => first | k_is | k_exc | rfl)
    (case hdR2 => first | k_is | k_exc | rfl)
    (case haR2 => first | k_is | k_exc | rfl)
    (case hnR2 => first | k_is | k_exc | rfl)
    (case htR2 => first | k_is | k_exc | rfl)
    (case hmR2 => first | k_is | k_exc | rfl)
    (case sb2_4 => first | k_is | k_exc | rfl)
    (case hhsb2_4 => first | k_is | k_exc | rfl)
    (case sb2_3 => first | k_is | k_exc | rfl)
    (case hhsb2_3 => first | k_is | k_exc | rfl)
    (case hgR4 => first | k_is | k_exc | rfl)
    (case hkR4 => first | k_is | k_exc | rfl)
    (case hsR4 => first | k_is | k_exc | rfl)
    (case hdR4 => first | k_is | k_exc | rfl)
    (case haR4 => first | k_is | k_exc | rfl)
    (case hnR4 => first | k_is | k_exc | rfl)
    (case htR4 => first | k_is | k_exc | rfl)
    (case hmR4 => first | k_is | k_exc | rfl)
    (case sb4_4 => first | k_is | k_exc | rfl)
    (case hhsb4_4 => first | k_is | k_exc | rfl)
    (case sb4_3 => first | k_is | k_exc | rfl)
    (case hhsb4_3 => first | k_is | k_exc | rfl)
    (case hgR3 => first | k_is | k_exc | rfl)
    (case hkR3 => first | k_is | k_exc | rfl)
    (case hsR3 => first | k_is | k_exc | rfl)
    (case hdR3 => first | k_is | k_exc | rfl)
    (case haR3 => first | k_is | k_exc | rfl)
    (case hnR3 => first | k_is | k_exc | rfl)
    (case htR3 => first | k_is | k_exc | rfl)
    (case hmR3 => first | k_is | k_exc | rfl)
    (case sb3_4 => first | k_is | k_exc | rfl)
    (case hhsb3_4 => first | k_is | k_exc | rfl)
    (case sb3_3 => first | k_is | k_exc | rfl)
    (case hhsb3_3 => first | k_is | k_exc | rfl)
    (case aK1 => first | k_is | k_exc | rfl)
    (case lK1 => first | k_is | k_exc | rfl)
    (case aKT1 => first | k_is | k_exc | rfl)
    (case lKT1 => first | k_is | k_exc | rfl)
    (case lKT1_0 => first | k_is | k_exc | rfl)
    (case lKT1_1 => first | k_is | k_exc | rfl)
    (case lKT1_2 => first | k_is | k_exc | rfl)
    (case lKT1_3 => first | k_is | k_exc | rfl)
    (case lKT1_4 => first | k_is | k_exc | rfl)
    (case lKT1_5 => first | k_is | k_exc | rfl)
    (case lKT1_6 => first | k_is | k_exc | rfl)
    (case lKT1_7 => first | k_is | k_exc | rfl)
    (case lKT1_8 => first | k_is | k_exc | rfl)
    (case lKT1_9 => first | k_is | k_exc | rfl)
    (case lKT1_10 => first | k_is | k_exc | rfl)
    (case lKT1_11 => first | k_is | k_exc | rfl)
    (case lKT1_12 => first | k_is | k_exc | rfl)
    (case lKT1_13 => first | k_is | k_exc | rfl)
    (case lKT1_14 => first | k_is | k_exc | rfl)
    (case lKT1_15 => first | k_is | k_exc | rfl)
    (case lKT1_16 => first | k_is | k_exc | rfl)
    (case lKT1_17 => first | k_is | k_exc | rfl)
    (case lKT1_18 => first | k_is | k_exc | rfl)
    (case lKT1_19 => first | k_is | k_exc | rfl)
    (case lKT1_20 => first | k_is | k_exc | rfl)
    (case lKT1_21 => first | k_is | k_exc | rfl)
    (case lKT1_22 => first | k_is | k_exc | rfl)
    (case lKT1_23 => first | k_is | k_exc | rfl)
    (case aN1 => first | k_is | k_exc | rfl)
    (case aN2 => first | k_is | k_exc | rfl)
    (case aN3 => first | k_is | k_exc | rfl)
    (case aI1 => first | k_is | k_exc | rfl)
    (case z0 => first | k_is | k_exc | rfl)
    (case z1 => first | k_is | k_exc | rfl)
    (case z2 => first | k_is | k_exc | rfl)
    (case z3 => first | k_is | k_exc | rfl)
    (case z4 => first | k_is | k_exc | rfl)
    (case z5 => first | k_is | k_exc | rfl)
    (case z6 => first | k_is | k_exc | rfl)
    (case z7 => first | k_is | k_exc | rfl)
    (case z8 => first | k_is | k_exc | rfl)
    (case z9 => first | k_is | k_exc | rfl)
    (case z10 => first | k_is | k_exc | rfl)
    (case z11 => first | k_is | k_exc | rfl)
    (case z12 => first | k_is | k_exc | rfl)
    (case z13 => first | k_is | k_exc | rfl)
    (case z14 => first | k_is | k_exc | rfl)
    (case z15 => first | k_is | k_exc | rfl)
    (case z16 => first | k_is | k_exc | rfl)

