import PyProof.Rows.All
import Wide.All
import OpenK.AllK
import Wide.FinOn
import HandS.ForMost
import HandS.ForExc
import HandS.Deep
import HandS.Wide
import HandS.TryMany
import HandS.ExcIs
import HandS.Style
import HandS.Flow
import HandS.Strs
import HandS.SetBool
import HandS.IsInst
import HandS.Zip
import HandS.TupSets
import KE.SortData
import KE.DataMinMax
import PyProof.Rows.RowBridgeK
import HandS.TupAny
import HandS.Gcd
import KE.GoesZip
import KE.GoesMore
import HandS.Iter
import HandS.SortKw
import KE.KMathG
import HandS.Star
import HandS.Conv
import KE.GoesEnum
import KE.KDictZip
import KE.KItemsList
import KE.KStar
import HandS.WideMore
import HandS.DictComp
import HandS.Dict
import HandS.More
import HandS.SetFor
import KE.KMinBuiltin
import HandS.Defaults
import HandS.CallSlots
import HandS.ExcInit
import HandS.ExcField
import HandS.FStr
import HandS.ClsMeth
import KE.KExcIs
import PySem.Challenge.RW_turnprimes_k66_all_squares
set_option Elab.async false
set_option linter.all false
set_option maxRecDepth 100000
set_option maxHeartbeats 4000000
namespace TB
open PySem L2

abbrev D := PyData
/-- a tree of one's own: data, lists, dicts whose keys are ints and texts, dicts whose keys are tuples of them, what is frozen -/
inductive Own where
  | dat (d : D)
  | lst (os : List Own)
  | dk (kvs : List (Key × Own))
  | dt (kvs : List (List Key × Own))
  | fz (o : Own)
  | tk (φ : Addr → List (Addr × List Int) → Heap → Prop) (ks : List (List Int))
/-- what is known of a slot: nothing; data; a list of this def's own; just this value; a tree of this def's own -/
inductive S where
  | u
  | d (x : D)
  | own (ds : List D)
  | r (v : V)
  | q (o : Own)
/-- what comes of an expression: data; a new list that nobody else holds; an error of the class at c; a new tree; an error of the class at c with the field f -/
inductive Out where
  | v (x : D)
  | o (ds : List D)
  | x (c : Addr)
  | q (o : Own)
  | xf (c : Addr) (f : Str) (x : D)

def Ex (F H : Hp) : Prop := ∀ a o, F a = some o → H a = some o
theorem Ex.refl (H : Hp) : Ex H H := fun _ _ h => h
theorem Ex.trans {A B C : Hp} (a : Ex A B) (b : Ex B C) : Ex A C := fun p o h => b p o (a p o h)
theorem Ex.new {H : Hp} {p : Addr} {o : HO} (h : H p = none) : Ex H (upd H p o) := fun a u e => by
  rw [upd_ne (ne_of_none e h)]
  exact e
theorem Ex.none {F H : Hp} (e : Ex F H) {p : Addr} (h : H p = Option.none) : F p = Option.none := by
  cases q : F p with
  | none => rfl
  | some o =>
    rw [e p o q] at h
    cases h
/-- F: what is frozen, H: all that is tracked -/
structure Fz (F H F' H' : Hp) : Prop where
  f : Ex F F'
  h : Ex H H'
  s : Ex F' H'
  n : ∀ p o, F p = none → H p = some o → F' p = none
theorem Fz.refl {F H : Hp} (s : Ex F H) : Fz F H F H := ⟨Ex.refl _, Ex.refl _, s, fun _ _ h _ => h⟩
theorem Fz.trans {F H F1 H1 F2 H2 : Hp} (a : Fz F H F1 H1) (b : Fz F1 H1 F2 H2) : Fz F H F2 H2 :=
  ⟨a.f.trans b.f, a.h.trans b.h, b.s, fun p o h1 h2 => b.n p o (a.n p o h1 h2) (a.h p o h2)⟩
/-- a new frozen object -/
theorem Fz.new {F H : Hp} {p : Addr} {o : HO} (s : Ex F H) (hp : H p = none) : Fz F H (upd F p o) (upd H p o) := by
  refine ⟨Ex.new (s.none hp), Ex.new hp, fun a u e => ?_, fun q u h1 h2 => ?_⟩
  · by_cases h : a = p
    · subst h
      rw [upd_same] at e ⊢
      exact e
    · rw [upd_ne h] at e ⊢
      exact s a u e
  · have h : q ≠ p := ne_of_none h2 hp
    rw [upd_ne h]
    exact h1
/-- a new object of one's own -/
theorem Fz.fresh {F H : Hp} {p : Addr} {o : HO} (s : Ex F H) (hp : H p = none) : Fz F H F (upd H p o) :=
  ⟨Ex.refl _, Ex.new hp, s.trans (Ex.new hp), fun _ _ h _ => h⟩
/-- an object of one's own is frozen -/
theorem Fz.freeze {F H : Hp} {p : Addr} {o : HO} (s : Ex F H) (hp : H p = some o) (hf : F p = none) : Ex F (upd F p o) ∧ Ex (upd F p o) H := by
  refine ⟨Ex.new hf, fun a u e => ?_⟩
  by_cases h : a = p
  · subst h
    rw [upd_same] at e
    cases e
    exact hp
  · rw [upd_ne h] at e
    exact s a u e

theorem rd_ex {F H : Hp} {a : Addr} {u : HO} (e : Ex F H) (h : Rd F a u) : Rd H a u := by
  rcases h with h | ⟨o, h⟩
  · exact Or.inl (e a _ h)
  · exact Or.inr ⟨o, e a _ h⟩
theorem sl_ex {K : PySem.W.Frag} {F H : Hp} {a : Addr} {xs : List V} (e : Ex F H) (h : SqL K F a xs) : SqL K H a xs := by
  rcases h with h | h
  · exact Or.inl (rd_ex e h)
  · exact Or.inr h
theorem st_ex {K : PySem.W.Frag} {F H : Hp} {a : Addr} {xs : List V} (e : Ex F H) (h : SqT K F a xs) : SqT K H a xs := by
  rcases h with h | h
  · exact Or.inl (rd_ex e h)
  · exact Or.inr h
section
variable {K : PySem.W.Frag} {F H : Hp}
mutual
theorem dp_ex (e : Ex F H) : ∀ (d : D) (v : V), Dp K F v d → Dp K H v d
  | .none, _, h => by
    cases h
    exact .non
  | .bool b, _, h => by
    cases h
    exact .bl b
  | .int i, _, h => by
    cases h
    exact .int i
  | .str x, _, h => by
    cases h
    exact .str x
  | .list ds, _, h => by
    cases h with
    | lst hs ha => exact .lst (sl_ex e hs) (da_ex e ds _ ha)
  | .tuple ds, _, h => by
    cases h with
    | tup hs ha => exact .tup (st_ex e hs) (da_ex e ds _ ha)
  | .dict _, _, h => by cases h
theorem da_ex (e : Ex F H) : ∀ (ds : List D) (vs : List V), DpAll K F vs ds → DpAll K H vs ds
  | [], _, h => by
    cases h
    exact .nil
  | d :: ds, _, h => by
    cases h with
    | cons h1 h2 => exact .cons (dp_ex e d _ h1) (da_ex e ds _ h2)
end
end
section
variable {K : PySem.W.Frag} {F H : Hp}
theorem da_len : ∀ {vs : List V} {ds : List D}, DpAll K F vs ds → vs.length = ds.length
  | _, [], h => by cases h; rfl
  | _, d :: ds, h => by
    cases h with
    | cons _ h2 => rw [List.length_cons, List.length_cons, da_len h2]
theorem da_app : ∀ {vs us : List V} {ds es : List D}, DpAll K F vs ds → DpAll K F us es → DpAll K F (vs ++ us) (ds ++ es)
  | _, _, [], _, h, g => by cases h; exact g
  | _, _, d :: ds, _, h, g => by
    cases h with
    | cons h1 h2 => exact .cons h1 (da_app h2 g)
theorem da_get : ∀ {vs : List V} {ds : List D} {i : Nat} {d : D}, DpAll K F vs ds → ds[i]? = some d → ∃ v, vs[i]? = some v ∧ Dp K F v d
  | _, [], i, d, h, e => by simp at e
  | _, x :: ds, 0, d, h, e => by
    cases h with
    | cons h1 _ =>
      simp at e
      subst e
      exact ⟨_, rfl, h1⟩
  | _, x :: ds, i + 1, d, h, e => by
    cases h with
    | cons _ h2 =>
      obtain ⟨v, a, b⟩ := da_get (i := i) h2 (by simpa using e)
      exact ⟨v, by simpa using a, b⟩
theorem da_of_ints : ∀ (ns : List Int), DpAll K F (ns.map V.int) (ns.map PyData.int)
  | [] => .nil
  | n :: ns => .cons (.int n) (da_of_ints ns)
theorem da_take : ∀ {vs : List V} {ds : List D} (n : Nat), DpAll K F vs ds → DpAll K F (vs.take n) (ds.take n)
  | _, _, 0, _ => by simp; exact .nil
  | _, [], n + 1, h => by cases h; exact .nil
  | _, d :: ds, n + 1, h => by
    cases h with
    | cons h1 h2 => exact .cons h1 (da_take n h2)
theorem da_drop : ∀ {vs : List V} {ds : List D} (n : Nat), DpAll K F vs ds → DpAll K F (vs.drop n) (ds.drop n)
  | _, _, 0, h => by simpa using h
  | _, [], n + 1, h => by cases h; exact .nil
  | _, d :: ds, n + 1, h => by
    cases h with
    | cons h1 h2 => exact da_drop n h2
end

/-! ### trees of one's own -/
mutual
inductive OA (K : PySem.W.Frag) (F : Hp) : Hp → Own → V → List Addr → Prop
  | dat {H : Hp} {d : D} {v : V} : Dp K F v d → OA K F H (.dat d) v []
  | lst {H : Hp} {p : Addr} {xs : List V} {os : List Own} {fp : List Addr} : H p = some (.lst xs) → OL K F H os xs fp → OA K F H (.lst os) (.ref p) (p :: fp)
  | dk {H : Hp} {p : Addr} {kvs : List (Key × V)} {os : List (Key × Own)} {fp : List Addr} : H p = some (.dK kvs) → kvs.map (·.1) = os.map (·.1) → OL K F H (os.map (·.2)) (kvs.map (·.2)) fp → OA K F H (.dk os) (.ref p) (p :: fp)
  | dt {H : Hp} {p : Addr} {kvs : List (List Key × V)} {os : List (List Key × Own)} {fp : List Addr} : H p = some (.dT kvs) → kvs.map (·.1) = os.map (·.1) → OL K F H (os.map (·.2)) (kvs.map (·.2)) fp → OA K F H (.dt os) (.ref p) (p :: fp)
  | fz {H : Hp} {o : Own} {v : V} {fp : List Addr} : OA K F F o v fp → OA K F H (.fz o) v []
  | tk {H : Hp} {p : Addr} {φ : Addr → List (Addr × List Int) → Heap → Prop} {L : List (Addr × List Int)} {ks : List (List Int)} : H p = some (.ext (φ p L)) → (∀ q ∈ L, L2.SqT K F q.1 (q.2.map V.int)) → L.map (·.2) = ks → OA K F H (.tk φ ks) (.ref p) [p]
inductive OL (K : PySem.W.Frag) (F : Hp) : Hp → List Own → List V → List Addr → Prop
  | nil {H : Hp} : OL K F H [] [] []
  | cons {H : Hp} {o : Own} {v : V} {os : List Own} {vs : List V} {f1 f2 : List Addr} : OA K F H o v f1 → OL K F H os vs f2 → OL K F H (o :: os) (v :: vs) (f1 ++ f2)
end
section
variable {K : PySem.W.Frag} {F : Hp}
mutual
theorem oa_some : ∀ {H : Hp} {o : Own} {v : V} {fp : List Addr}, OA K F H o v fp → ∀ a ∈ fp, ∃ u, H a = some u
  | _, _, _, _, .dat _, a, h => by cases h
  | _, _, _, _, .lst e l, a, h => by
    rcases List.mem_cons.mp h with h | h
    · subst h; exact ⟨_, e⟩
    · exact ol_some l a h
  | _, _, _, _, .dk e _ l, a, h => by
    rcases List.mem_cons.mp h with h | h
    · subst h; exact ⟨_, e⟩
    · exact ol_some l a h
  | _, _, _, _, .dt e _ l, a, h => by
    rcases List.mem_cons.mp h with h | h
    · subst h; exact ⟨_, e⟩
    · exact ol_some l a h
  | _, _, _, _, .fz _, a, h => by cases h
  | _, _, _, _, .tk e _ _, a, h => by
    rw [List.mem_singleton] at h
    subst h
    exact ⟨_, e⟩
theorem ol_some : ∀ {H : Hp} {os : List Own} {vs : List V} {fp : List Addr}, OL K F H os vs fp → ∀ a ∈ fp, ∃ u, H a = some u
  | _, _, _, _, .nil, a, h => by cases h
  | _, _, _, _, .cons x l, a, h => by
    rcases List.mem_append.mp h with h | h
    · exact oa_some x a h
    · exact ol_some l a h
end
mutual
theorem oa_mono {F' : Hp} (ex : Ex F F') : ∀ {H H' : Hp} {o : Own} {v : V} {fp : List Addr}, OA K F H o v fp → (∀ a ∈ fp, H' a = H a) → OA K F' H' o v fp
  | _, _, _, _, _, .dat d, _ => .dat (dp_ex ex _ _ d)
  | _, _, _, _, _, .lst e l, h => .lst ((h _ List.mem_cons_self).trans e) (ol_mono ex l fun a ha => h a (List.mem_cons_of_mem _ ha))
  | _, _, _, _, _, .dk e k l, h => .dk ((h _ List.mem_cons_self).trans e) k (ol_mono ex l fun a ha => h a (List.mem_cons_of_mem _ ha))
  | _, _, _, _, _, .dt e k l, h => .dt ((h _ List.mem_cons_self).trans e) k (ol_mono ex l fun a ha => h a (List.mem_cons_of_mem _ ha))
  | _, _, _, _, _, .fz x, _ => .fz (oa_mono ex x fun a ha => by
    obtain ⟨u, e⟩ := oa_some x a ha
    rw [e]
    exact ex _ _ e)
  | _, _, _, _, _, .tk e k l, h => .tk ((h _ (List.mem_singleton.mpr rfl)).trans e) (fun q hq => st_ex ex (k q hq)) l
theorem ol_mono {F' : Hp} (ex : Ex F F') : ∀ {H H' : Hp} {os : List Own} {vs : List V} {fp : List Addr}, OL K F H os vs fp → (∀ a ∈ fp, H' a = H a) → OL K F' H' os vs fp
  | _, _, _, _, _, .nil, _ => .nil
  | _, _, _, _, _, .cons x l, h => .cons (oa_mono ex x fun a ha => h a (List.mem_append_left _ ha)) (ol_mono ex l fun a ha => h a (List.mem_append_right _ ha))
end
theorem dat_ol {H : Hp} : ∀ {ds : List D} {vs : List V} {fp : List Addr}, OL K F H (ds.map .dat) vs fp → DpAll K F vs ds ∧ fp = []
  | [], _, _, h => by
    cases h
    exact ⟨.nil, rfl⟩
  | d :: ds, _, _, h => by
    cases h with
    | cons a b =>
      cases a with
      | dat a =>
        obtain ⟨c, e⟩ := dat_ol b
        subst e
        exact ⟨.cons a c, rfl⟩
end

/-- a slot, what it owns -/
def SlOk (K : PySem.W.Frag) (H0 F H : Hp) : Option (Option V) → S → List Addr → Prop
  | _, .u, fp => fp = []
  | some (some v), .d x, fp => Dp K F v x ∧ fp = []
  | some (some v), .own ds, fp => ∃ p xs, v = .ref p ∧ H p = some (.lst xs) ∧ F p = none ∧ H0 p = none ∧ DpAll K F xs ds ∧ fp = [p]
  | o, .r v, fp => o = some (some v) ∧ fp = []
  | some (some v), .q o, fp => OA K F H o v fp ∧ fp.Nodup ∧ ∀ a ∈ fp, F a = none ∧ H0 a = none
  | _, _, _ => False
/-- the state of a def that began at F0, H0; what each slot owns -/
structure OkF (K : PySem.W.Frag) (F0 H0 F : Hp) (σ : L2.St) (H : Hp) (Γ : List S) (fps : List (List Addr)) : Prop where
  base : Fz F0 H0 F H
  len : σ.length = Γ.length
  fl : fps.length = Γ.length
  sl : ∀ (i : Nat) (s : S) (fp : List Addr), Γ[i]? = some s → fps[i]? = some fp → SlOk K H0 F H σ[i]? s fp
  dj : ∀ (i j : Nat) (f g : List Addr) (a : Addr), fps[i]? = some f → fps[j]? = some g → a ∈ f → a ∈ g → i = j
def Ok (K : PySem.W.Frag) (F0 H0 F : Hp) (σ : L2.St) (H : Hp) (Γ : List S) : Prop := ∃ fps, OkF K F0 H0 F σ H Γ fps

section
variable {K : PySem.W.Frag} {F0 H0 F F' H H' : Hp} {σ : L2.St} {Γ Γ' : List S} {fps : List (List Addr)}
theorem SlOk.mono {o : Option (Option V)} {s : S} {fp : List Addr} (h : SlOk K H0 F H o s fp) (z : Fz F H F' H') : SlOk K H0 F' H' o s fp := by
  cases s with
  | u => exact h
  | d x =>
    cases o with
    | none => exact h
    | some o =>
      cases o with
      | none => exact h
      | some v => exact ⟨dp_ex z.f x v h.1, h.2⟩
  | own ds =>
    cases o with
    | none => exact h
    | some o =>
      cases o with
      | none => exact h
      | some v =>
        obtain ⟨p, xs, e, h1, h2, h3, h4, h5⟩ := h
        exact ⟨p, xs, e, z.h p _ h1, z.n p _ h2 h1, h3, da_ex z.f _ _ h4, h5⟩
  | r v =>
    cases o with
    | none => exact h
    | some o => cases o <;> exact h
  | q t =>
    cases o with
    | none => exact h
    | some o =>
      cases o with
      | none => exact h
      | some v =>
        obtain ⟨h1, h2, h3⟩ := h
        refine ⟨oa_mono z.f h1 fun a ha => ?_, h2, fun a ha => ⟨?_, (h3 a ha).2⟩⟩
        · obtain ⟨u, e⟩ := oa_some h1 a ha
          rw [e]
          exact z.h _ _ e
        · obtain ⟨u, e⟩ := oa_some h1 a ha
          exact z.n a u (h3 a ha).1 e
/-- what a slot owns is tracked, not frozen, new -/
theorem SlOk.of {o : Option (Option V)} {s : S} {fp : List Addr} (h : SlOk K H0 F H o s fp) {a : Addr} (ha : a ∈ fp) : (∃ u, H a = some u) ∧ F a = none ∧ H0 a = none := by
  cases s with
  | u =>
    have h' : fp = [] := by cases o with | none => exact h | some o => cases o <;> exact h
    subst h'
    cases ha
  | d x =>
    cases o with
    | none => exact h.elim
    | some o =>
      cases o with
      | none => exact h.elim
      | some v =>
        have := h.2
        subst this
        cases ha
  | own ds =>
    cases o with
    | none => exact h.elim
    | some o =>
      cases o with
      | none => exact h.elim
      | some v =>
        obtain ⟨p, xs, e, h1, h2, h3, h4, h5⟩ := h
        subst h5
        rw [List.mem_singleton] at ha
        subst ha
        exact ⟨⟨_, h1⟩, h2, h3⟩
  | r v =>
    have : fp = [] := by
      cases o with
      | none => exact h.2
      | some o => cases o <;> exact h.2
    subst this
    cases ha
  | q t =>
    cases o with
    | none => exact h.elim
    | some o =>
      cases o with
      | none => exact h.elim
      | some v =>
        obtain ⟨h1, h2, h3⟩ := h
        exact ⟨oa_some h1 a ha, h3 a ha⟩
theorem Ok.base (h : Ok K F0 H0 F σ H Γ) : Fz F0 H0 F H := h.elim fun _ h => h.base
theorem Ok.len (h : Ok K F0 H0 F σ H Γ) : σ.length = Γ.length := h.elim fun _ h => h.len
theorem OkF.mono (h : OkF K F0 H0 F σ H Γ fps) (z : Fz F H F' H') : OkF K F0 H0 F' σ H' Γ fps :=
  ⟨h.base.trans z, h.len, h.fl, fun i s fp e1 e2 => (h.sl i s fp e1 e2).mono z, h.dj⟩
theorem Ok.mono (h : Ok K F0 H0 F σ H Γ) (z : Fz F H F' H') : Ok K F0 H0 F' σ H' Γ := h.elim fun fps h => ⟨fps, h.mono z⟩
theorem Ok.fh (h : Ok K F0 H0 F σ H Γ) : Ex F H := h.base.s
theorem OkF.fp (h : OkF K F0 H0 F σ H Γ fps) {i : Nat} {s : S} (e : Γ[i]? = some s) : ∃ fp, fps[i]? = some fp := by
  have hi := (List.getElem?_eq_some_iff.mp e).1
  exact ⟨_, List.getElem?_eq_getElem (by rw [h.fl]; exact hi)⟩
/-- slots forgotten -/
inductive Le : List S → List S → Prop
  | nil : Le [] []
  | keep {s : S} {a b : List S} : Le a b → Le (s :: a) (s :: b)
  | drop {s : S} {a b : List S} : Le a b → Le (s :: a) (.u :: b)
theorem Le.refl : ∀ (a : List S), Le a a
  | [] => .nil
  | _ :: a => .keep (Le.refl a)
theorem Le.len : ∀ {a b : List S}, Le a b → a.length = b.length
  | _, _, .nil => rfl
  | _, _, .keep h => by rw [List.length_cons, List.length_cons, h.len]
  | _, _, .drop h => by rw [List.length_cons, List.length_cons, h.len]
theorem Le.get : ∀ {a b : List S} {i : Nat} {s : S}, Le a b → b[i]? = some s → s = .u ∨ a[i]? = some s
  | _, _, i, s, .nil, e => by simp at e
  | _, _, 0, s, .keep h, e => by
    simp at e
    subst e
    exact .inr rfl
  | _, _, i + 1, s, .keep h, e => by
    have q := h.get (i := i) (by simpa using e)
    simpa using q
  | _, _, 0, s, .drop h, e => by
    simp at e
    subst e
    exact .inl rfl
  | _, _, i + 1, s, .drop h, e => by
    have q := h.get (i := i) (by simpa using e)
    simpa using q
/-- what is owned where slots are forgotten -/
def leFp : List S → List (List Addr) → List (List Addr)
  | .u :: b, _ :: f => [] :: leFp b f
  | _ :: b, x :: f => x :: leFp b f
  | _, _ => []
theorem leFp_len : ∀ {b : List S} {f : List (List Addr)}, f.length = b.length → (leFp b f).length = b.length
  | [], [], _ => rfl
  | [], _ :: _, h => by simp at h
  | _ :: _, [], h => by simp at h
  | .u :: b, _ :: f, h => by simp only [leFp, List.length_cons]; rw [leFp_len (by simpa using h)]
  | .d _ :: b, _ :: f, h => by simp only [leFp, List.length_cons]; rw [leFp_len (by simpa using h)]
  | .own _ :: b, _ :: f, h => by simp only [leFp, List.length_cons]; rw [leFp_len (by simpa using h)]
  | .r _ :: b, _ :: f, h => by simp only [leFp, List.length_cons]; rw [leFp_len (by simpa using h)]
  | .q _ :: b, _ :: f, h => by simp only [leFp, List.length_cons]; rw [leFp_len (by simpa using h)]
theorem leFp_get : ∀ {b : List S} {f : List (List Addr)} {i : Nat} {g : List Addr}, (leFp b f)[i]? = some g → (b[i]? = some .u ∧ g = []) ∨ (f[i]? = some g ∧ b[i]? ≠ some .u)
  | [], _, i, g, h => by simp [leFp] at h
  | s :: b, [], i, g, h => by cases s <;> simp [leFp] at h
  | s :: b, x :: f, 0, g, h => by
    cases s with
    | u => left; simpa [leFp, eq_comm] using h
    | d _ => right; simpa [leFp] using h
    | own _ => right; simpa [leFp] using h
    | r _ => right; simpa [leFp] using h
    | q _ => right; simpa [leFp] using h
  | s :: b, x :: f, i + 1, g, h => by
    have h' : (leFp b f)[i]? = some g := by cases s <;> simpa [leFp] using h
    simpa using leFp_get h'
theorem Ok.le (h : Ok K F0 H0 F σ H Γ) (l : Le Γ Γ') : Ok K F0 H0 F σ H Γ' := by
  obtain ⟨fps, h⟩ := h
  refine ⟨leFp Γ' fps, h.base, h.len.trans l.len, leFp_len (h.fl.trans l.len), fun i s fp e1 e2 => ?_, fun i j f g a e1 e2 m1 m2 => ?_⟩
  · rcases leFp_get e2 with ⟨q1, q2⟩ | ⟨q1, q2⟩
    · rw [q1] at e1
      cases e1
      subst q2
      cases σ[i]? with
      | none => rfl
      | some o => cases o <;> rfl
    · rcases l.get e1 with q | q
      · subst q
        exact absurd e1 q2
      · exact h.sl i s fp q q1
  · rcases leFp_get e1 with ⟨_, q⟩ | ⟨q1, _⟩
    · subst q; cases m1
    rcases leFp_get e2 with ⟨_, q⟩ | ⟨q2, _⟩
    · subst q; cases m2
    exact h.dj i j f g a q1 q2 m1 m2
/-- a slot's data -/
theorem Ok.at (h : Ok K F0 H0 F σ H Γ) {i : Nat} {x : D} (e : Γ[i]? = some (.d x)) : ∃ v, σ[i]? = some (some v) ∧ Dp K F v x := by
  obtain ⟨fps, h⟩ := h
  obtain ⟨fp, hf⟩ := h.fp e
  have q := h.sl i _ _ e hf
  cases o : σ[i]? with
  | none => rw [o] at q; exact q.elim
  | some o' =>
    cases o' with
    | none => rw [o] at q; exact q.elim
    | some v => rw [o] at q; exact ⟨v, rfl, q.1⟩
theorem Ok.own (h : Ok K F0 H0 F σ H Γ) {i : Nat} {ds : List D} (e : Γ[i]? = some (.own ds)) : ∃ p xs, σ[i]? = some (some (.ref p)) ∧ H p = some (.lst xs) ∧ F p = none ∧ H0 p = none ∧ DpAll K F xs ds := by
  obtain ⟨fps, h⟩ := h
  obtain ⟨fp, hf⟩ := h.fp e
  have q := h.sl i _ _ e hf
  cases o : σ[i]? with
  | none => rw [o] at q; exact q.elim
  | some o' =>
    cases o' with
    | none => rw [o] at q; exact q.elim
    | some v =>
      rw [o] at q
      obtain ⟨p, xs, e1, e2, e3, e4, e5, _⟩ := q
      subst e1
      exact ⟨p, xs, rfl, e2, e3, e4, e5⟩
theorem Ok.raw (h : Ok K F0 H0 F σ H Γ) {i : Nat} {v : V} (e : Γ[i]? = some (.r v)) : σ[i]? = some (some v) := by
  obtain ⟨fps, h⟩ := h
  obtain ⟨fp, hf⟩ := h.fp e
  have q := h.sl i _ _ e hf
  cases o : σ[i]? with
  | none => rw [o] at q; exact q.1
  | some o' => cases o' <;> (rw [o] at q; exact q.1)
/-- a slot's tree -/
theorem Ok.tree (h : Ok K F0 H0 F σ H Γ) {i : Nat} {t : Own} (e : Γ[i]? = some (.q t)) : ∃ v fp, σ[i]? = some (some v) ∧ OA K F H t v fp ∧ fp.Nodup ∧ ∀ a ∈ fp, F a = none ∧ H0 a = none := by
  obtain ⟨fps, h⟩ := h
  obtain ⟨fp, hf⟩ := h.fp e
  have q := h.sl i _ _ e hf
  cases o : σ[i]? with
  | none => rw [o] at q; exact q.elim
  | some o' =>
    cases o' with
    | none => rw [o] at q; exact q.elim
    | some v =>
      rw [o] at q
      exact ⟨v, fp, rfl, q⟩
theorem Ok.rawOf {o : Option (Option V)} {v : V} (e : o = some (some v)) : SlOk K H0 F H o (.r v) [] := by
  subst e
  exact ⟨rfl, rfl⟩
/-- a slot gets something else, which owns nothing that another slot owns -/
theorem OkF.put (h : OkF K F0 H0 F σ H Γ fps) (i : Nat) {o : Option V} {s : S} {fp : List Addr} (hs : SlOk K H0 F H (some o) s fp) (hd : ∀ (j : Nat) (g : List Addr) (a : Addr), fps[j]? = some g → a ∈ fp → a ∈ g → i = j) :
    OkF K F0 H0 F (σ.set i o) H (Γ.set i s) (fps.set i fp) := by
  refine ⟨h.base, by rw [List.length_set, List.length_set]; exact h.len, by rw [List.length_set, List.length_set]; exact h.fl, fun j s' fp' e1 e2 => ?_, fun j k f g a e1 e2 m1 m2 => ?_⟩
  · by_cases q : i = j
    · subst q
      have hl : i < Γ.length := by
        have := (List.getElem?_eq_some_iff.mp e1).1
        rw [List.length_set] at this
        exact this
      rw [List.getElem?_set_self hl] at e1
      rw [List.getElem?_set_self (by rw [h.fl]; exact hl)] at e2
      cases e1
      cases e2
      rw [List.getElem?_set_self (by rw [h.len]; exact hl)]
      exact hs
    · rw [List.getElem?_set_ne q] at e1 e2 ⊢
      exact h.sl j _ _ e1 e2
  · have key : ∀ {m : Nat} {f : List Addr}, (fps.set i fp)[m]? = some f → (i = m ∧ f = fp) ∨ (i ≠ m ∧ fps[m]? = some f) := fun {m f} e => by
      by_cases q : i = m
      · subst q
        have hl := (List.getElem?_eq_some_iff.mp e).1
        rw [List.length_set] at hl
        rw [List.getElem?_set_self hl] at e
        cases e
        exact .inl ⟨rfl, rfl⟩
      · rw [List.getElem?_set_ne q] at e
        exact .inr ⟨q, e⟩
    rcases key e1 with ⟨q1, q2⟩ | ⟨q1, q2⟩
    · rcases key e2 with ⟨r1, r2⟩ | ⟨r1, r2⟩
      · omega
      · subst q2
        have := hd k g a r2 m1 m2
        omega
    · rcases key e2 with ⟨r1, r2⟩ | ⟨r1, r2⟩
      · subst r2
        have := hd j f a q2 m2 m1
        omega
      · exact h.dj j k f g a q2 r2 m1 m2
/-- .. which owns nothing -/
theorem Ok.put0 (h : Ok K F0 H0 F σ H Γ) (i : Nat) {o : Option V} {s : S} (hs : SlOk K H0 F H (some o) s []) : Ok K F0 H0 F (σ.set i o) H (Γ.set i s) := by
  obtain ⟨fps, h⟩ := h
  exact ⟨_, h.put i hs fun j g a _ m _ => by cases m⟩
theorem Ok.set (h : Ok K F0 H0 F σ H Γ) (i : Nat) {v : V} {x : D} (d : Dp K F v x) : Ok K F0 H0 F (σ.set i (some v)) H (Γ.set i (.d x)) := h.put0 i ⟨d, rfl⟩
theorem Ok.forget (h : Ok K F0 H0 F σ H Γ) (i : Nat) (o : Option V) : Ok K F0 H0 F (σ.set i o) H (Γ.set i .u) := h.put0 i (by cases o <;> rfl)
theorem Ok.setR (h : Ok K F0 H0 F σ H Γ) (i : Nat) (v : V) : Ok K F0 H0 F (σ.set i (some v)) H (Γ.set i (.r v)) := h.put0 i (Ok.rawOf rfl)
/-- .. which owns only what is new -/
theorem Ok.putN (h : Ok K F0 H0 F σ H Γ) (z : Fz F H F' H') (i : Nat) {o : Option V} {s : S} {fp : List Addr} (hs : SlOk K H0 F' H' (some o) s fp) (hn : ∀ a ∈ fp, H a = none) : Ok K F0 H0 F' (σ.set i o) H' (Γ.set i s) := by
  obtain ⟨fps, h⟩ := h
  refine ⟨_, (h.mono z).put i hs fun j g a e m1 m2 => ?_⟩
  have hj : j < Γ.length := by
    have := (List.getElem?_eq_some_iff.mp e).1
    rw [h.fl] at this
    exact this
  obtain ⟨⟨u, hu⟩, _⟩ := (h.sl j _ _ (List.getElem?_eq_getElem hj) e).of m2
  rw [hn a m1] at hu
  cases hu
theorem Ok.setNew (h : Ok K F0 H0 F σ H Γ) (z : Fz F H F' H') (i : Nat) {p : Addr} {xs : List V} {ds : List D} (n1 : H p = none) (n2 : H' p = some (.lst xs)) (n3 : F' p = none) (d : DpAll K F' xs ds) : Ok K F0 H0 F' (σ.set i (some (.ref p))) H' (Γ.set i (.own ds)) :=
  h.putN z i ⟨p, xs, rfl, n2, n3, h.base.h.none n1, d, rfl⟩ fun a ha => by
    rw [List.mem_singleton] at ha
    subst ha
    exact n1
/-- what slot i owns changes, by new objects perhaps -/
theorem Ok.rewrite (h : Ok K F0 H0 F σ H Γ) {i : Nat} {s s' : S} {o : Option V} {fps : List (List Addr)} {fp fp' : List Addr} (hF : OkF K F0 H0 F σ H Γ fps) (e : Γ[i]? = some s) (ef : fps[i]? = some fp) (ex : Ex F F') (hk : ∀ a u, a ∉ fp → H a = some u → H' a = some u) (hn : ∀ a u, a ∉ fp → F a = none → H a = some u → a ∉ fp' → F' a = none) (hs' : Ex F' H')
    (hs : SlOk K H0 F' H' (some o) s' fp') (hfp : ∀ a ∈ fp', a ∈ fp ∨ H a = none) : Ok K F0 H0 F' (σ.set i o) H' (Γ.set i s') := by
  have hi : i < Γ.length := (List.getElem?_eq_some_iff.mp e).1
  have own := (hF.sl i s fp e ef)
  have out : ∀ (j : Nat) (g : List Addr) (a : Addr), fps[j]? = some g → a ∈ g → i ≠ j → a ∉ fp ∧ a ∉ fp' ∧ (∃ u, H a = some u) ∧ F a = none := fun j g a e2 m hj => by
    have hjl : j < Γ.length := by
      have := (List.getElem?_eq_some_iff.mp e2).1
      rw [hF.fl] at this
      exact this
    obtain ⟨⟨u, hu⟩, hf, _⟩ := (hF.sl j _ _ (List.getElem?_eq_getElem hjl) e2).of m
    have h1 : a ∉ fp := fun q => hj (hF.dj i j _ _ a ef e2 q m)
    refine ⟨h1, fun q => ?_, ⟨u, hu⟩, hf⟩
    rcases hfp a q with q | q
    · exact h1 q
    · rw [hu] at q; cases q
  refine ⟨fps.set i fp', ⟨hF.base.f.trans ex, fun a u q => ?_, hs', fun a u q1 q2 => ?_⟩, by rw [List.length_set, List.length_set]; exact hF.len, by rw [List.length_set, List.length_set]; exact hF.fl, fun j s2 f2 e1 e2 => ?_, fun j k f g a e1 e2 m1 m2 => ?_⟩
  · refine hk a u (fun m => ?_) (hF.base.h a u q)
    have := (own.of m).2.2
    rw [q] at this
    cases this
  · have q3 := hF.base.n a u q1 q2
    refine hn a u (fun m => ?_) q3 (hF.base.h a u q2) fun m => ?_
    · have := (own.of m).2.2
      rw [q2] at this
      cases this
    · have := (hs.of m).2.2
      rw [q2] at this
      cases this
  · by_cases q : i = j
    · subst q
      rw [List.getElem?_set_self hi] at e1
      rw [List.getElem?_set_self (by rw [hF.fl]; exact hi)] at e2
      cases e1
      cases e2
      rw [List.getElem?_set_self (by rw [hF.len]; exact hi)]
      exact hs
    · rw [List.getElem?_set_ne q] at e1 e2 ⊢
      have old := hF.sl j s2 f2 e1 e2
      have o2 := fun a m => out j f2 a e2 m q
      cases s2 with
      | u => exact old
      | d x =>
        cases ho : σ[j]? with
        | none => rw [ho] at old; exact old
        | some v =>
          cases v with
          | none => rw [ho] at old; exact old
          | some v => rw [ho] at old; exact ⟨dp_ex ex _ _ old.1, old.2⟩
      | r v => exact old
      | own ds =>
        cases ho : σ[j]? with
        | none => rw [ho] at old; exact old
        | some v =>
          cases v with
          | none => rw [ho] at old; exact old
          | some v =>
            rw [ho] at old
            obtain ⟨p, xs, g1, g2, g3, g4, g5, g6⟩ := old
            subst g6
            obtain ⟨k1, k2, _, k4⟩ := o2 p (List.mem_singleton.mpr rfl)
            exact ⟨p, xs, g1, hk _ _ k1 g2, hn p _ k1 k4 g2 k2, g4, da_ex ex _ _ g5, rfl⟩
      | q t =>
        cases ho : σ[j]? with
        | none => rw [ho] at old; exact old
        | some v =>
          cases v with
          | none => rw [ho] at old; exact old
          | some v =>
            rw [ho] at old
            obtain ⟨g1, g2, g3⟩ := old
            refine ⟨oa_mono ex g1 fun a m => ?_, g2, fun a m => ?_⟩
            · obtain ⟨k1, k2, ⟨u, k3⟩, k4⟩ := o2 a m
              rw [k3]
              exact hk _ _ k1 k3
            · obtain ⟨k1, k2, ⟨u, k3⟩, k4⟩ := o2 a m
              exact ⟨hn a _ k1 k4 k3 k2, (g3 a m).2⟩
  · have key : ∀ {m : Nat} {f : List Addr}, (fps.set i fp')[m]? = some f → (i = m ∧ f = fp') ∨ (i ≠ m ∧ fps[m]? = some f) := fun {m f} e => by
      by_cases q : i = m
      · subst q
        rw [List.getElem?_set_self (by rw [hF.fl]; exact hi)] at e
        cases e
        exact .inl ⟨rfl, rfl⟩
      · rw [List.getElem?_set_ne q] at e
        exact .inr ⟨q, e⟩
    rcases key e1 with ⟨q1, q2⟩ | ⟨q1, q2⟩
    · rcases key e2 with ⟨r1, r2⟩ | ⟨r1, r2⟩
      · omega
      · subst q2
        exact absurd m1 (out k g a r2 m2 r1).2.1
    · rcases key e2 with ⟨r1, r2⟩ | ⟨r1, r2⟩
      · subst r2
        exact absurd m2 (out j f a q2 m1 q1).2.1
      · exact hF.dj j k f g a q2 r2 m1 m2
/-- the list of one's own at slot i changes -/
theorem Ok.write (h : Ok K F0 H0 F σ H Γ) {i : Nat} {ds es : List D} {p : Addr} {ys : List V} (e : Γ[i]? = some (.own ds)) (hs : σ[i]? = some (some (.ref p))) (hf : F p = none) (h0 : H0 p = none) (hd : DpAll K F ys es) :
    Ok K F0 H0 F σ (upd H p (.lst ys)) (Γ.set i (.own es)) := by
  obtain ⟨fps, hF⟩ := h
  obtain ⟨fp, ef⟩ := hF.fp e
  have q := hF.sl i _ _ e ef
  rw [hs] at q
  obtain ⟨p', xs, e1, e2, e3, e4, e5, e6⟩ := q
  cases e1
  subst e6
  have hi : i < Γ.length := (List.getElem?_eq_some_iff.mp e).1
  have := Ok.rewrite (F' := F) (H' := upd H p (.lst ys)) (s' := .own es) (o := some (.ref p)) (fp' := [p]) ⟨fps, hF⟩ hF e ef (Ex.refl _) (fun a u m k => by rw [upd_ne (fun z => m (List.mem_singleton.mpr z))]; exact k) (fun a u _ k _ _ => k)
    (fun a u k => by
      rw [upd_ne (ne_of_none k hf)]
      exact hF.base.s a u k) ⟨p, ys, rfl, upd_same, hf, h0, hd, rfl⟩ (fun a m => .inl m)
  have sg : σ.set i (some (.ref p)) = σ := by
    apply List.ext_getElem?
    intro k
    by_cases hk : i = k
    · subst hk
      rw [List.getElem?_set_self (by rw [hF.len]; exact hi), hs]
    · rw [List.getElem?_set_ne hk]
  rw [sg] at this
  exact this
/-- the list of one's own at slot i becomes data -/
theorem Ok.frz (h : Ok K F0 H0 F σ H Γ) {i : Nat} {ds : List D} (e : Γ[i]? = some (.own ds)) : ∃ F', Ex F F' ∧ Ok K F0 H0 F' σ H (Γ.set i (.d (.list ds))) := by
  obtain ⟨p, xs, g1, g2, g3, g4, g5⟩ := h.own e
  obtain ⟨fps, hF⟩ := h
  obtain ⟨fp, ef⟩ := hF.fp e
  have q := hF.sl i _ _ e ef
  rw [g1] at q
  obtain ⟨p', xs', e1, e2, _, _, _, e6⟩ := q
  cases e1
  subst e6
  have hi : i < Γ.length := (List.getElem?_eq_some_iff.mp e).1
  obtain ⟨z1, z2⟩ := Fz.freeze hF.base.s g2 g3
  refine ⟨upd F p (.lst xs), z1, ?_⟩
  have sg : σ.set i (some (.ref p)) = σ := by
    apply List.ext_getElem?
    intro k
    by_cases hk : i = k
    · subst hk
      rw [List.getElem?_set_self (by rw [hF.len]; exact hi), g1]
    · rw [List.getElem?_set_ne hk]
  -- the frozen object is new since H0
  refine ⟨fps.set i [], ⟨hF.base.f.trans z1, hF.base.h, z2, fun a o q1 q2 => ?_⟩, by rw [List.length_set]; exact hF.len, by rw [List.length_set, List.length_set]; exact hF.fl, fun j s f e1 e3 => ?_, fun j k f g a e1 e3 m1 m2 => ?_⟩
  · rw [upd_ne (ne_of_none q2 g4)]
    exact hF.base.n a o q1 q2
  · by_cases z : i = j
    · subst z
      rw [List.getElem?_set_self hi] at e1
      rw [List.getElem?_set_self (by rw [hF.fl]; exact hi)] at e3
      cases e1
      cases e3
      rw [g1]
      exact ⟨Dp.lst (SqL.of upd_same) (da_ex z1 _ _ g5), rfl⟩
    · rw [List.getElem?_set_ne z] at e1 e3
      have old := hF.sl j s f e1 e3
      have ne : ∀ a ∈ f, a ≠ p := fun a m w => by
        subst w
        exact z (hF.dj i j _ _ a ef e3 (List.mem_singleton.mpr rfl) m)
      cases s with
      | u => exact old
      | r v => exact old
      | d x =>
        cases ho : σ[j]? with
        | none => rw [ho] at old; exact old
        | some v =>
          cases v with
          | none => rw [ho] at old; exact old
          | some v => rw [ho] at old; exact ⟨dp_ex z1 _ _ old.1, old.2⟩
      | own es =>
        cases ho : σ[j]? with
        | none => rw [ho] at old; exact old
        | some v =>
          cases v with
          | none => rw [ho] at old; exact old
          | some v =>
            rw [ho] at old
            obtain ⟨p2, xs2, k1, k2, k3, k4, k5, k6⟩ := old
            exact ⟨p2, xs2, k1, k2, by rw [upd_ne (ne p2 (by rw [k6]; exact List.mem_singleton.mpr rfl))]; exact k3, k4, da_ex z1 _ _ k5, k6⟩
      | q t =>
        cases ho : σ[j]? with
        | none => rw [ho] at old; exact old
        | some v =>
          cases v with
          | none => rw [ho] at old; exact old
          | some v =>
            rw [ho] at old
            obtain ⟨k1, k2, k3⟩ := old
            exact ⟨oa_mono z1 k1 fun a m => rfl, k2, fun a m => ⟨by rw [upd_ne (ne a m)]; exact (k3 a m).1, (k3 a m).2⟩⟩
  · have key : ∀ {m : Nat} {f : List Addr}, (fps.set i [])[m]? = some f → a ∈ f → fps[m]? = some f := fun {m f} e ha => by
      by_cases q : i = m
      · subst q
        rw [List.getElem?_set_self (by rw [hF.fl]; exact hi)] at e
        cases e
        cases ha
      · rw [List.getElem?_set_ne q] at e
        exact e
    exact hF.dj j k f g a (key e1 m1) (key e3 m2) m1 m2
end
end TB

namespace TB
open PySem L2

abbrev WF : WX := fun _ _ _ _ => False
/-- what is asked behind a value -/
def Po (K : PySem.W.Frag) (F H : Hp) (Q : VK) (E : XK) : Out → Prop
  | .v x => ∀ v F' H', Fz F H F' H' → Dp K F' v x → Q v H'
  | .o ds => ∀ p xs F' H', Fz F H F' H' → H p = none → H' p = some (.lst xs) → F' p = none → DpAll K F' xs ds → Q (.ref p) H'
  | .x c => ∀ F' H', Fz F H F' H' → E (.ref c) none H'
  | .q t => ∀ v fp F' H', Fz F H F' H' → OA K F' H' t v fp → fp.Nodup → (∀ a ∈ fp, H a = none ∧ F' a = none) → Q v H'
  | .xf c f x => ∀ d v F' H', Fz F H F' H' → H d = none → H' d = some (.xd [(f, v)]) → Dp K F' v x → E (.ref c) (some d) H'
theorem po_mono {K : PySem.W.Frag} {F H F' H' : Hp} {Q : VK} {E : XK} {o : Out} (z : Fz F H F' H') (h : Po K F H Q E o) : Po K F' H' Q E o := by
  cases o with
  | v x => exact fun v F2 H2 z2 d => h v F2 H2 (z.trans z2) d
  | o ds => exact fun p xs F2 H2 z2 n1 n2 n3 d => h p xs F2 H2 (z.trans z2) (z.h.none n1) n2 n3 d
  | x c => exact fun F2 H2 z2 => h F2 H2 (z.trans z2)
  | q t => exact fun v fp F2 H2 z2 o nd n => h v fp F2 H2 (z.trans z2) o nd fun a m => ⟨z.h.none (n a m).1, (n a m).2⟩
  | xf c f x => exact fun d v F2 H2 z2 n1 n2 dp => h d v F2 H2 (z.trans z2) (z.h.none n1) n2 dp
def tE (K : PySem.W.Frag) (W : WX) (F0 H0 : Hp) (Γ : List S) (o : Out) : TE := fun σ H Q => ∃ F, Ok K F0 H0 F σ H Γ ∧ Po K F H Q (fun c d H' => W c d σ H') o
def tT (K : PySem.W.Frag) (F0 H0 : Hp) (Γ : List S) (b : Bool) : TT := fun σ H Q => ∃ F, Ok K F0 H0 F σ H Γ ∧ ∀ F' H', Fz F H F' H' → Q b H'
def tA (K : PySem.W.Frag) (F0 H0 : Hp) (Γ : List S) (ds : List D) : TA := fun σ H Q => ∃ F, Ok K F0 H0 F σ H Γ ∧ ∀ vs F' H', Fz F H F' H' → DpAll K F' vs ds → Q vs H'
abbrev JE (X : Cx) (W : WX) (F0 H0 : Hp) (Γ : List S) (e : Expr) (o : Out) : Prop := PE X e (tE X.K W F0 H0 Γ o)
abbrev JT (X : Cx) (F0 H0 : Hp) (Γ : List S) (e : Expr) (b : Bool) : Prop := PT X e (tT X.K F0 H0 Γ b)
abbrev JW (X : Cx) (F0 H0 : Hp) (Γ : List S) (e : Expr) (b : Bool) : Prop := PW X e (tT X.K F0 H0 Γ b)
abbrev JA (X : Cx) (F0 H0 : Hp) (Γ : List S) (es : List Expr) (ds : List D) : Prop := PA X es (tA X.K F0 H0 Γ ds)

theorem pe_imp {X : Cx} {e : Expr} {t t' : TE} (h : PE X e t) (k : ∀ σ H Q, t' σ H Q → t σ H Q) : PE X e t' := ⟨fun pins s σ H Q I q => h.run pins s σ H Q I (k σ H Q q)⟩
theorem pt_imp {X : Cx} {e : Expr} {t t' : TT} (h : PT X e t) (k : ∀ σ H Q, t' σ H Q → t σ H Q) : PT X e t' := ⟨fun pins s σ H Q I q => h.run pins s σ H Q I (k σ H Q q)⟩
theorem pw_imp {X : Cx} {e : Expr} {t t' : TT} (h : PW X e t) (k : ∀ σ H Q, t' σ H Q → t σ H Q) : PW X e t' := ⟨fun wh pins s σ H Q I q => h.run wh pins s σ H Q I (k σ H Q q)⟩
theorem pa_imp {X : Cx} {e : List Expr} {t t' : TA} (h : PA X e t) (k : ∀ σ H Q, t' σ H Q → t σ H Q) : PA X e t' := ⟨fun pos pins s σ H Q I q => h.run pos pins s σ H Q I (k σ H Q q)⟩

/-! ### operations by values, over data -/
def RD (K : PySem.W.Frag) (r : R2) (x y z : D) : Prop := ∀ (v u : V) (F H : Hp) (Q : VK), Ex F H → Dp K F v x → Dp K F u y → (∀ w F' H', Fz F H F' H' → Dp K F' w z → Q w H') → r v u H Q
/-- a built-in's call over data -/
def RC (K : PySem.W.Frag) (r : List V → Hp → VK → Prop) (ds : List D) (o : Out) : Prop := ∀ (vs : List V) (F H : Hp) (Q : VK), Ex F H → DpAll K F vs ds → Po K F H Q E0 o → r vs H Q

section
variable {X : Cx} {W : WX} {F0 H0 : Hp} {Γ : List S} {a b e : Expr} {x y z : D} {pos : Pos} {r : R2} {i j : Int} {p q : Bool}

/-- new tuples and lists -/
theorem po_tup {K : PySem.W.Frag} {F H : Hp} {Q : VK} {xs : List V} {ds : List D} (s : Ex F H) (d : DpAll K F xs ds) (h : ∀ v F' H', Fz F H F' H' → Dp K F' v (.tuple ds) → Q v H') : ∀ l, H l = none → Q (.ref l) (upd H l (.tup xs)) := fun l hl =>
  h _ _ _ (Fz.new s hl) (.tup (SqT.of upd_same) (da_ex (Fz.new s hl).f _ _ d))
theorem po_lst {K : PySem.W.Frag} {F H : Hp} {Q : VK} {xs : List V} {ds : List D} (s : Ex F H) (d : DpAll K F xs ds) (h : Po K F H Q E0 (.o ds)) : ∀ l, H l = none → Q (.ref l) (upd H l (.lst xs)) := fun l hl =>
  h l xs F _ (Fz.fresh s hl) hl upd_same (s.none hl) d
/-- a new list taken as data -/
theorem je_o2v {ds : List D} (h : JE X W F0 H0 Γ e (.o ds)) : JE X W F0 H0 Γ e (.v (.list ds)) := pe_imp h fun σ H Q ⟨F, ok, q⟩ => ⟨F, ok, fun p xs F' H' z n1 n2 n3 d => by
  obtain ⟨k1, k2⟩ := Fz.freeze z.s n2 n3
  refine q (.ref p) (upd F' p (.lst xs)) H' ⟨z.f.trans k1, z.h, k2, fun c o c1 c2 => ?_⟩ (.lst (SqL.of upd_same) (da_ex k1 _ _ d))
  have ne : c ≠ p := ne_of_none c2 n1
  rw [upd_ne ne]
  exact z.n c o c1 c2⟩

/-! ### names, constants -/
theorem je_var (k : Nat) {n : Str} (g : Γ[k]? = some (.d x)) (hN : X.N[k]? = some n := by rfl) (hv : Vis X.env.scope n := by first | exact Or.inl rfl | exact Or.inr (Or.inl rfl) | exact Or.inr (Or.inr rfl)) (hd : (n == ("__debug__" : Str)) = false := by decide) (hcd : (n == ("__classdict__" : Str)) = false := by decide) : JE X W F0 H0 Γ (.Name n pos) (.v x) :=
  pe_imp (pe_var hN hv hd hcd) fun σ H Q ⟨F, ok, q⟩ => by
    obtain ⟨v, e, d⟩ := ok.at g
    exact ⟨v, e, q v F H (Fz.refl ok.fh) d⟩
theorem je_int {k : Nat} : JE X W F0 H0 Γ (.Constant (.int i) k pos) (.v (.int i)) := pe_imp pe_int fun σ H Q ⟨F, ok, q⟩ => q _ F H (Fz.refl ok.fh) (.int i)
theorem je_str {k : Nat} {t : Str} : JE X W F0 H0 Γ (.Constant (.str t) k pos) (.v (.str t)) := pe_imp pe_str fun σ H Q ⟨F, ok, q⟩ => q _ F H (Fz.refl ok.fh) (.str t)
/-- a constant of the module -/
theorem je_glob {n : Str} {v : V} {u : Value} (d : ∀ F, Dp X.K F v x) (hm : X.mg n = some u) (rl : RelV v u) (hg : Gl X n := by rfl) (hd : (n == ("__debug__" : Str)) = false := by decide) : JE X W F0 H0 Γ (.Name n pos) (.v x) :=
  pe_imp (pe_glob hg hm rl hd) fun σ H Q ⟨F, ok, q⟩ => q _ F H (Fz.refl ok.fh) (d F)

/-! ### operators -/
theorem je_bin {op : Operator} (ho : OpR X (binaryOp op) r) (hr : RD X.K r x y z) (ha : JE X W F0 H0 Γ a (.v x)) (hb : JE X W F0 H0 Γ b (.v y)) : JE X W F0 H0 Γ (.BinOp a op b pos) (.v z) :=
  pe_imp (pe_op ho ha hb) fun σ H Q ⟨F, ok, q⟩ => ⟨F, ok, fun v F1 H1 z1 d1 => ⟨F1, ok.mono z1, fun u F2 H2 z2 d2 => hr v u F2 H2 Q z2.s (dp_ex z2.f _ _ d1) d2 fun w F3 H3 z3 d3 => q w F3 H3 ((z1.trans z2).trans z3) d3⟩⟩
/-- does it come as a value -/
def Out.val : Out → Prop
  | .x _ => False
  | .xf _ _ _ => False
  | _ => True
theorem po_val {K : PySem.W.Frag} {F H : Hp} {Q : VK} {E E' : XK} : ∀ {o : Out}, o.val → Po K F H Q E o → Po K F H Q E' o
  | .v _, _, h => h
  | .o _, _, h => h
  | .q _, _, h => h
  | .x _, n, _ => n.elim
  | .xf _ _ _, n, _ => n.elim
theorem po_of {K : PySem.W.Frag} {F H : Hp} {σ : L2.St} {Q : VK} {o : Out} (n : o.val) (h : tE K W F0 H0 Γ o σ H Q) : ∃ F, Ok K F0 H0 F σ H Γ ∧ Po K F H Q E0 o := by
  obtain ⟨F, ok, q⟩ := h
  exact ⟨F, ok, po_val n q⟩
theorem rd_I0 {K : PySem.W.Frag} {g : Int → Int → Int} : RD K (rI0 fun i j => .int (g i j)) (.int i) (.int j) (.int (g i j)) := fun v u F H Q s d1 d2 q => by
  cases d1; cases d2
  exact ⟨i, j, rfl, rfl, q _ F H (Fz.refl s) (.int _)⟩
theorem rd_I {K : PySem.W.Frag} {C : Int → Int → Prop} {g : Int → Int → Int} (hc : C i j) : RD K (rI C fun i j => .int (g i j)) (.int i) (.int j) (.int (g i j)) := fun v u F H Q s d1 d2 q => by
  cases d1; cases d2
  exact ⟨i, j, rfl, rfl, hc, q _ F H (Fz.refl s) (.int _)⟩
theorem rd_B0 {K : PySem.W.Frag} {g : Int → Int → Bool} : RD K (rI0 fun i j => .bl (g i j)) (.int i) (.int j) (.bool (g i j)) := fun v u F H Q s d1 d2 q => by
  cases d1; cases d2
  exact ⟨i, j, rfl, rfl, q _ F H (Fz.refl s) (.bl _)⟩
theorem je_add (ha : JE X W F0 H0 Γ a (.v (.int i))) (hb : JE X W F0 H0 Γ b (.v (.int j))) : JE X W F0 H0 Γ (.BinOp a .Add b pos) (.v (.int (i + j))) := je_bin op_add rd_I0 ha hb
theorem je_sub (ha : JE X W F0 H0 Γ a (.v (.int i))) (hb : JE X W F0 H0 Γ b (.v (.int j))) : JE X W F0 H0 Γ (.BinOp a .Sub b pos) (.v (.int (i - j))) := je_bin op_sub rd_I0 ha hb
/-- x has at most n bits -/
def Bt (n : Nat) (x : Int) : Prop := x.natAbs < 2 ^ n
theorem je_mul (hc : CMul i j) (ha : JE X W F0 H0 Γ a (.v (.int i))) (hb : JE X W F0 H0 Γ b (.v (.int j))) : JE X W F0 H0 Γ (.BinOp a .Mult b pos) (.v (.int (i * j))) := je_bin op_mul (rd_I hc) ha hb
theorem je_mulW (hc : CMulW i j) (ha : JE X W F0 H0 Γ a (.v (.int i))) (hb : JE X W F0 H0 Γ b (.v (.int j))) : JE X W F0 H0 Γ (.BinOp a .Mult b pos) (.v (.int (i * j))) := je_bin op_mulW (rd_I hc) ha hb
theorem je_fdiv (hc : CDiv i j) (ha : JE X W F0 H0 Γ a (.v (.int i))) (hb : JE X W F0 H0 Γ b (.v (.int j))) : JE X W F0 H0 Γ (.BinOp a .FloorDiv b pos) (.v (.int (i / j))) := je_bin op_fdiv (rd_I hc) ha hb
theorem je_mod (hc : 0 < j) (ha : JE X W F0 H0 Γ a (.v (.int i))) (hb : JE X W F0 H0 Γ b (.v (.int j))) : JE X W F0 H0 Γ (.BinOp a .Mod b pos) (.v (.int (i % j))) := je_bin op_mod (rd_I (C := fun _ j => 0 < j) hc) ha hb
theorem je_pow (hc : CPow i j) (ha : JE X W F0 H0 Γ a (.v (.int i))) (hb : JE X W F0 H0 Γ b (.v (.int j))) : JE X W F0 H0 Γ (.BinOp a .Pow b pos) (.v (.int (i ^ j.toNat))) := je_bin op_pow (rd_I hc) ha hb
theorem je_neg (ha : JE X W F0 H0 Γ a (.v (.int i))) : JE X W F0 H0 Γ (.UnaryOp .USub a pos) (.v (.int (-i))) :=
  pe_imp (pe_un un_neg ha) fun σ H Q ⟨F, ok, q⟩ => ⟨F, ok, fun v F1 H1 z1 d1 => by
    cases d1
    exact ⟨i, rfl, q _ F1 H1 z1 (.int _)⟩⟩

/-! ### comparisons -/
theorem je_cmp {op : CmpOp} (ho : OpR X (compareOp op) r) (hr : RD X.K r x y z) (ha : JE X W F0 H0 Γ a (.v x)) (hb : JE X W F0 H0 Γ b (.v y)) (hm : behindInMarks op b = false) : JE X W F0 H0 Γ (.Compare a [op] [b] pos) (.v z) :=
  pe_imp (pe_cmpR ho ha hb hm) fun σ H Q ⟨F, ok, q⟩ => ⟨F, ok, fun v F1 H1 z1 d1 => ⟨F1, ok.mono z1, fun u F2 H2 z2 d2 => hr v u F2 H2 Q z2.s (dp_ex z2.f _ _ d1) d2 fun w F3 H3 z3 d3 => q w F3 H3 ((z1.trans z2).trans z3) d3⟩⟩
theorem jt_cmp {op : CmpOp} (ho : OpR X (compareOp op) r) (hr : RD X.K r x y (.bool p)) (ha : JE X WF F0 H0 Γ a (.v x)) (hb : JE X WF F0 H0 Γ b (.v y)) (hm : behindInMarks op b = false) : JT X F0 H0 Γ (.Compare a [op] [b] pos) p :=
  pt_imp (pt_cmpR ho ha hb hm) fun σ H Q ⟨F, ok, q⟩ => ⟨F, ok, fun v F1 H1 z1 d1 => ⟨F1, ok.mono z1, fun u F2 H2 z2 d2 => hr v u F2 H2 _ z2.s (dp_ex z2.f _ _ d1) d2 fun w F3 H3 z3 d3 => by
    cases d3
    exact ⟨p, rfl, q F3 H3 ((z1.trans z2).trans z3)⟩⟩⟩
/-- == of data -/
theorem rd_eq {K : PySem.W.Frag} (h1 : SeqAt.shaped x = true) (h2 : SeqAt.shaped y = true) : RD K (rEqD K) x y (.bool (PyData.eqv x y)) := fun v u F H Q s d1 d2 q => ⟨x, y, dp_ex s _ _ d1, dp_ex s _ _ d2, h1, h2, q _ F H (Fz.refl s) (.bl _)⟩
theorem rd_ne {K : PySem.W.Frag} (h1 : SeqAt.shaped x = true) (h2 : SeqAt.shaped y = true) : RD K (rNeD K) x y (.bool (!PyData.eqv x y)) := fun v u F H Q s d1 d2 q => ⟨x, y, dp_ex s _ _ d1, dp_ex s _ _ d2, h1, h2, q _ F H (Fz.refl s) (.bl _)⟩
/-! ### tests -/
theorem jt_val (h : JE X WF F0 H0 Γ e (.v (.bool p))) (he : ∀ whole, isTrue e X.env whole = (do let v ← whole; standAt e.pos; holding [v] (truthy v)) := by intro _; rfl) : JT X F0 H0 Γ e p :=
  pt_imp (pt_val h he) fun σ H Q ⟨F, ok, q⟩ => ⟨F, ok, fun v F1 H1 z1 d1 => by
    cases d1
    exact ⟨p, rfl, q F1 H1 z1⟩⟩
theorem jt_not (h : JT X F0 H0 Γ e p) : JT X F0 H0 Γ (.UnaryOp .Not e pos) (!p) := pt_imp (pt_not h) fun σ H Q ⟨F, ok, q⟩ => ⟨F, ok, fun F1 H1 z1 => q F1 H1 z1⟩
theorem jt_w (h : JW X F0 H0 Γ e p) : JT X F0 H0 Γ e p := h.pt
theorem jw_or1 (h : JT X F0 H0 Γ e p) : JW X F0 H0 Γ (.BoolOp .Or [e] pos) p := pw_or1 h
theorem jw_or {rest : List Expr} (h1 : JT X F0 H0 Γ a p) (h2 : p = false → JW X F0 H0 Γ (.BoolOp .Or (b :: rest) pos) q) : JW X F0 H0 Γ (.BoolOp .Or (a :: b :: rest) pos) (p || q) := by
  cases p with
  | false => exact pw_imp (pw_or h1 (h2 rfl)) fun σ H Q ⟨F, ok, k⟩ => ⟨F, ok, fun F1 H1 z1 => iteF ⟨F1, ok.mono z1, fun F2 H2 z2 => k F2 H2 (z1.trans z2)⟩⟩
  | true => exact pw_imp (pw_or h1 (tB' := fun _ _ _ => False) ⟨fun _ _ _ _ _ _ _ h => h.elim⟩) fun σ H Q ⟨F, ok, k⟩ => ⟨F, ok, fun F1 H1 z1 => iteT (k F1 H1 z1)⟩
theorem je_and1 {op : BoolOp} {o : Out} (h : JE X W F0 H0 Γ e o) : JE X W F0 H0 Γ (.BoolOp op [e] pos) o := pe_one h
theorem je_and {rest : List Expr} (h1 : JE X W F0 H0 Γ a (.v (.bool p))) (h2 : p = true → JE X W F0 H0 Γ (.BoolOp .And (b :: rest) pos) (.v (.bool q))) : JE X W F0 H0 Γ (.BoolOp .And (a :: b :: rest) pos) (.v (.bool (p && q))) := by
  cases p with
  | true => exact pe_imp (pe_and h1 (h2 rfl)) fun σ H Q ⟨F, ok, k⟩ => ⟨F, ok, fun v F1 H1 z1 d1 => by
      cases d1
      exact ⟨true, rfl, iteT ⟨F1, ok.mono z1, fun v F2 H2 z2 d2 => k v F2 H2 (z1.trans z2) d2⟩⟩⟩
  | false => exact pe_imp (pe_and h1 (tb := fun _ _ _ => False) ⟨fun _ _ _ _ _ _ h => h.elim⟩) fun σ H Q ⟨F, ok, k⟩ => ⟨F, ok, fun v F1 H1 z1 d1 => by
      cases d1
      exact ⟨false, rfl, iteF (k _ F1 H1 z1 (.bl _))⟩⟩
theorem je_is {o o' : Out} (h : JE X W F0 H0 Γ e o) (k : o = o') : JE X W F0 H0 Γ e o' := k ▸ h
theorem jt_is (h : JT X F0 H0 Γ e p) (k : p = q) : JT X F0 H0 Γ e q := k ▸ h
/-! ### arguments, displays -/
variable {es : List Expr} {ds : List D}
theorem ja_nil : JA X F0 H0 Γ [] [] := pa_imp pa_nil fun σ H Q ⟨F, ok, q⟩ => q [] F H (Fz.refl ok.fh) .nil
theorem ja_cons (ha : JE X WF F0 H0 Γ e (.v x)) (hr : JA X F0 H0 Γ es ds) (hs : starEach (e :: es) X.env = (false, eval e X.env) :: starEach es X.env := by rfl) : JA X F0 H0 Γ (e :: es) (x :: ds) :=
  pa_imp (pa_cons ha hr hs) fun σ H Q ⟨F, ok, q⟩ => ⟨F, ok, fun v F1 H1 z1 d1 => ⟨F1, ok.mono z1, fun vs F2 H2 z2 d2 => q (v :: vs) F2 H2 (z1.trans z2) (.cons (dp_ex z2.f _ _ d1) d2)⟩⟩
theorem je_tup {k : Nat} (h : JA X F0 H0 Γ es ds) (hl : ds.length ≤ 100000 := by exact Nat.le_of_ble_eq_true rfl) : JE X W F0 H0 Γ (.Tuple es k pos) (.v (.tuple ds)) :=
  pe_imp (pe_tup h) fun σ H Q ⟨F, ok, q⟩ => ⟨F, ok, fun vs F1 H1 z1 d1 => ⟨by rw [da_len d1]; exact Nat.le_trans hl (by decide), po_tup z1.s d1 fun v F' H' z d => q v F' H' (z1.trans z) d⟩⟩
theorem je_lst (h : JA X F0 H0 Γ es ds) (hl : ds.length ≤ 100000 := by exact Nat.le_of_ble_eq_true rfl) : JE X W F0 H0 Γ (.List es pos) (.o ds) :=
  pe_imp (pe_lst h) fun σ H Q ⟨F, ok, q⟩ => ⟨F, ok, fun vs F1 H1 z1 d1 => ⟨by rw [da_len d1]; exact Nat.le_trans hl (by decide), po_lst z1.s d1 (po_mono z1 (show Po X.K F H Q E0 (.o ds) from q))⟩⟩

/-! ### built-ins -/
theorem je_cb {id : String} {n : Str} {o : Out} {r : List V → Hp → VK → Prop} {np : Pos} (hc : CallR X (.builtin id) r) (hr : RC X.K r ds o) (ho : o.val) (hm : X.mg n = none) (hv : bootBuiltins n = some (.builtin id)) (ha : JA X F0 H0 Γ (e :: es) ds) (hg : Gl X n := by rfl)
    (hn : n ≠ "__name__" := by decide) (hdb : (n == ("__debug__" : Str)) = false := by decide) (he : starEach (e :: es) X.env = (false, eval e X.env) :: starEach es X.env := by rfl) (hpl : (backTo pos (starEach es X.env)).any (·.1) = false := by rfl) : JE X W F0 H0 Γ (.Call (.Name n np) (e :: es) [] pos) o :=
  pe_imp (pe_callB hc hg hm hv ha hn hdb he hpl) fun σ H Q h => by
    obtain ⟨F, ok, q⟩ := po_of (F := H) ho h
    exact ⟨F, ok, fun vs F1 H1 z1 d1 => hr vs F1 H1 Q z1.s d1 (po_mono z1 q)⟩
theorem je_ct {T : String} {n : Str} {o : Out} {r : List V → Hp → VK → Prop} {np : Pos} (hc : CallR X (.type T) r) (hr : RC X.K r ds o) (ho : o.val) (hm : X.mg n = none) (hv : bootBuiltins n = some (.type T)) (ha : JA X F0 H0 Γ (e :: es) ds) (hg : Gl X n := by rfl)
    (hn : n ≠ "__name__" := by decide) (hdb : (n == ("__debug__" : Str)) = false := by decide) (he : starEach (e :: es) X.env = (false, eval e X.env) :: starEach es X.env := by rfl) (hpl : (backTo pos (starEach es X.env)).any (·.1) = false := by rfl) : JE X W F0 H0 Γ (.Call (.Name n np) (e :: es) [] pos) o :=
  pe_imp (pe_callTy hc hg hm hv ha hn hdb he hpl) fun σ H Q h => by
    obtain ⟨F, ok, q⟩ := po_of (F := H) ho h
    exact ⟨F, ok, fun vs F1 H1 z1 d1 => hr vs F1 H1 Q z1.s d1 (po_mono z1 q)⟩
end
end TB

namespace TB
open PySem L2

section
variable {X : Cx} {W : WX} {F0 H0 : Hp} {Γ : List S} {a b e : Expr} {x y z : D} {pos : Pos} {r : R2} {i j : Int} {p q : Bool} {es : List Expr} {ds : List D}

/-! ### built-ins over data -/
section
variable {K : PySem.W.Frag}
theorem rc1 {r : List V → Hp → VK → Prop} {o : Out} (h : ∀ (v : V) (F H : Hp) (Q : VK), Ex F H → Dp K F v x → Po K F H Q E0 o → r [v] H Q) : RC K r [x] o := fun vs F H Q s d q => by
  cases d with
  | cons d1 d2 =>
    cases d2
    exact h _ F H Q s d1 q
theorem rc2 {r : List V → Hp → VK → Prop} {o : Out} (h : ∀ (v u : V) (F H : Hp) (Q : VK), Ex F H → Dp K F v x → Dp K F u y → Po K F H Q E0 o → r [v, u] H Q) : RC K r [x, y] o := fun vs F H Q s d q => by
  cases d with
  | cons d1 d2 =>
    cases d2 with
    | cons d2 d3 =>
      cases d3
      exact h _ _ F H Q s d1 d2 q
theorem rc_lenL : RC K (fun xs H Q => ∃ x n, xs = [x] ∧ LenV K x H n ∧ Q (.int n) H) [.list ds] (.v (.int ds.length)) := rc1 fun v F H Q s d q => by
  cases d with
  | lst h1 h2 => exact ⟨_, _, rfl, .inl ⟨_, sl_ex s h1, rfl⟩, by rw [da_len h2]; exact q _ F H (Fz.refl s) (.int _)⟩
theorem rc_intI : RC K (fun xs H Q => (∃ i, xs = [.int i] ∧ Q (.int i) H) ∨ ∃ k, xs = [.bl k] ∧ Q (.int (if k then 1 else 0)) H) [.int i] (.v (.int i)) := rc1 fun v F H Q s d q => by
  cases d
  exact .inl ⟨_, rfl, q _ F H (Fz.refl s) (.int _)⟩
theorem rc_intB : RC K (fun xs H Q => (∃ i, xs = [.int i] ∧ Q (.int i) H) ∨ ∃ k, xs = [.bl k] ∧ Q (.int (if k then 1 else 0)) H) [.bool p] (.v (.int (if p then 1 else 0))) := rc1 fun v F H Q s d q => by
  cases d
  exact .inr ⟨_, rfl, q _ F H (Fz.refl s) (.int _)⟩
theorem rc_abs : RC K (fun xs H Q => ∃ i, xs = [.int i] ∧ Q (.int (if i < 0 then -i else i)) H) [.int i] (.v (.int (if i < 0 then -i else i))) := rc1 fun v F H Q s d q => by
  cases d
  exact ⟨_, rfl, q _ F H (Fz.refl s) (.int _)⟩
theorem rc_max2 : RC K (fun xs H Q => ∃ i j, xs = [.int i, .int j] ∧ Q (.int (if j > i then j else i)) H) [.int i, .int j] (.v (.int (if j > i then j else i))) := rc2 fun v u F H Q s d1 d2 q => by
  cases d1; cases d2
  exact ⟨_, _, rfl, q _ F H (Fz.refl s) (.int _)⟩
end
theorem noX {x : D} : (Out.v x).val := trivial
theorem je_lenL {np : Pos} (hm : X.mg "len" = none) (h : JE X W F0 H0 Γ e (.v (.list ds))) (hg : Gl X "len" := by rfl) (s1 : starEach [e] X.env = (false, eval e X.env) :: starEach [] X.env := by rfl) : JE X W F0 H0 Γ (.Call (.Name "len" np) [e] [] pos) (.v (.int ds.length)) := je_cb call_len rc_lenL noX hm PySem.boot_len (ja_cons h ja_nil s1) hg (by decide) (by decide) s1
theorem je_intI {np : Pos} (hm : X.mg "int" = none) (h : JE X W F0 H0 Γ e (.v (.int i))) (hg : Gl X "int" := by rfl) (s1 : starEach [e] X.env = (false, eval e X.env) :: starEach [] X.env := by rfl) : JE X W F0 H0 Γ (.Call (.Name "int" np) [e] [] pos) (.v (.int i)) := je_ct call_int1 rc_intI noX hm (by decide +kernel) (ja_cons h ja_nil s1) hg (by decide) (by decide) s1
theorem je_intB {np : Pos} (hm : X.mg "int" = none) (h : JE X W F0 H0 Γ e (.v (.bool p))) (hg : Gl X "int" := by rfl) (s1 : starEach [e] X.env = (false, eval e X.env) :: starEach [] X.env := by rfl) : JE X W F0 H0 Γ (.Call (.Name "int" np) [e] [] pos) (.v (.int (if p then 1 else 0))) := je_ct call_int1 rc_intB noX hm (by decide +kernel) (ja_cons h ja_nil s1) hg (by decide) (by decide) s1
theorem je_abs {np : Pos} (hm : X.mg "abs" = none) (h : JE X W F0 H0 Γ e (.v (.int i))) (hg : Gl X "abs" := by rfl) (s1 : starEach [e] X.env = (false, eval e X.env) :: starEach [] X.env := by rfl) : JE X W F0 H0 Γ (.Call (.Name "abs" np) [e] [] pos) (.v (.int (if i < 0 then -i else i))) := je_cb call_abs rc_abs noX hm (by decide +kernel) (ja_cons h ja_nil s1) hg (by decide) (by decide) s1
theorem je_max2 {np : Pos} (hc : X.calm = true) (hm : X.mg "max" = none) (ha : JE X W F0 H0 Γ a (.v (.int i))) (hb : JE X W F0 H0 Γ b (.v (.int j))) (hg : Gl X "max" := by rfl) (s1 : starEach [a, b] X.env = (false, eval a X.env) :: starEach [b] X.env := by rfl) (s2 : starEach [b] X.env = (false, eval b X.env) :: starEach [] X.env := by rfl) (s3 : (backTo pos (starEach [b] X.env)).any (·.1) = false := by rfl) : JE X W F0 H0 Γ (.Call (.Name "max" np) [a, b] [] pos) (.v (.int (if j > i then j else i))) := je_cb (call_max2 hc) rc_max2 noX hm (by decide +kernel) (ja_cons ha (ja_cons hb ja_nil s2) s1) hg (by decide) (by decide) s1 s3
/-! ### subscripts -/
theorem atI_da {K : PySem.W.Frag} {F : Hp} {xs : List V} {ds : List D} {i : Int} {d : D} (h : DpAll K F xs ds) (e : atI ds i = some d) : ∃ v, atI xs i = some v ∧ Dp K F v d := by
  unfold atI at e ⊢
  rw [da_len h]
  cases q : ixN ds.length i with
  | none => rw [q] at e; cases e
  | some j =>
    rw [q] at e
    exact da_get h e
theorem je_ixL {d : D} (h : atI ds i = some d) (ha : JE X W F0 H0 Γ a (.v (.list ds))) (hb : JE X W F0 H0 Γ b (.v (.int i))) (hs : PlainIx b := by exact fun _ _ => rfl) : JE X W F0 H0 Γ (.Subscript a b pos) (.v d) :=
  pe_imp (pe_ix ix_list ha hb hs) fun σ H Q ⟨F, ok, q⟩ => ⟨F, ok, fun v F1 H1 z1 d1 => ⟨F1, ok.mono z1, fun u F2 H2 z2 d2 => by
    cases d1 with
    | lst g1 g2 =>
      cases d2
      obtain ⟨w, e1, e2⟩ := atI_da g2 h
      exact ⟨_, _, _, w, rfl, rfl, sl_ex (z2.f.trans z2.s) g1, e1, q w F2 H2 (z1.trans z2) (dp_ex z2.f _ _ e2)⟩⟩⟩
def cutD (xs : List D) (lo hi : Option Int) : List D := (xs.drop (HT.sIx xs.length 0 lo)).take (HT.sIx xs.length xs.length hi - HT.sIx xs.length 0 lo)
theorem cut_da {K : PySem.W.Frag} {F : Hp} {xs : List V} {ds : List D} {lo hi : Option Int} (h : DpAll K F xs ds) : DpAll K F (cutV xs lo hi) (cutD ds lo hi) := by
  unfold cutV cutD
  rw [da_len h]
  exact da_take _ (da_drop _ h)
def tPartD (K : PySem.W.Frag) (F0 H0 : Hp) (Γ : List S) (o : Option Int) : TO := fun σ H Q => ∃ F, Ok K F0 H0 F σ H Γ ∧ ∀ F' H', Fz F H F' H' → Q o H'
abbrev JO (X : Cx) (F0 H0 : Hp) (Γ : List S) (e : Option Expr) (o : Option Int) : Prop := PO X e (tPartD X.K F0 H0 Γ o)
theorem jo_none : JO X F0 H0 Γ none none := ⟨fun pins s σ H Q I ⟨F, ok, q⟩ => po_none.run pins s σ H Q I (q F H (Fz.refl ok.fh))⟩
theorem jo_some (h : JE X WF F0 H0 Γ e (.v (.int i))) : JO X F0 H0 Γ (some e) (some i) := ⟨fun pins s σ H Q I ⟨F, ok, q⟩ => (po_some h).run pins s σ H Q I ⟨F, ok, fun v F1 H1 z1 d1 => by
  cases d1
  exact ⟨i, rfl, q F1 H1 z1⟩⟩⟩
theorem je_slL {lo hi : Option Expr} {l u : Option Int} {p2 : Pos} (he : JE X W F0 H0 Γ e (.v (.list ds))) (hl : JO X F0 H0 Γ lo l) (hu : JO X F0 H0 Γ hi u) : JE X W F0 H0 Γ (.Subscript e (.Slice lo hi none p2) pos) (.o (cutD ds l u)) :=
  pe_imp (pe_slice sl_list he hl hu) fun σ H Q ⟨F, ok, q⟩ => ⟨F, ok, fun v F1 H1 z1 d1 => ⟨F1, ok.mono z1, fun F2 H2 z2 => ⟨F2, (ok.mono z1).mono z2, fun F3 H3 z3 => by
    cases d1 with
    | lst g1 g2 =>
      have zz := (z1.trans z2).trans z3
      exact ⟨_, _, rfl, sl_ex ((z2.f.trans z3.f).trans z3.s) g1, po_lst z3.s (cut_da (da_ex (z2.f.trans z3.f) _ _ g2)) (po_mono zz (show Po X.K F H Q E0 (.o _) from q))⟩⟩⟩⟩
/-! ### a list of one's own, read -/
theorem je_own_len (k : Nat) {n : Str} {np q2 : Pos} (g : Γ[k]? = some (.own ds)) (hm : X.mg "len" = none) (hN : X.N[k]? = some n := by rfl) (hv : Vis X.env.scope n := by first | exact Or.inl rfl | exact Or.inr (Or.inl rfl) | exact Or.inr (Or.inr rfl)) (hg : Gl X "len" := by rfl) (hd : (n == ("__debug__" : Str)) = false := by decide) (hcd : (n == ("__classdict__" : Str)) = false := by decide) :
    JE X W F0 H0 Γ (.Call (.Name "len" np) [.Name n q2] [] pos) (.v (.int ds.length)) :=
  pe_imp (pe_callB call_len hg hm PySem.boot_len (pa_cons (pe_var hN hv hd hcd) pa_nil)) fun σ H Q ⟨F, ok, q⟩ => by
    obtain ⟨p, xs, e1, e2, e3, e4, e5⟩ := ok.own g
    exact ⟨_, e1, _, _, rfl, .inl ⟨_, SqL.of e2, rfl⟩, by rw [da_len e5]; exact q _ F H (Fz.refl ok.fh) (.int _)⟩
theorem je_own_sl (k : Nat) {n : Str} {q2 p2 : Pos} {lo hi : Option Expr} {l u : Option Int} (g : Γ[k]? = some (.own ds)) (hl : JO X F0 H0 Γ lo l) (hu : JO X F0 H0 Γ hi u) (hN : X.N[k]? = some n := by rfl) (hv : Vis X.env.scope n := by first | exact Or.inl rfl | exact Or.inr (Or.inl rfl) | exact Or.inr (Or.inr rfl)) (hd : (n == ("__debug__" : Str)) = false := by decide) (hcd : (n == ("__classdict__" : Str)) = false := by decide) :
    JE X W F0 H0 Γ (.Subscript (.Name n q2) (.Slice lo hi none p2) pos) (.o (cutD ds l u)) :=
  pe_imp (pe_slice sl_list (pe_var hN hv hd hcd) hl hu) fun σ H Q ⟨F, ok, q⟩ => by
    obtain ⟨p, xs, e1, e2, e3, e4, e5⟩ := ok.own g
    exact ⟨_, e1, F, ok, fun F2 H2 z2 => ⟨F2, ok.mono z2, fun F3 H3 z3 => ⟨_, _, rfl, SqL.of ((z2.trans z3).h _ _ e2), po_lst z3.s (cut_da (da_ex (z2.f.trans z3.f) _ _ e5)) (po_mono (z2.trans z3) (show Po X.K F H Q E0 (.o _) from q))⟩⟩⟩
/-- found + [..] -/
theorem je_own_cat (k : Nat) {n : Str} {q2 : Pos} {es : List D} (g : Γ[k]? = some (.own ds)) (hl : ds.length + es.length ≤ 100000) (hb : JE X W F0 H0 Γ b (.o es)) (hN : X.N[k]? = some n := by rfl) (hv : Vis X.env.scope n := by first | exact Or.inl rfl | exact Or.inr (Or.inl rfl) | exact Or.inr (Or.inr rfl)) (hd : (n == ("__debug__" : Str)) = false := by decide) (hcd : (n == ("__classdict__" : Str)) = false := by decide) :
    JE X W F0 H0 Γ (.BinOp (.Name n q2) .Add b pos) (.o (ds ++ es)) :=
  pe_imp (pe_op op_cat (pe_var hN hv hd hcd) hb) fun σ H Q ⟨F, ok, q⟩ => by
    obtain ⟨p, xs, e1, e2, e3, e4, e5⟩ := ok.own g
    refine ⟨_, e1, F, ok, fun p2 ys F2 H2 z2 n1 n2 n3 d2 => ⟨_, _, _, _, rfl, rfl, z2.h _ _ e2, n2, ?_, ?_⟩⟩
    · rw [da_len e5, da_len d2]; exact Nat.le_trans hl (by decide)
    · exact po_lst z2.s (da_app (da_ex z2.f _ _ e5) d2) (po_mono z2 (show Po X.K F H Q E0 (.o _) from q))
/-! ### calls of the text's own defs -/
def spD (K : PySem.W.Frag) (R : List D → Out → Prop) : Sp := fun vs H Q E => ∃ F ds o, Ex F H ∧ DpAll K F vs ds ∧ R ds o ∧ Po K F H Q E o
variable {k : Nat} {f : Addr} {fd : FuncData} {ps : List Str} {R : List D → Out → Prop} {n : Str} {np : Pos} {o : Out}
theorem je_call (tk : L2.Takes X W) (G : FnOk X.prog X.w X.K X.mg X.base (L2.CX X.prog X.w) k f fd ps (spD X.K R)) (hr : Room k X.A) (hm : X.mg n = some (.ref f)) (hk : PySem.W.keepIn X.K (.ref f) = true) (hb : Binds X.K fd ps []) (ha : JA X F0 H0 Γ (e :: es) ds) (hR : R ds o)
    (hg : Gl X n := by rfl) (hdb : (n == ("__debug__" : Str)) = false := by decide) (he : starEach (e :: es) X.env = (false, eval e X.env) :: starEach es X.env := by rfl) (hpl : (backTo pos (starEach es X.env)).any (·.1) = false := by rfl) : JE X W F0 H0 Γ (.Call (.Name n np) (e :: es) [] pos) o :=
  pe_imp (pe_callS G hr hg hm hk hb (fun σ => passAt tk σ) ha hdb he hpl) fun σ H Q ⟨F, ok, q⟩ => ⟨F, ok, fun vs F1 H1 z1 d1 => ⟨F1, ds, _, z1.s, d1, hR, po_mono z1 q⟩⟩
end
end TB

namespace TB
open PySem L2

/-- what comes of a statement -/
inductive SO where
  | nx (Γ : List S)
  | rt (x : D)
  | rto (ds : List D)
  | x (c : Addr) (Γ : List S)
  | bk (Γ : List S)
  | ct (Γ : List S)
  | rtq (t : Own)
  | xf (c : Addr) (f : Str) (x : D) (Γ : List S)
/-- what is asked behind it -/
def PSo (K : PySem.W.Frag) (W : WX) (F0 H0 F : Hp) (D' : Ends) : SO → Prop
  | .nx Γ => ∀ σ' F' H', Ex F F' → Ok K F0 H0 F' σ' H' Γ → D'.nx σ' H'
  | .rt x => ∀ v F' H', Ex F F' → Fz F0 H0 F' H' → Dp K F' v x → D'.rt v H'
  | .rto ds => ∀ p xs F' H', Ex F F' → Fz F0 H0 F' H' → H0 p = none → H' p = some (.lst xs) → F' p = none → DpAll K F' xs ds → D'.rt (.ref p) H'
  | .x c Γ => ∀ σ' F' H', Ex F F' → Ok K F0 H0 F' σ' H' Γ → W (.ref c) none σ' H'
  | .bk Γ => ∀ σ' F' H', Ex F F' → Ok K F0 H0 F' σ' H' Γ → D'.bk σ' H'
  | .ct Γ => ∀ σ' F' H', Ex F F' → Ok K F0 H0 F' σ' H' Γ → D'.ct σ' H'
  | .rtq t => ∀ v fp F' H', Ex F F' → Fz F0 H0 F' H' → OA K F' H' t v fp → fp.Nodup → (∀ a ∈ fp, H0 a = none ∧ F' a = none) → D'.rt v H'
  | .xf c f x Γ => ∀ d v σ' F' H', Ex F F' → Ok K F0 H0 F' σ' H' Γ → H0 d = none → H' d = some (.xd [(f, v)]) → Dp K F' v x → W (.ref c) (some d) σ' H'
def tS (K : PySem.W.Frag) (W : WX) (F0 H0 : Hp) (Γ : List S) (so : SO) : TS := fun D' σ H => ∃ F, Ok K F0 H0 F σ H Γ ∧ PSo K W F0 H0 F D' so
abbrev JS (X : Cx) (W : WX) (F0 H0 : Hp) (Γ : List S) (st : Stmt) (so : SO) : Prop := PS X st (tS X.K W F0 H0 Γ so)
abbrev JSs (X : Cx) (W : WX) (F0 H0 : Hp) (Γ : List S) (st : List Stmt) (so : SO) : Prop := PSs X st (tS X.K W F0 H0 Γ so)
theorem ps_imp {X : Cx} {e : Stmt} {t t' : TS} (h : PS X e t) (k : ∀ D' σ H, t' D' σ H → t D' σ H) : PS X e t' := ⟨fun pins s σ H D' I q => h.run pins s σ H D' I (k D' σ H q)⟩
theorem pss_imp {X : Cx} {e : List Stmt} {t t' : TS} (h : PSs X e t) (k : ∀ D' σ H, t' D' σ H → t D' σ H) : PSs X e t' := ⟨fun pins s σ H D' I q => h.run pins s σ H D' I (k D' σ H q)⟩
theorem pso_mono {K : PySem.W.Frag} {W : WX} {F0 H0 F F' : Hp} {D' : Ends} {so : SO} (e : Ex F F') (h : PSo K W F0 H0 F D' so) : PSo K W F0 H0 F' D' so := by
  cases so with
  | nx Γ => exact fun σ' F2 H' e2 ok => h σ' F2 H' (e.trans e2) ok
  | rt x => exact fun v F2 H' e2 z d => h v F2 H' (e.trans e2) z d
  | rto ds => exact fun p xs F2 H' e2 z n1 n2 n3 d => h p xs F2 H' (e.trans e2) z n1 n2 n3 d
  | x c Γ => exact fun σ' F2 H' e2 ok => h σ' F2 H' (e.trans e2) ok
  | bk Γ => exact fun σ' F2 H' e2 ok => h σ' F2 H' (e.trans e2) ok
  | ct Γ => exact fun σ' F2 H' e2 ok => h σ' F2 H' (e.trans e2) ok
  | rtq t => exact fun v fp F2 H' e2 z o nd n => h v fp F2 H' (e.trans e2) z o nd n
  | xf c f x Γ => exact fun d v σ' F2 H' e2 ok n1 n2 dp => h d v σ' F2 H' (e.trans e2) ok n1 n2 dp
/-- does it go on behind -/
def SO.stop : SO → Prop
  | .nx _ => False
  | _ => True
theorem pso_stop {K : PySem.W.Frag} {W : WX} {F0 H0 F : Hp} {D' : Ends} {so : SO} (hs : so.stop) (u : L2.St → Hp → Prop) (h : PSo K W F0 H0 F D' so) : PSo K W F0 H0 F { D' with nx := u } so := by
  cases so with
  | nx Γ => exact hs.elim
  | _ => exact h

section
variable {X : Cx} {W : WX} {F0 H0 : Hp} {Γ Γ' Γ1 : List S} {a b e : Expr} {x y z : D} {pos : Pos} {p q : Bool} {ds : List D} {st : Stmt} {sts rest body orelse : List Stmt} {so : SO}

/-! ### blocks -/
theorem jss_nil : JSs X W F0 H0 Γ [] (.nx Γ) := pss_imp pss_nil fun D' σ H ⟨F, ok, q⟩ => q σ F H (Ex.refl _) ok
theorem jss_cons (h1 : JS X W F0 H0 Γ st (.nx Γ1)) (h2 : JSs X W F0 H0 Γ1 rest so) : JSs X W F0 H0 Γ (st :: rest) so :=
  pss_imp (pss_cons h1 h2) fun D' σ H ⟨F, ok, q⟩ => ⟨F, ok, fun σ' F' H' e ok' => ⟨F', ok', pso_mono e q⟩⟩
theorem jss_one (h1 : JS X W F0 H0 Γ st so) : JSs X W F0 H0 Γ [st] so := pss_one h1
/-- the rest is not reached -/
theorem jss_stop (h1 : JS X W F0 H0 Γ st so) (hs : so.stop) : JSs X W F0 H0 Γ (st :: rest) so :=
  pss_imp (pss_cons h1 pss_never) fun D' σ H ⟨F, ok, q⟩ => ⟨F, ok, pso_stop hs _ q⟩
theorem jss_nx (h : JSs X W F0 H0 Γ sts (.nx Γ1)) (l : Le Γ1 Γ') : JSs X W F0 H0 Γ sts (.nx Γ') := pss_imp h fun D' σ H ⟨F, ok, q⟩ => ⟨F, ok, fun σ' F' H' e ok' => q σ' F' H' e (ok'.le l)⟩
theorem jss_is {so' : SO} (h : JSs X W F0 H0 Γ sts so) (k : so = so') : JSs X W F0 H0 Γ sts so' := k ▸ h
theorem js_is {so' : SO} (h : JS X W F0 H0 Γ st so) (k : so = so') : JS X W F0 H0 Γ st so' := k ▸ h
/-- a list of one's own becomes data -/
theorem jss_frz (i : Nat) (g : Γ[i]? = some (.own ds)) (h : JSs X W F0 H0 (Γ.set i (.d (.list ds))) sts so) : JSs X W F0 H0 Γ sts so := pss_imp h fun D' σ H ⟨F, ok, q⟩ => by
  obtain ⟨F', e, ok'⟩ := ok.frz g
  exact ⟨F', ok', pso_mono e q⟩

/-! ### small statements -/
theorem js_expr (h : JE X W F0 H0 Γ e (.v x)) (hs : swapsWith e none pos.line X.env = pure false := by rfl) : JS X W F0 H0 Γ (.Expr e pos) (.nx Γ) :=
  ps_imp (ps_expr h hs) fun D' σ H ⟨F, ok, q⟩ => ⟨F, ok, fun v F' H' z d => q σ F' H' z.f (ok.mono z)⟩
theorem js_exprX {c : Addr} (h : JE X W F0 H0 Γ e (.x c)) (hs : swapsWith e none pos.line X.env = pure false := by rfl) : JS X W F0 H0 Γ (.Expr e pos) (.x c Γ) :=
  ps_imp (ps_expr h hs) fun D' σ H ⟨F, ok, q⟩ => ⟨F, ok, fun F' H' z => q σ F' H' z.f (ok.mono z)⟩
theorem js_ret (h : JE X W F0 H0 Γ e (.v x)) : JS X W F0 H0 Γ (.Return (some e) pos) (.rt x) :=
  ps_imp (ps_ret h) fun D' σ H ⟨F, ok, q⟩ => ⟨F, ok, fun v F' H' z d => q v F' H' z.f (ok.mono z).base d⟩
theorem js_retO (h : JE X W F0 H0 Γ e (.o ds)) : JS X W F0 H0 Γ (.Return (some e) pos) (.rto ds) :=
  ps_imp (ps_ret h) fun D' σ H ⟨F, ok, q⟩ => ⟨F, ok, fun p xs F' H' z n1 n2 n3 d => q p xs F' H' z.f (ok.mono z).base (ok.base.h.none n1) n2 n3 d⟩
theorem js_retX {c : Addr} (h : JE X W F0 H0 Γ e (.x c)) : JS X W F0 H0 Γ (.Return (some e) pos) (.x c Γ) :=
  ps_imp (ps_ret h) fun D' σ H ⟨F, ok, q⟩ => ⟨F, ok, fun F' H' z => q σ F' H' z.f (ok.mono z)⟩
theorem js_retXf {c : Addr} {f : Str} (h : JE X W F0 H0 Γ e (.xf c f x)) : JS X W F0 H0 Γ (.Return (some e) pos) (.xf c f x Γ) :=
  ps_imp (ps_ret h) fun D' σ H ⟨F, ok, q⟩ => ⟨F, ok, fun d v F' H' z n1 n2 dp => q d v σ F' H' z.f (ok.mono z) (ok.base.h.none n1) n2 dp⟩
/-- return found, found a list of one's own -/
theorem js_retOwn (k : Nat) {n : Str} {q2 : Pos} (g : Γ[k]? = some (.own ds)) (hN : X.N[k]? = some n := by rfl) (hv : Vis X.env.scope n := by first | exact Or.inl rfl | exact Or.inr (Or.inl rfl) | exact Or.inr (Or.inr rfl)) (hd : (n == ("__debug__" : Str)) = false := by decide) (hcd : (n == ("__classdict__" : Str)) = false := by decide) :
    JS X W F0 H0 Γ (.Return (some (.Name n q2)) pos) (.rto ds) :=
  ps_imp (ps_ret (pe_var hN hv hd hcd)) fun D' σ H ⟨F, ok, q⟩ => by
    obtain ⟨p, xs, e1, e2, e3, e4, e5⟩ := ok.own g
    exact ⟨_, e1, q p xs F H (Ex.refl _) ok.base e4 e2 e3 e5⟩
theorem js_set (i : Nat) {n : Str} {pos' : Pos} (hN : X.N.Nodup) (he : JE X W F0 H0 Γ e (.v x)) (hi : X.N[i]? = some n := by rfl) (hx : Loc X.env.scope n := by first | exact Or.inl rfl | exact Or.inr rfl) (hs : swapsWith e (some (.Name n pos')) pos.line X.env = pure false := by rfl) (hf : X.fn n = true ∨ X.env.scope.names.lookup n = some .local := by first | exact .inl rfl | exact .inr rfl) :
    JS X W F0 H0 Γ (.Assign [.Name n pos'] e pos) (.nx (Γ.set i (.d x))) :=
  ps_imp (ps_set hN hi hx he hs hf) fun D' σ H ⟨F, ok, q⟩ => ⟨F, ok, fun v F' H' z d => q _ F' H' z.f ((ok.mono z).set i d)⟩
theorem js_setO (i : Nat) {n : Str} {pos' : Pos} (hN : X.N.Nodup) (he : JE X W F0 H0 Γ e (.o ds)) (hi : X.N[i]? = some n := by rfl) (hx : Loc X.env.scope n := by first | exact Or.inl rfl | exact Or.inr rfl) (hs : swapsWith e (some (.Name n pos')) pos.line X.env = pure false := by rfl) (hf : X.fn n = true ∨ X.env.scope.names.lookup n = some .local := by first | exact .inl rfl | exact .inr rfl) :
    JS X W F0 H0 Γ (.Assign [.Name n pos'] e pos) (.nx (Γ.set i (.own ds))) :=
  ps_imp (ps_set hN hi hx he hs hf) fun D' σ H ⟨F, ok, q⟩ => ⟨F, ok, fun p xs F' H' z n1 n2 n3 d => q _ F' H' z.f (ok.setNew z i n1 n2 n3 d)⟩
/-- n += e, ints -/
theorem js_augAdd (i : Nat) {n : Str} {pos' : Pos} {k l : Int} (g : Γ[i]? = some (.d (.int k))) (hN : X.N.Nodup) (he : JE X W F0 H0 Γ e (.v (.int l))) (hi : X.N[i]? = some n := by rfl) (hx : Loc X.env.scope n := by first | exact Or.inl rfl | exact Or.inr rfl) (hf : X.fn n = true ∨ X.env.scope.names.lookup n = some .local := by first | exact .inl rfl | exact .inr rfl) :
    JS X W F0 H0 Γ (.AugAssign (.Name n pos') .Add e pos) (.nx (Γ.set i (.d (.int (k + l))))) :=
  ps_imp (ps_aug hN hi hx he ip_add hf) fun D' σ H ⟨F, ok, q⟩ => by
    obtain ⟨v, e1, d1⟩ := ok.at g
    cases d1
    exact ⟨_, e1, F, ok, fun v F' H' z d => by
      cases d
      exact ⟨k, l, rfl, rfl, q _ F' H' z.f ((ok.mono z).set i (.int _))⟩⟩

/-! ### tests -/
theorem js_ifT (hc : JT X F0 H0 Γ e true) (ha : JSs X W F0 H0 Γ body so) : JS X W F0 H0 Γ (.If e body orelse pos) so :=
  ps_imp (ps_if hc ha pss_never) fun D' σ H ⟨F, ok, q⟩ => ⟨F, ok, fun F1 H1 z1 => iteT ⟨F1, ok.mono z1, pso_mono z1.f q⟩⟩
theorem js_ifF (hc : JT X F0 H0 Γ e false) (hb : JSs X W F0 H0 Γ orelse so) : JS X W F0 H0 Γ (.If e body orelse pos) so :=
  ps_imp (ps_if hc pss_never hb) fun D' σ H ⟨F, ok, q⟩ => ⟨F, ok, fun F1 H1 z1 => iteF ⟨F1, ok.mono z1, pso_mono z1.f q⟩⟩
theorem js_if (hc : JT X F0 H0 Γ e p) (ha : p = true → JSs X W F0 H0 Γ body so) (hb : p = false → JSs X W F0 H0 Γ orelse so) : JS X W F0 H0 Γ (.If e body orelse pos) so := by
  cases p with
  | true => exact js_ifT hc (ha rfl)
  | false => exact js_ifF hc (hb rfl)

/-! ### methods of a list of one's own -/
theorem js_append (i : Nat) {n : Str} {np apos : Pos} (g : Γ[i]? = some (.own ds)) (hl : ds.length < 100000) (he : JE X W F0 H0 Γ e (.v x)) (hN : X.N[i]? = some n := by rfl) (hv : Vis X.env.scope n := by first | exact Or.inl rfl | exact Or.inr (Or.inl rfl) | exact Or.inr (Or.inr rfl)) (hd : (n == ("__debug__" : Str)) = false := by decide) (hcd : (n == ("__classdict__" : Str)) = false := by decide)
    {cpos : Pos} (h1 : attributeBase (.Name n np) "append" X.env (eval (.Name n np) X.env) = eval (.Name n np) X.env := by rfl)
    (h2 : ((backTo cpos (starEach [e] X.env)).all (fun x => !x.1) && (backToKw cpos (keywordEach [] X.env)).all (fun x => x.1.isSome) && decide ([e].length + ([] : List Keyword).length + (if ([] : List Keyword).isEmpty then 0 else 1) < 30)) = true := by rfl)
    (h3 : (apos.endLine == cpos.line) = true := by rfl) (h4 : starEach [e] X.env = (false, eval e X.env) :: starEach [] X.env := by rfl) (h5 : (backTo cpos (starEach [] X.env)).any (·.1) = false := by rfl)
    (hs : swapsWith (.Call (.Attribute (.Name n np) "append" apos) [e] [] cpos) none pos.line X.env = pure false := by rfl) : JS X W F0 H0 Γ (.Expr (.Call (.Attribute (.Name n np) "append" apos) [e] [] cpos) pos) (.nx (Γ.set i (.own (ds ++ [x])))) :=
  ps_imp (ps_expr (pe_bm PySem.F.plainAttrs_list PySem.F.slot_list_append PySem.F.type_list_append mt_append (pe_var hN hv hd hcd) (pa_cons he pa_nil h4) h1 h2 h3 h4 h5) hs) fun D' σ H ⟨F, ok, q⟩ => by
    obtain ⟨p, xs, e1, e2, e3, e4, e5⟩ := ok.own g
    refine ⟨_, e1, .inl ⟨rfl, _, SqL.of e2⟩, F, ok, fun v F1 H1 z1 d1 => ⟨p, xs, v, rfl, rfl, z1.h _ _ e2, ?_, ?_⟩⟩
    · rw [da_len e5]; exact Nat.lt_of_lt_of_le hl (by decide)
    · exact q σ F1 _ z1.f ((ok.mono z1).write g e1 (z1.n _ _ e3 e2) e4 (da_app (da_ex z1.f _ _ e5) (.cons d1 .nil)))
/-! ### what is walked -/
/-- J walks the data ds, once F stands -/
def ItD (K : PySem.W.Frag) (F : Hp) (J : It) (ds : List D) : Prop :=
  ∀ F1 H i, Ex F F1 → Ex F1 H → (∀ d, ds[i]? = some d → J.go i H ∧ ∀ x H', J.yld i H x H' → ∃ F2, Fz F1 H F2 H' ∧ Dp K F2 x d) ∧ (i = ds.length → J.stop i H)
def tI (K : PySem.W.Frag) (F0 H0 : Hp) (Γ : List S) (ds : List D) : TI := fun σ H R => ∃ F, Ok K F0 H0 F σ H Γ ∧ ∀ J F' H', Fz F H F' H' → ItD K F' J ds → R J H'
abbrev JI (X : Cx) (F0 H0 : Hp) (Γ : List S) (tg it : Expr) (ds : List D) : Prop := PI X tg it (tI X.K F0 H0 Γ ds)
theorem pi_imp {X : Cx} {tg e : Expr} {t t' : TI} (h : PI X tg e t) (k : ∀ σ H R, t' σ H R → t σ H R) : PI X tg e t' := ⟨fun pins s σ H R I q => h.run pins s σ H R I (k σ H R q)⟩
variable {tg it : Expr}
/-- the readings of a list agree because its yield says so: Itl's own form -/
theorem ji_list (h : JE X WF F0 H0 Γ it (.v (.list ds))) : JI X F0 H0 Γ tg it ds := pi_imp (pi_list h) fun σ H R ⟨F, ok, q⟩ => ⟨F, ok, fun v F1 H1 z1 d1 => by
  cases d1 with
  | lst g1 g2 =>
    refine ⟨_, rfl, ⟨_, sl_ex z1.s g1⟩, q _ F1 H1 z1 fun F2 H2 i e1 e2 => ?_⟩
    have h1 := sl_ex (e1.trans e2) g1
    refine ⟨fun d e => ?_, fun e => ⟨_, h1, by rw [e, da_len g2]; exact Nat.le_refl _⟩⟩
    obtain ⟨v, k1, k2⟩ := da_get g2 e
    refine ⟨⟨_, v, h1, k1⟩, fun x H' y => ?_⟩
    obtain ⟨e', y⟩ := y
    subst e'
    have k3 := y _ h1
    rw [k1] at k3
    cases k3
    exact ⟨F2, Fz.refl e2, dp_ex e1 _ _ k2⟩⟩
/-- the ints lo, lo + 1, .. -/
def rngD (lo : Int) (n : Nat) : List D := (List.range n).map fun i => .int (lo + (i : Nat))
theorem rngD_len (lo : Int) (n : Nat) : (rngD lo n).length = n := by simp [rngD]
theorem rngD_get {lo : Int} {n i : Nat} {d : D} (h : (rngD lo n)[i]? = some d) : i < n ∧ d = .int (lo + (i : Nat)) := by
  have hl := (List.getElem?_eq_some_iff.mp h).1
  rw [rngD_len] at hl
  refine ⟨hl, ?_⟩
  unfold rngD at h
  rw [List.getElem?_map, List.getElem?_range hl] at h
  exact (Option.some.inj h).symm
theorem itr_d {K : PySem.W.Frag} {F : Hp} {lo : Int} {n : Nat} : ItD K F (Itr lo n) (rngD lo n) := fun F1 H i e1 e2 => by
  refine ⟨fun d e => ?_, fun e => by rw [rngD_len] at e; exact Nat.le_of_eq e.symm⟩
  obtain ⟨h1, h2⟩ := rngD_get e
  subst h2
  refine ⟨h1, fun x H' y => ?_⟩
  obtain ⟨e1', e2'⟩ := y
  subst e1' e2'
  exact ⟨F1, Fz.refl e2, .int _⟩
theorem ji_range1 {j : Int} {np : Pos} (hm : X.mg "range" = none) (h1 : -(2 ^ 62) ≤ j) (h2 : j < 2 ^ 62) (ha : JE X WF F0 H0 Γ a (.v (.int j))) (hg : Gl X "range" := by rfl) (hs : starEach [a] X.env = [(false, eval a X.env)] := by rfl) : JI X F0 H0 Γ tg (.Call (.Name "range" np) [a] [] pos) (rngD 0 j.toNat) :=
  pi_imp (pi_range1 hg hm (ja_cons ha ja_nil hs) hs) fun σ H R ⟨F, ok, q⟩ => ⟨F, ok, fun vs F1 H1 z1 d1 => by
    cases d1 with
    | cons k1 k2 =>
      cases k1; cases k2
      exact ⟨j, rfl, h1, h2, q _ F1 H1 z1 itr_d⟩⟩
/-! ### targets -/
/-- T: how a stored datum changes the slots -/
def tG (K : PySem.W.Frag) (F0 H0 : Hp) (T : List S → D → List S → Prop) : TG := fun v σ H Q => ∃ Γ d Γ' F, T Γ d Γ' ∧ Ok K F0 H0 F σ H Γ ∧ Dp K F v d ∧ ∀ σ' F' H', Ex F F' → Fz F H F' H' → Ok K F0 H0 F' σ' H' Γ' → Q σ' H'
abbrev JG (X : Cx) (F0 H0 : Hp) (tg : Expr) (T : List S → D → List S → Prop) : Prop := PG X tg (tG X.K F0 H0 T)
theorem pg_imp {X : Cx} {tg : Expr} {t t' : TG} (h : PG X tg t) (k : ∀ v σ H Q, t' v σ H Q → t v σ H Q) : PG X tg t' := ⟨fun pins s σ H v u Q I r q => h.run pins s σ H v u Q I r (k v σ H Q q)⟩
def TN (i : Nat) : List S → D → List S → Prop := fun Γ d Γ' => Γ' = Γ.set i (.d d)
theorem jg_name (i : Nat) {n : Str} (hN : X.N.Nodup) (hi : X.N[i]? = some n := by rfl) (hx : Loc X.env.scope n := by first | exact Or.inl rfl | exact Or.inr rfl) (hf : X.fn n = true ∨ X.env.scope.names.lookup n = some .local := by first | exact .inl rfl | exact .inr rfl) : JG X F0 H0 (.Name n pos) (TN i) :=
  pg_imp (pg_name hN hi hx hf) fun v σ H Q ⟨Γ, d, Γ', F, t, ok, hd, q⟩ => by
    have t' : Γ' = Γ.set i (.d d) := t
    subst t'
    exact q _ F H (Ex.refl _) (Fz.refl ok.fh) (ok.set i hd)
/-! ### for -/
/-- how a turn may end -/
def Turns (Γn : List S) : SO → Prop
  | .nx Γ => Γ = Γn
  | .ct Γ => Γ = Γn
  | _ => False
/-- over all of ds; m turns go on, then: the end (m = all), or a turn that leaves -/
theorem js_for {T : List S → D → List S → Prop} {ds : List D} (Γs : Nat → List S) (Γt : Nat → List S) (m : Nat) (hp : PassesOwn (model X.prog X.w) X.A X.env X.xe) (hc : X.calm = true) (hi : JI X F0 H0 Γ tg it ds) (hg : JG X F0 H0 tg T) (h0 : Le Γ (Γs 0)) (hm : m ≤ ds.length)
    (ht : ∀ k d, ds[k]? = some d → k ≤ m → T (Γs k) d (Γt k)) (hb : ∀ k d, ds[k]? = some d → k < m → ∃ so, JSs X W F0 H0 (Γt k) body so ∧ Turns (Γs (k + 1)) so)
    (hl : m < ds.length → ∃ so', JSs X W F0 H0 (Γt m) body so' ∧ so'.stop ∧ (so = so' ∧ (∀ g, so' ≠ .bk g) ∧ (∀ g, so' ≠ .ct g) ∨ ∃ g, so' = .bk g ∧ so = .nx g)) (he : m = ds.length → so = .nx (Γs m))
    (hs : ∀ x, foldedSetIterable it X.env x = pure x := by intro _; rfl) : JS X W F0 H0 Γ (.For tg it body [] pos) so := by
  let tb : TS := fun D' σ H => ∃ k d so', ds[k]? = some d ∧ k ≤ m ∧ JSs X W F0 H0 (Γt k) body so' ∧ tS X.K W F0 H0 (Γt k) so' D' σ H
  have hbd : PSs X body tb := ⟨fun pins s σ H D' I ⟨k, d, so', _, _, j, t⟩ => j.run pins s σ H D' I t⟩
  refine ps_imp (ps_for hp hc hi hg hbd hs) fun D' σ H ⟨F, ok, q⟩ => ⟨F, ok, fun J F1 H1 z1 it1 => ?_⟩
  refine ⟨fun i n σ H => n = ds.length - i ∧ i ≤ m ∧ ∃ F', Ex F1 F' ∧ Ok X.K F0 H0 F' σ H (Γs i), ⟨ds.length - 0, rfl, Nat.zero_le _, F1, Ex.refl _, (ok.mono z1).le h0⟩, ?_⟩
  rintro i n σ H ⟨rfl, him, F', e', ok'⟩
  obtain ⟨go, stop⟩ := it1 F' H i e' ok'.fh
  by_cases hlt : i < ds.length
  · have hd : ds[i]? = some ds[i] := List.getElem?_eq_getElem hlt
    obtain ⟨g1, g2⟩ := go _ hd
    refine .inr ⟨g1, fun σ' H' => i < m ∧ ∃ F'', Ex F1 F'' ∧ Ok X.K F0 H0 F'' σ' H' (Γs (i + 1)), fun σ' H' ⟨h1, F'', h2, h3⟩ => ⟨ds.length - (i + 1), by omega, rfl, h1, F'', h2, h3⟩, fun x H' y => ?_⟩
    obtain ⟨F2, z2, d2⟩ := g2 x H' y
    refine ⟨Γs i, ds[i], Γt i, F2, ht i _ hd him, ok'.mono z2, d2, fun σ3 F3 H3 e3 z3 ok3 => ?_⟩
    by_cases hlm : i < m
    · obtain ⟨so', j, tn⟩ := hb i _ hd hlm
      refine ⟨i, ds[i], so', hd, him, j, F3, ok3, ?_⟩
      cases so' with
      | nx g =>
        have tn' : g = Γs (i + 1) := tn
        subst tn'
        exact fun σ4 F4 H4 e4 ok4 => ⟨hlm, F4, ((e'.trans z2.f).trans e3).trans e4, ok4⟩
      | ct g =>
        have tn' : g = Γs (i + 1) := tn
        subst tn'
        exact fun σ4 F4 H4 e4 ok4 => ⟨hlm, F4, ((e'.trans z2.f).trans e3).trans e4, ok4⟩
      | _ => exact tn.elim
    · have him' : i = m := by omega
      subst him'
      obtain ⟨so', j, hst, w⟩ := hl hlt
      refine ⟨i, ds[i], so', hd, him, j, F3, ok3, ?_⟩
      have eF : Ex F F3 := ((z1.f.trans e').trans z2.f).trans e3
      rcases w with ⟨w, nb, nc⟩ | ⟨g, w1, w2⟩
      · subst w
        have q' := pso_mono eF q
        cases so with
        | nx g => exact hst.elim
        | bk g => exact absurd rfl (nb g)
        | ct g => exact absurd rfl (nc g)
        | rt x => exact q'
        | rto x => exact q'
        | x c g => exact q'
        | rtq t => exact q'
        | xf c f x g => exact q'
      · subst w1 w2
        exact fun σ4 F4 H4 e4 ok4 => q σ4 F4 H4 (eF.trans e4) ok4
  · have e : i = ds.length := by omega
    have e2 : m = ds.length := by omega
    have e3 : i = m := by omega
    refine .inl ⟨stop e, ?_⟩
    have h1 := he e2
    subst h1
    rw [← e3] at q
    exact q σ F' H (z1.f.trans e') ok'
/-- all turns go on -/
theorem js_forAll {T : List S → D → List S → Prop} {ds : List D} (Γs : Nat → List S) (Γt : Nat → List S) (hp : PassesOwn (model X.prog X.w) X.A X.env X.xe) (hc : X.calm = true) (hi : JI X F0 H0 Γ tg it ds) (hg : JG X F0 H0 tg T) (h0 : Le Γ (Γs 0))
    (ht : ∀ k d, ds[k]? = some d → T (Γs k) d (Γt k)) (hb : ∀ k d, ds[k]? = some d → JSs X W F0 H0 (Γt k) body (.nx (Γs (k + 1)))) (hs : ∀ x, foldedSetIterable it X.env x = pure x := by intro _; rfl) : JS X W F0 H0 Γ (.For tg it body [] pos) (.nx (Γs ds.length)) :=
  js_for Γs Γt ds.length hp hc hi hg h0 (Nat.le_refl _) (fun k d e _ => ht k d e) (fun k d e _ => ⟨_, hb k d e, rfl⟩) (fun h => absurd h (Nat.lt_irrefl _)) (fun _ => rfl) hs

/-! ### while -/
theorem js_while (Γs : Nat → List S) (m : Nat) (hp : PassesOwn (model X.prog X.w) X.A X.env X.xe) (h0 : Le Γ (Γs 0)) (hc : ∀ k, k < m → JT X F0 H0 (Γs k) e true) (hb : ∀ k, k < m → JSs X W F0 H0 (Γs k) body (.nx (Γs (k + 1)))) (he : JT X F0 H0 (Γs m) e false) : JS X W F0 H0 Γ (.While e body [] pos) (.nx (Γs m)) := by
  let tc : TT := fun σ H Q => ∃ k c, JT X F0 H0 (Γs k) e c ∧ tT X.K F0 H0 (Γs k) c σ H Q
  have hct : PT X e tc := ⟨fun pins s σ H Q I ⟨k, c, j, t⟩ => j.run pins s σ H Q I t⟩
  let tb : TS := fun D' σ H => ∃ k, k < m ∧ tS X.K W F0 H0 (Γs k) (.nx (Γs (k + 1))) D' σ H
  have hbd : PSs X body tb := ⟨fun pins s σ H D' I ⟨k, hk, t⟩ => (hb k hk).run pins s σ H D' I t⟩
  refine ps_imp (ps_while hp hct hbd) fun D' σ H ⟨F, ok, q⟩ => ?_
  refine ⟨fun n σ H => n ≤ m ∧ ∃ F', Ex F F' ∧ Ok X.K F0 H0 F' σ H (Γs (m - n)), ⟨m, Nat.le_refl _, F, Ex.refl _, by rw [Nat.sub_self]; exact ok.le h0⟩, ?_⟩
  rintro n σ H ⟨hn, F', e', ok'⟩
  by_cases h : n = 0
  · subst h
    rw [Nat.sub_zero] at ok'
    exact ⟨m, false, he, F', ok', fun F2 H2 z2 => iteF (q σ F2 H2 (e'.trans z2.f) (ok'.mono z2))⟩
  · have hk : m - n < m := by omega
    refine ⟨m - n, true, hc _ hk, F', ok', fun F2 H2 z2 => iteT ⟨fun σ' H' => ∃ F'', Ex F F'' ∧ Ok X.K F0 H0 F'' σ' H' (Γs (m - n + 1)), fun σ' H' ⟨F'', h1, h2⟩ => ⟨n - 1, by omega, by omega, F'', h1, ?_⟩, m - n, hk, F2, ok'.mono z2, fun σ4 F4 H4 e4 ok4 => ⟨F4, (e'.trans z2.f).trans e4, ok4⟩⟩⟩
    have e1 : m - (n - 1) = m - n + 1 := by omega
    rw [e1]
    exact h2
end
end TB

namespace TB
open PySem L2

/-- the block of a comprehension -/
abbrev Bk (X : Cx) (s : Shared) (H : Hp) (scope : Scope) (C : Addr) (cl : List (Str × Addr)) (fp : List Addr) : Cx := X.blk s H scope (compEnvC scope cl C X.env) fp

section
variable {X : Cx} {W : WX} {F0 H0 : Hp} {Γ : List S} {e elt it : Expr} {pos py : Pos} {n : Str} {ds : List D} {scope : Scope} {i : Nat}

end

/-! ### a def -/
/-- does the body's end fit the promise -/
def Fits : Out → SO → Prop
  | .v x, .rt y => x = y
  | .v x, .nx _ => x = .none
  | .v x, .rto es => x = .list es
  | .o ds, .rto es => ds = es
  | .x c, .x c' _ => c = c'
  | .q t, .rtq t' => t = t'
  | .xf c f x, .xf c' f' x' _ => c = c' ∧ f = f' ∧ x = x'
  | _, _ => False
def begin_ (N : List Str) (ds : List D) : List S := ds.map S.d ++ List.replicate (N.length - ds.length) S.u
theorem ok_start {K : PySem.W.Frag} {F H : Hp} {N : List Str} {vs : List V} {ds : List D} (s : Ex F H) (d : DpAll K F vs ds) : Ok K F H F (L2.start N vs) H (begin_ N ds) := by
  have hl := da_len d
  refine ⟨List.replicate (begin_ N ds).length [], Fz.refl s, by unfold L2.start begin_; simp [hl], by rw [List.length_replicate], fun i t fp e e2 => ?_, fun i j f g a e1 e2 m1 m2 => ?_⟩
  · have := (List.mem_replicate.mp (List.mem_of_getElem? e2)).2
    subst this
    unfold begin_ at e
    unfold L2.start
    by_cases h : i < ds.length
    · rw [List.getElem?_append_left (by rw [List.length_map]; exact h), List.getElem?_map] at e
      rw [List.getElem?_append_left (by rw [List.length_map, hl]; exact h), List.getElem?_map]
      cases q : ds[i]? with
      | none => rw [q] at e; cases e
      | some x =>
        rw [q] at e
        cases e
        obtain ⟨v, k1, k2⟩ := da_get d q
        rw [k1]
        exact ⟨k2, rfl⟩
    · rw [List.getElem?_append_right (by rw [List.length_map]; omega)] at e
      have := List.mem_of_getElem? e
      rw [(List.mem_replicate.mp this).2]
      cases (vs.map some ++ List.replicate (N.length - vs.length) none)[i]? with
      | none => rfl
      | some o => cases o <;> rfl
  · have := (List.mem_replicate.mp (List.mem_of_getElem? e1)).2
    subst this
    cases m1
section
variable {P : Program} {w : World} {K : PySem.W.Frag} {mg : Str → Option Value} {base : Heap}
abbrev XO (P : Program) (w : World) (K : PySem.W.Frag) (mg : Str → Option Value) (base : Heap) (N : List Str) (qual : Str) (st : Stmt) (f : Addr) (cdv : Value) (A : Around) (outer : List Env) (s : Shared) (H : Hp) (E : XK) : Cx := cxOf (L2.CX P w) P w K mg base N qual (defScope st) f cdv A outer s H E
/-- a body's end fits what is asked behind the call -/
theorem fits_po {F H : Hp} {Q : VK} {E : XK} {o : Out} {so : SO} {D' : Ends} {W : WX} (po : Po K F H Q E o) (ft : Fits o so) (h1 : ∀ v H', Q v H' → D'.rt v H' := by exact fun _ _ h => h) (h2 : ∀ σ H', Q .non H' → D'.nx σ H' := by exact fun _ _ h => h) (h3 : ∀ c d σ H', E c d H' → W c d σ H' := by exact fun _ _ _ _ h => h) : PSo K W F H F D' so := by
  cases o with
  | v x =>
    cases so with
    | nx g =>
      have ft' : x = .none := ft
      subst ft'
      exact fun σ' F' H' e ok => h2 _ _ (po _ F' H' ok.base .non)
    | rt y =>
      have ft' : x = y := ft
      subst ft'
      exact fun v F' H' e z d => h1 _ _ (po v F' H' z d)
    | rto es =>
      have ft' : x = .list es := ft
      subst ft'
      intro p xs F' H' e z n1 n2 n3 d
      obtain ⟨k1, k2⟩ := Fz.freeze z.s n2 n3
      refine h1 _ _ (po (.ref p) (upd F' p (.lst xs)) H' ⟨z.f.trans k1, z.h, k2, fun c o c1 c2 => ?_⟩ (.lst (SqL.of upd_same) (da_ex k1 _ _ d)))
      have ne : c ≠ p := ne_of_none c2 n1
      rw [upd_ne ne]
      exact z.n c o c1 c2
    | _ => exact (show False from ft).elim
  | o ds =>
    cases so with
    | rto es =>
      have ft' : ds = es := ft
      subst ft'
      exact fun p xs F' H' e z n1 n2 n3 d => h1 _ _ (po p xs F' H' z n1 n2 n3 d)
    | _ => exact (show False from ft).elim
  | x c =>
    cases so with
    | x c' g =>
      have ft' : c = c' := ft
      subst ft'
      exact fun σ' F' H' e ok => h3 _ _ _ _ (po F' H' ok.base)
    | _ => exact (show False from ft).elim
  | q t =>
    cases so with
    | rtq t' =>
      have ft' : t = t' := ft
      subst ft'
      exact fun v fp F' H' e z o nd n => h1 _ _ (po v fp F' H' z o nd n)
    | _ => exact (show False from ft).elim
  | xf c f x =>
    cases so with
    | xf c' f' x' g =>
      obtain ⟨e1, e2, e3⟩ : c = c' ∧ f = f' ∧ x = x' := ft
      subst e1 e2 e3
      exact fun d v σ' F' H' e ok n1 n2 dp => h3 _ _ _ _ (po d v F' H' ok.base n1 n2 dp)
    | _ => exact (show False from ft).elim
theorem fn_ok {x qual : Str} {st : Stmt} {f : Addr} {fd : FuncData} {N ps : List Str} {k : Nat} {R : List D → Out → Prop} (Fn : Fun K x qual st f fd) (Sc : FnScope N ps (defScope st)) (hlen : ∀ ds o, R ds o → ds.length = ps.length)
    (hb : ∀ (cdv : Value) (A : Around) (outer : List Env) (s : Shared) (H : Hp) (E : XK) (F : Hp) (ds : List D) (o : Out), Room k (A.deeper (PyProof.Rows.envOfC qual (defScope st) s.heap.objs.size f cdv)) →
      L2.Takes (XO P w K mg base N qual st f cdv A outer s H E) (fun cls d _ H => E cls d H) → PassesOwn (model P w) (XO P w K mg base N qual st f cdv A outer s H E).A (XO P w K mg base N qual st f cdv A outer s H E).env (XO P w K mg base N qual st f cdv A outer s H E).xe → R ds o →
      ∃ so, JSs (XO P w K mg base N qual st f cdv A outer s H E) (fun cls d _ H => E cls d H) F H (begin_ N ds) (defBody st) so ∧ Fits o so) : FnOk P w K mg base (L2.CX P w) (k + 1) f fd ps (spD K R) := by
  refine Fn.okX Sc (fun vs H Q E ⟨F, ds, o, _, d, r, _⟩ => (da_len d).trans (hlen ds o r)) fun cdv A outer s H vs Q E hr ⟨F, ds, o, s1, d, r, po⟩ => ?_
  obtain ⟨so, j, ft⟩ := hb cdv A outer s H E F ds o hr (takes_of rfl rfl rfl rfl) (passes_of (E₁ := fun e' s'' => L2.CX P w outer H s E e' s'') rfl) r
  refine ⟨_, j, F, ok_start s1 d, ?_⟩
  exact fits_po po ft
end
/-! ### raise -/
/-- what of the text an own error class must have -/
structure ExF (K : PySem.W.Frag) (mg : Str → Option Value) (n : Str) (C : Addr) : Prop where
  g : mg n = some (.ref C)
  x : PySem.W.excIn K C [.type "ValueError", .type "Exception", .type "BaseException", .type "object"] "ValueError.__new__" = true
  k : PySem.W.keepIn K (.ref C) = true
  b : PySem.W.subIn K (.ref C) (.type "BaseException") = some true
  t : PySem.W.typeIn K (.ref C) = some (.type "type")
theorem js_raise {X : Cx} {W : WX} {F0 H0 : Hp} {Γ : List S} {n m : Str} {C : Addr} {j : Nat} {p p2 pos pos2 : Pos} (T : ExF X.K X.mg n C) (hc : X.calm = true) (tk : L2.Takes X W) (hg : Gl X n := by rfl) (hdb : (n == ("__debug__" : Str)) = false := by decide) :
    JS X W F0 H0 Γ (.Raise (some (.Call (.Name n p) [.Constant (.str m) j p2] [] pos)) none pos2) (.x C Γ) :=
  ps_imp (ps_raise hc tk (pmk_own PySem.F.excBase_ValueError T.x T.g T.k (raises_own T.b T.t) hg hdb)) fun D' σ H ⟨F, ok, q⟩ => q σ F H (Ex.refl _) ok
end TB

namespace TB
open PySem PySem.Spec PyProof.Rows L2

/-! ### {elt for n in it}, elt an int: the new set is tracked as SetO -/
section
variable {X : Cx}
end
/-- how many different ones -/
def cntR : List Int → Nat
  | [] => 0
  | x :: xs => if x ∈ xs then cntR xs else cntR xs + 1
section
variable {X : Cx} {W : WX} {F0 H0 : Hp} {Γ : List S} {elt it : Expr} {pos pos2 py : Pos} {n : Str} {ds : List D} {scope : Scope} {np : Pos}
end
end TB
namespace TB
open PySem L2
section
variable {X : Cx} {W : WX} {F0 H0 : Hp} {Γ : List S} {elt it a b e : Expr} {pos pos2 py : Pos} {n : Str} {ns : List Int} {scope : Scope} {np : Pos} {i j : Int}
/-- ints compared -/
theorem rd_eqI {K : PySem.W.Frag} : RD K rEq (.int i) (.int j) (.bool (decide (i = j))) := fun v u F H Q s d1 d2 q => by
  cases d1; cases d2
  refine ⟨rfl, ?_⟩
  have e : decide (V.int i = V.int j) = decide (i = j) := by rw [dec_int, Bool.beq_eq_decide_eq]
  rw [e]
  exact q _ F H (Fz.refl s) (.bl _)
theorem je_eqI (ha : JE X W F0 H0 Γ a (.v (.int i))) (hb : JE X W F0 H0 Γ b (.v (.int j))) : JE X W F0 H0 Γ (.Compare a [.Eq] [b] pos) (.v (.bool (decide (i = j)))) := je_cmp op_eq rd_eqI ha hb (nomark _)
theorem jt_eqI (ha : JE X WF F0 H0 Γ a (.v (.int i))) (hb : JE X WF F0 H0 Γ b (.v (.int j))) : JT X F0 H0 Γ (.Compare a [.Eq] [b] pos) (decide (i = j)) := jt_cmp op_eq rd_eqI ha hb (nomark _)
theorem jt_lt (ha : JE X WF F0 H0 Γ a (.v (.int i))) (hb : JE X WF F0 H0 Γ b (.v (.int j))) : JT X F0 H0 Γ (.Compare a [.Lt] [b] pos) (decide (i < j)) := jt_cmp op_lt rd_B0 ha hb (nomark _)
theorem jt_gt (ha : JE X WF F0 H0 Γ a (.v (.int i))) (hb : JE X WF F0 H0 Γ b (.v (.int j))) : JT X F0 H0 Γ (.Compare a [.Gt] [b] pos) (decide (j < i)) := jt_cmp op_gt rd_B0 ha hb (nomark _)
theorem jt_ge (ha : JE X WF F0 H0 Γ a (.v (.int i))) (hb : JE X WF F0 H0 Γ b (.v (.int j))) : JT X F0 H0 Γ (.Compare a [.GtE] [b] pos) (decide (j ≤ i)) := jt_cmp op_ge rd_B0 ha hb (nomark _)
theorem je_eqD {x y : D} (hu : X.A.units + 64 < cLine) (h1 : SeqAt.shaped x = true) (h2 : SeqAt.shaped y = true) (ha : JE X W F0 H0 Γ a (.v x)) (hb : JE X W F0 H0 Γ b (.v y)) : JE X W F0 H0 Γ (.Compare a [.Eq] [b] pos) (.v (.bool (PyData.eqv x y))) := je_cmp (op_eqD hu) (rd_eq h1 h2) ha hb (nomark _)
theorem jt_neD {x y : D} (hu : X.A.units + 64 < cLine) (h1 : SeqAt.shaped x = true) (h2 : SeqAt.shaped y = true) (ha : JE X WF F0 H0 Γ a (.v x)) (hb : JE X WF F0 H0 Γ b (.v y)) : JT X F0 H0 Γ (.Compare a [.NotEq] [b] pos) (!PyData.eqv x y) := jt_cmp (op_neD hu) (rd_ne h1 h2) ha hb (nomark _)
end
/-- four ints as a tuple, as a list -/
abbrev ti (ns : List Int) : D := .tuple (ns.map .int)
abbrev li (ns : List Int) : D := .list (ns.map .int)
theorem lay_ints : ∀ ns : List Int, PyData.canLayAll0 (ns.map .int) = true ∧ PyData.depthAll (ns.map .int) ≤ 1
  | [] => by simp [PyData.canLayAll0, PyData.depthAll]
  | n :: ns => by
    have := lay_ints ns
    simp only [List.map_cons, PyData.canLayAll0, PyData.canLay0, PyData.depthAll, PyData.depth, this.1]
    refine ⟨rfl, ?_⟩
    have h2 := this.2
    omega
end TB
namespace TB
open PySem L2
/-- a def of the text, where the top has left it -/
structure FnAt (K : PySem.W.Frag) (mg : Str → Option Value) (n : Str) (st : Stmt) (ps : List Str) : Prop where
  ex : ∃ f fd, Fun K n n st f fd ∧ mg n = some (.ref f) ∧ Binds K fd ps []
/-- a def that keeps its promise -/
structure Cal (P : Program) (w : World) (K : PySem.W.Frag) (mg : Str → Option Value) (base : Heap) (k : Nat) (n : Str) (ps : List Str) (R : List D → Out → Prop) : Prop where
  ex : ∃ f fd, FnOk P w K mg base (L2.CX P w) k f fd ps (spD K R) ∧ mg n = some (.ref f) ∧ PySem.W.keepIn K (.ref f) = true ∧ Binds K fd ps []
theorem cal_mk {P : Program} {w : World} {K : PySem.W.Frag} {mg : Str → Option Value} {base : Heap} {n : Str} {st : Stmt} {N ps : List Str} {k : Nat} {R : List D → Out → Prop} (A0 : FnAt K mg n st ps) (Sc : FnScope N ps (defScope st)) (hlen : ∀ ds o, R ds o → ds.length = ps.length)
    (hb : ∀ (f : Addr) (cdv : Value) (A : Around) (outer : List Env) (s : Shared) (H : Hp) (E : XK) (F : Hp) (ds : List D) (o : Out), Room k (A.deeper (PyProof.Rows.envOfC n (defScope st) s.heap.objs.size f cdv)) →
      L2.Takes (XO P w K mg base N n st f cdv A outer s H E) (fun cls d _ H => E cls d H) → PassesOwn (model P w) (XO P w K mg base N n st f cdv A outer s H E).A (XO P w K mg base N n st f cdv A outer s H E).env (XO P w K mg base N n st f cdv A outer s H E).xe → R ds o →
      ∃ so, JSs (XO P w K mg base N n st f cdv A outer s H E) (fun cls d _ H => E cls d H) F H (begin_ N ds) (defBody st) so ∧ Fits o so) : Cal P w K mg base (k + 1) n ps R := by
  obtain ⟨f, fd, Fn, hm, hb'⟩ := A0.ex
  exact ⟨f, fd, fn_ok Fn Sc hlen (hb f), hm, Fn.kp, hb'⟩
section
variable {X : Cx} {W : WX} {F0 H0 : Hp} {Γ : List S} {e : Expr} {es : List Expr} {pos np : Pos} {n : Str} {ds : List D} {o : Out} {k : Nat} {ps : List Str} {R : List D → Out → Prop}
theorem je_callC (C : Cal X.prog X.w X.K X.mg X.base k n ps R) (hR : R ds o) (hr : Room k X.A) (tk : L2.Takes X W) (ha : JA X F0 H0 Γ (e :: es) ds)
    (hg : Gl X n := by rfl) (hdb : (n == ("__debug__" : Str)) = false := by decide) (he : starEach (e :: es) X.env = (false, eval e X.env) :: starEach es X.env := by rfl) (hpl : (backTo pos (starEach es X.env)).any (·.1) = false := by rfl) : JE X W F0 H0 Γ (.Call (.Name n np) (e :: es) [] pos) o := by
  obtain ⟨f, fd, G, hm, hk, hb⟩ := C.ex
  exact je_call tk G hr hm hk hb ha hR hg hdb he hpl
end
/-- the law's own promise -/
def R_law : List D → Out → Prop := fun ds o => ∃ ns : List Int, ds = [li ns] ∧ ns.length ≤ 63 ∧ o = .v (.bool true)
theorem law_walk {l : PySem.W.OpenLaw} {q : Program} {loose : List Str} {XP : (Str → Option Value) → Heap → Prop} {YP : World → Heap → Prop} {d : DefRec} {K : Params → PySem.W.Frag} {k : Nat} (hn : l.most = some 63) (hdf : d.params.defaults = []) (hr : Room k callerA)
    (hY : ∀ (w : World) (h : Heap), YP w h → (K w.params).In h)
    (F : ∀ (w : World) (mg : Str → Option Value) (fa : Addr) (h : Heap), (K w.params).In h → h.Ns mainGlobals mg → mg d.name = some (.ref fa) →
      ∃ fd : FuncData, (∀ (s : Shared) (u : Value), BindsTo s fd ⟨[u], []⟩ [("script", u)]) ∧ ∀ base : Heap, (K w.params).In base → base.Ns mainGlobals mg → FnOk l.prog w (K w.params) mg base (L2.CX l.prog w) k fa fd ["script"] (spD (K w.params) R_law)) :
    PySem.W.WalkO q loose XP YP l.row.toRowW d [] (fun f vs => PySem.call f vs) :=
  L2.walk_of (n := 63) (k := k) (x := "script") (CX := fun w => L2.CX l.prog w) (sp := fun w => spD (K w.params) R_law) hn (by decide) hdf hr hY F
    (fun w H a ns hl _ hS => ⟨H, [li ns], _, Ex.refl _, .cons (.lst hS (da_of_ints ns)) .nil, ⟨ns, rfl, hl, rfl⟩, fun v F' H' _ dp => by cases dp; rfl⟩)
    fun _ _ _ _ _ z => by
      obtain ⟨_, _, _, _, _, _, _, _, _, _, _, _, z⟩ := z
      exact z.elim
end TB

namespace TB
open PySem L2
section
variable {X : Cx} {W : WX} {F0 H0 : Hp} {Γ : List S} {e elt it a b : Expr} {pos py pz tp : Pos} {n n2 : Str} {scope : Scope} {i j kk : Nat} {ps : List (D × D)} {xs ys : List D}

end
end TB

namespace TB
open PySem L2
/-- a tuple or a list of ints -/
def Seq (d : D) (ns : List Int) : Prop := d = ti ns ∨ d = li ns
theorem Seq.t (ns : List Int) : Seq (ti ns) ns := .inl rfl
theorem Seq.l (ns : List Int) : Seq (li ns) ns := .inr rfl
section
variable {X : Cx} {W : WX} {F0 H0 : Hp} {Γ Γ1 : List S} {e elt it a b tg : Expr} {pos py pz tp : Pos} {n n2 : Str} {scope : Scope} {i j kk : Nat} {ns ms : List Int} {d d2 : D} {np : Pos} {sts : List Stmt} {so : SO}
end
/-- the doubled parts of a number -/
def isNum (ns : List Int) : Bool := decide ((ns.length : Int) = 4) && decide (((cntR (ns.map (· % 2)).reverse : Nat) : Int) = 1)
def Par (a b c d : Int) : Prop := b % 2 = a % 2 ∧ c % 2 = a % 2 ∧ d % 2 = a % 2
theorem isNum4 (a b c d : Int) : isNum [a, b, c, d] = true ↔ Par a b c d := by
  have ha := Int.emod_two_eq a
  have hb := Int.emod_two_eq b
  have hc := Int.emod_two_eq c
  have hd := Int.emod_two_eq d
  unfold isNum Par
  simp only [List.map_cons, List.map_nil, List.reverse_cons, List.reverse_nil, List.nil_append, List.cons_append, List.length_cons, List.length_nil]
  rcases ha with ha | ha <;> rcases hb with hb | hb <;> rcases hc with hc | hc <;> rcases hd with hd | hd <;> rw [ha, hb, hc, hd] <;> simp [cntR]
theorem isNum_of {a b c d : Int} (h : Par a b c d) : isNum [a, b, c, d] = true := (isNum4 a b c d).mpr h
theorem num_cases {ns : List Int} (h : isNum ns = true) : ∃ a b c d, ns = [a, b, c, d] ∧ Par a b c d := by
  have hl : ns.length = 4 := by
    unfold isNum at h
    rw [Bool.and_eq_true, decide_eq_true_eq] at h
    omega
  match ns, hl with
  | [a, b, c, d], _ => exact ⟨a, b, c, d, rfl, (isNum4 a b c d).mp h⟩
/-- parts of up to half a million bits -/
def Sm (n : Nat) (ns : List Int) : Prop := ∀ x ∈ ns, Bt n x
theorem cm {x y : Int} {a b : Nat} (ha : Bt a x) (hb : Bt b y) (h0 : 0 < a := by decide) (h1 : 0 < b := by decide) (h : a + b ≤ 1000000 := by decide) : CMulW x y := wide_mul ha hb h0 h1 h
theorem Bt.mono {a b : Nat} {x : Int} (h : Bt a x) (l : a ≤ b) : Bt b x := Nat.lt_of_lt_of_le h (Nat.pow_le_pow_right (by decide) l)
theorem Bt.neg {a : Nat} {x : Int} (h : Bt a x) : Bt a (-x) := by
  unfold Bt at h ⊢
  rw [Int.natAbs_neg]
  exact h
theorem Bt.add {a b : Nat} {x y : Int} (h : Bt a x) (g : Bt b y) : Bt (max a b + 1) (x + y) := by
  have h' := h.mono (Nat.le_max_left a b)
  have g' := g.mono (Nat.le_max_right a b)
  unfold Bt at h' g' ⊢
  have := Int.natAbs_add_le x y
  rw [Nat.pow_succ]
  omega
theorem Bt.sub {a b : Nat} {x y : Int} (h : Bt a x) (g : Bt b y) : Bt (max a b + 1) (x - y) := by
  rw [Int.sub_eq_add_neg]
  exact h.add g.neg
theorem Bt.mul {a b : Nat} {x y : Int} (h : Bt a x) (g : Bt b y) : Bt (a + b) (x * y) := wide_lt h g
theorem Bt.half {a : Nat} {x : Int} (h : Bt a x) : Bt a (x / 2) := by
  unfold Bt at h ⊢
  omega
theorem Bt.zero : Bt 1 0 := by unfold Bt; decide
def R2 (c : Addr) (g : List Int → List Int → D) : List D → Out → Prop := fun ds o => ∃ d e ns ms, ds = [d, e] ∧ ((d = ti ns ∧ e = ti ms) ∨ (d = li ns ∧ e = li ms)) ∧ ns.length < 1000 ∧ ms.length < 1000 ∧ Sm 400000 ns ∧ Sm 400000 ms ∧ o = if isNum ns = true ∧ isNum ms = true then .v (g ns ms) else .x c
/-- the law's draws -/
def absI (c : Int) : Int := if c < 0 then -c else c
def mixS (c : Int) : Nat → Int
  | 0 => (absI c * 48271 + 69621) % 2147483647
  | k + 1 => (mixS c k * 16807 + 271 * (0 + (k : Nat) + 3)) % 2147483629
def bigC (c : Int) : Bool := decide (10 ^ (18 : Int).toNat ≤ absI c)
def restS (c : Int) : Nat → Int
  | 0 => absI c
  | k + 1 => if bigC c = true then restS c k / 1009 else restS c k
def rowV (c : Int) (k : Nat) : Int := if bigC c = true then restS c k % 1009 else mixS c (k + 1) / 7 % 1009
def lawRow (c : Int) (m : Nat) : List Int := (List.range m).map (rowV c)
theorem rowV_in (c : Int) (k : Nat) : 0 ≤ rowV c k ∧ rowV c k < 1009 := by
  unfold rowV
  split <;> omega
/-- the cells' rows, filled up with zeros, cut -/
def lawNums (cells : List Int) (m : Nat) : List Int := ((cells.flatMap fun c => lawRow c (1 + m / (max 1 cells.length))) ++ List.replicate m 0).take m
def Drawn (m : Nat) (ns : List Int) : Prop := ns.length = m ∧ ∀ x ∈ ns, 0 ≤ x ∧ x < 1009
theorem lawNums_ok (cells : List Int) (m : Nat) : Drawn m (lawNums cells m) := by
  constructor
  · unfold lawNums
    rw [List.length_take, List.length_append, List.length_replicate]
    omega
  · intro x hx
    have := List.mem_of_mem_take hx
    rw [List.mem_append] at this
    rcases this with h | h
    · obtain ⟨c, _, h2⟩ := List.mem_flatMap.mp h
      unfold lawRow at h2
      obtain ⟨k, _, rfl⟩ := List.mem_map.mp h2
      exact rowV_in c k
    · rw [(List.mem_replicate.mp h).2]
      omega
end TB
namespace TB
open PySem L2
theorem at_ints {ns : List Int} {i : Nat} {z : Int} (hz : z = (i : Int)) (h : i < ns.length) : atI (ns.map PyData.int) z = some (.int (ns.getD i 0)) := by
  subst hz
  refine atI_nat ?_
  rw [List.getElem?_map, List.getElem?_eq_getElem h, List.getD_eq_getElem?_getD, List.getElem?_eq_getElem h]
  rfl
/-- a drawn part -/
def choiceV (ns : List Int) (p : Nat) : Nat := (ns.getD p 0 % 6).toNat
def stepV (ns : List Int) (p : Nat) : Nat → Int
  | 0 => ns.getD (p + 1) 0 % ([2, 4, 8, 40, 1009, 1009] : List Int).getD (choiceV ns p) 0
  | k + 1 => stepV ns p k * 1009 + ns.getD (p + 2 + k) 0
def partV (ns : List Int) (p : Nat) : Int :=
  if ns.getD p 0 / 6 % 2 = 1 then 0 - stepV ns p (([0, 0, 0, 0, 0, 8] : List Int).getD (choiceV ns p) 0).toNat else stepV ns p (([0, 0, 0, 0, 0, 8] : List Int).getD (choiceV ns p) 0).toNat
def In9 (ns : List Int) : Prop := ∀ x ∈ ns, (0 : Int) ≤ x ∧ x < 1009
theorem In9.get {ns : List Int} (h : In9 ns) (i : Nat) : 0 ≤ ns.getD i 0 ∧ ns.getD i 0 < 1009 := by
  rw [List.getD_eq_getElem?_getD]
  cases q : ns[i]? with
  | none => exact ⟨by decide, by decide⟩
  | some x => exact h x (List.mem_of_getElem? q)
theorem choice_lt {ns : List Int} (h : In9 ns) (p : Nat) : choiceV ns p < 6 := by
  unfold choiceV
  have := h.get p
  omega
theorem mod_pos6 : ∀ j, j < 6 → 0 < ([2, 4, 8, 40, 1009, 1009] : List Int).getD j 0 ∧ ([2, 4, 8, 40, 1009, 1009] : List Int).getD j 0 ≤ 1009 := by decide
theorem rep_6 : ∀ j, j < 6 → 0 ≤ ([0, 0, 0, 0, 0, 8] : List Int).getD j 0 ∧ ([0, 0, 0, 0, 0, 8] : List Int).getD j 0 ≤ 8 := by decide
theorem stepV_in {ns : List Int} (h : In9 ns) (p : Nat) : ∀ k, 0 ≤ stepV ns p k ∧ stepV ns p k < 1009 ^ (k + 1)
  | 0 => by
    have h1 := mod_pos6 _ (choice_lt h p)
    have h2 := Int.emod_nonneg (ns.getD (p + 1) 0) (show ([2, 4, 8, 40, 1009, 1009] : List Int).getD (choiceV ns p) 0 ≠ 0 by omega)
    have h3 := Int.emod_lt_of_pos (ns.getD (p + 1) 0) h1.1
    refine ⟨h2, ?_⟩
    show ns.getD (p + 1) 0 % _ < 1009 ^ 1
    omega
  | k + 1 => by
    have ih := stepV_in h p k
    have h1 := h.get (p + 2 + k)
    show 0 ≤ stepV ns p k * 1009 + _ ∧ stepV ns p k * 1009 + _ < 1009 ^ (k + 1 + 1)
    have e : (1009 : Int) ^ (k + 1 + 1) = 1009 ^ (k + 1) * 1009 := Int.pow_succ ..
    rw [e]
    omega
theorem partV_bt {ns : List Int} (h : In9 ns) (p : Nat) : Bt 91 (partV ns p) := by
  have key : ∀ j : Nat, j ≤ 8 → Bt 91 (stepV ns p j) := fun j hj => by
    have h1 := stepV_in h p j
    have h2 : (1009 : Int) ^ (j + 1) ≤ 1009 ^ 9 := by
      have : ∀ j : Fin 9, (1009 : Int) ^ (j.val + 1) ≤ 1009 ^ 9 := by decide
      exact this ⟨j, by omega⟩
    have h3 : (1009 : Int) ^ 9 < 2 ^ 91 := by decide
    unfold Bt
    omega
  have h2 := rep_6 _ (choice_lt h p)
  have h3 := key (([0, 0, 0, 0, 0, 8] : List Int).getD (choiceV ns p) 0).toNat (by omega)
  unfold partV
  split
  · rw [Int.zero_sub]
    exact h3.neg
  · exact h3
/-- a drawn number -/
def numV (ns : List Int) (p : Nat) : List Int := (List.range 4).map fun k => 2 * partV ns (p + 1 + 10 * k) + ns.getD p 0 % 2
theorem numV_num (ns : List Int) (p : Nat) : isNum (numV ns p) = true := by
  show isNum [_, _, _, _] = true
  refine isNum_of ⟨?_, ?_, ?_⟩ <;> (dsimp only; omega)
theorem numV_bt {ns : List Int} (h : In9 ns) (p : Nat) : Sm 100 (numV ns p) := by
  intro x hx
  unfold numV at hx
  obtain ⟨k, _, rfl⟩ := List.mem_map.mp hx
  have h1 := partV_bt h (p + 1 + 10 * k)
  unfold Bt at h1 ⊢
  omega
theorem Sm.mono {a b : Nat} {ns : List Int} (h : Sm a ns) (l : a ≤ b) : Sm b ns := fun x hx => (h x hx).mono l
/-! what the program's defs give, by lists of parts -/
def conjL : List Int → List Int
  | [a, b, c, d] => [a, -b, -c, -d]
  | _ => []
def mulL : List Int → List Int → List Int
  | [a, b, c, d], [e, f, g, h] => [(a * e - b * f - c * g - d * h) / 2, (a * f + b * e + c * h - d * g) / 2, (a * g - b * h + c * e + d * f) / 2, (a * h + b * g - c * f + d * e) / 2]
  | _, _ => []
def normL (ns : List Int) : Int := (ns.map fun p => p * p).sum / 4
def addL (ns ms : List Int) : List Int := (ns.zip ms).map fun p => p.1 + p.2
def subL (ns ms : List Int) : List Int := (ns.zip ms).map fun p => p.1 - p.2
def timesL (m : Int) (ns : List Int) : List Int := ns.map fun p => p * m
theorem four {ns : List Int} (h : ns.length = 4) : ∃ a b c d, ns = [a, b, c, d] := by
  match ns, h with
  | [a, b, c, d], _ => exact ⟨a, b, c, d, rfl⟩
theorem num_len {ns : List Int} (h : isNum ns = true) : ns.length = 4 := by
  obtain ⟨a, b, c, d, rfl, _⟩ := num_cases h
  rfl
end TB

namespace TB
/-! ### the mathematics of products -/
/-- p is the product of x and y, told by twice its parts -/
def Pr (a b c d e f g h p q r s : Int) : Prop :=
  2 * p = a * e - b * f - c * g - d * h ∧ 2 * q = a * f + b * e + c * h - d * g ∧ 2 * r = a * g - b * h + c * e + d * f ∧ 2 * s = a * h + b * g - c * f + d * e
theorem mul_pr {a b c d e f g h : Int} (k : Par a b c d) (l : Par e f g h) : ∃ p q r s, Pr a b c d e f g h p q r s ∧ Par p q r s ∧ mulL [a, b, c, d] [e, f, g, h] = [p, q, r, s] := by
  obtain ⟨k1, k2, k3⟩ := k
  obtain ⟨l1, l2, l3⟩ := l
  have key : ∀ (A B C D' E F G H u v : Int), (u = 0 ∨ u = 1) → (v = 0 ∨ v = 1) → a = 2 * A + u → b = 2 * B + u → c = 2 * C + u → d = 2 * D' + u → e = 2 * E + v → f = 2 * F + v → g = 2 * G + v → h = 2 * H + v →
      ∃ p q r s, Pr a b c d e f g h p q r s ∧ Par p q r s := by
    intro A B C D' E F G H u v hu hv ha hb hc hd he hf hg hh
    subst ha hb hc hd he hf hg hh
    refine ⟨2 * (A * E - B * F - C * G - D' * H) + v * (A - B - C - D') + u * (E - F - G - H) - u * v, 2 * (A * F + B * E + C * H - D' * G) + v * (A + B + C - D') + u * (F + E + H - G) + u * v,
      2 * (A * G - B * H + C * E + D' * F) + v * (A - B + C + D') + u * (G - H + E + F) + u * v, 2 * (A * H + B * G - C * F + D' * E) + v * (A + B - C + D') + u * (H + G - F + E) + u * v, ⟨by grind, by grind, by grind, by grind⟩, ?_⟩
    unfold Par
    rcases hu with rfl | rfl <;> rcases hv with rfl | rfl <;> refine ⟨?_, ?_, ?_⟩ <;> omega
  obtain ⟨p, q, r, s, hp, hq⟩ := key (a / 2) (b / 2) (c / 2) (d / 2) (e / 2) (f / 2) (g / 2) (h / 2) (a % 2) (e % 2) (by omega) (by omega) (by omega) (by omega) (by omega) (by omega) (by omega) (by omega) (by omega) (by omega)
  refine ⟨p, q, r, s, hp, hq, ?_⟩
  obtain ⟨h1, h2, h3, h4⟩ := hp
  show [_, _, _, _] = [p, q, r, s]
  rw [← h1, ← h2, ← h3, ← h4]
  simp
theorem num_mul {x y : List Int} (hx : isNum x = true) (hy : isNum y = true) : isNum (mulL x y) = true := by
  obtain ⟨a, b, c, d, rfl, k⟩ := num_cases hx
  obtain ⟨e, f, g, h, rfl, l⟩ := num_cases hy
  obtain ⟨p, q, r, s, _, k2, e2⟩ := mul_pr k l
  rw [e2]
  exact isNum_of k2
theorem num_conj {x : List Int} (hx : isNum x = true) : isNum (conjL x) = true := by
  obtain ⟨a, b, c, d, rfl, k1, k2, k3⟩ := num_cases hx
  exact isNum_of ⟨by omega, by omega, by omega⟩
theorem num_add {x y : List Int} (hx : isNum x = true) (hy : isNum y = true) : isNum (addL x y) = true := by
  obtain ⟨a, b, c, d, rfl, k1, k2, k3⟩ := num_cases hx
  obtain ⟨e, f, g, h, rfl, l1, l2, l3⟩ := num_cases hy
  exact isNum_of (a := a + e) (b := b + f) (c := c + g) (d := d + h) ⟨by omega, by omega, by omega⟩
theorem num_int (m : Int) : isNum [2 * m, 0, 0, 0] = true := isNum_of ⟨by omega, by omega, by omega⟩
theorem sm_mul {x y : List Int} {m n : Nat} (hx : isNum x = true) (hy : isNum y = true) (h1 : Sm m x) (h2 : Sm n y) : Sm (m + n + 3) (mulL x y) := by
  obtain ⟨a, b, c, d, rfl, k⟩ := num_cases hx
  obtain ⟨e, f, g, h, rfl, l⟩ := num_cases hy
  have A := h1 a (by simp); have B := h1 b (by simp); have C := h1 c (by simp); have D' := h1 d (by simp)
  have E := h2 e (by simp); have F := h2 f (by simp); have G := h2 g (by simp); have H := h2 h (by simp)
  have mono : ∀ {k : Nat} {z : Int}, Bt k z → k ≤ m + n + 3 → Bt (m + n + 3) z := fun q w => q.mono w
  intro z hz
  have hz' : z = (a * e - b * f - c * g - d * h) / 2 ∨ z = (a * f + b * e + c * h - d * g) / 2 ∨ z = (a * g - b * h + c * e + d * f) / 2 ∨ z = (a * h + b * g - c * f + d * e) / 2 := by
    have : z ∈ [(a * e - b * f - c * g - d * h) / 2, (a * f + b * e + c * h - d * g) / 2, (a * g - b * h + c * e + d * f) / 2, (a * h + b * g - c * f + d * e) / 2] := hz
    simpa using this
  rcases hz' with rfl | rfl | rfl | rfl
  · exact mono (((((A.mul E).sub (B.mul F)).sub (C.mul G)).sub (D'.mul H)).half) (by omega)
  · exact mono (((((A.mul F).add (B.mul E)).add (C.mul H)).sub (D'.mul G)).half) (by omega)
  · exact mono (((((A.mul G).sub (B.mul H)).add (C.mul E)).add (D'.mul F)).half) (by omega)
  · exact mono (((((A.mul H).add (B.mul G)).sub (C.mul F)).add (D'.mul E)).half) (by omega)
theorem sm_add {x y : List Int} {m n : Nat} (hx : isNum x = true) (hy : isNum y = true) (h1 : Sm m x) (h2 : Sm n y) : Sm (max m n + 1) (addL x y) := by
  intro z hz
  unfold addL at hz
  obtain ⟨p, hp, rfl⟩ := List.mem_map.mp hz
  exact (h1 p.1 (List.of_mem_zip hp).1).add (h2 p.2 (List.of_mem_zip hp).2)
theorem asc_pure (a b c d e f g h i j k l : Int) :
    (a * e - b * f - c * g - d * h) * i - (a * f + b * e + c * h - d * g) * j - (a * g - b * h + c * e + d * f) * k - (a * h + b * g - c * f + d * e) * l = a * (e * i - f * j - g * k - h * l) - b * (e * j + f * i + g * l - h * k) - c * (e * k - f * l + g * i + h * j) - d * (e * l + f * k - g * j + h * i) ∧
    (a * e - b * f - c * g - d * h) * j + (a * f + b * e + c * h - d * g) * i + (a * g - b * h + c * e + d * f) * l - (a * h + b * g - c * f + d * e) * k = a * (e * j + f * i + g * l - h * k) + b * (e * i - f * j - g * k - h * l) + c * (e * l + f * k - g * j + h * i) - d * (e * k - f * l + g * i + h * j) ∧
    (a * e - b * f - c * g - d * h) * k - (a * f + b * e + c * h - d * g) * l + (a * g - b * h + c * e + d * f) * i + (a * h + b * g - c * f + d * e) * j = a * (e * k - f * l + g * i + h * j) - b * (e * l + f * k - g * j + h * i) + c * (e * i - f * j - g * k - h * l) + d * (e * j + f * i + g * l - h * k) ∧
    (a * e - b * f - c * g - d * h) * l + (a * f + b * e + c * h - d * g) * k - (a * g - b * h + c * e + d * f) * j + (a * h + b * g - c * f + d * e) * i = a * (e * l + f * k - g * j + h * i) + b * (e * k - f * l + g * i + h * j) - c * (e * j + f * i + g * l - h * k) + d * (e * i - f * j - g * k - h * l) := ⟨by grind, by grind, by grind, by grind⟩
theorem mul_asc {x y z : List Int} (hx : isNum x = true) (hy : isNum y = true) (hz : isNum z = true) : mulL (mulL x y) z = mulL x (mulL y z) := by
  obtain ⟨a, b, c, d, rfl, kx⟩ := num_cases hx
  obtain ⟨e, f, g, h, rfl, ky⟩ := num_cases hy
  obtain ⟨i, j, k, l, rfl, kz⟩ := num_cases hz
  obtain ⟨p, q, r, s, ⟨p1, p2, p3, p4⟩, kp, ep⟩ := mul_pr kx ky
  obtain ⟨t, u, v, w, ⟨t1, t2, t3, t4⟩, kt, et⟩ := mul_pr ky kz
  rw [ep, et]
  obtain ⟨A, B, C, D', ⟨a1, a2, a3, a4⟩, _, eA⟩ := mul_pr kp kz
  obtain ⟨E, F, G, H, ⟨b1, b2, b3, b4⟩, _, eB⟩ := mul_pr kx kt
  rw [eA, eB]
  obtain ⟨x1, x2, x3, x4⟩ := asc_pure a b c d e f g h i j k l
  rw [← p1, ← p2, ← p3, ← p4, ← t1, ← t2, ← t3, ← t4] at x1 x2 x3 x4
  have y1 : 2 * (2 * A) = 2 * (2 * E) := by rw [a1, b1]; grind
  have y2 : 2 * (2 * B) = 2 * (2 * F) := by rw [a2, b2]; grind
  have y3 : 2 * (2 * C) = 2 * (2 * G) := by rw [a3, b3]; grind
  have y4 : 2 * (2 * D') = 2 * (2 * H) := by rw [a4, b4]; grind
  have z1 : A = E := by omega
  have z2 : B = F := by omega
  have z3 : C = G := by omega
  have z4 : D' = H := by omega
  rw [z1, z2, z3, z4]
theorem mul_addr {x y z : List Int} (hx : isNum x = true) (hy : isNum y = true) (hz : isNum z = true) : mulL x (addL y z) = addL (mulL x y) (mulL x z) := by
  obtain ⟨a, b, c, d, rfl, kx⟩ := num_cases hx
  obtain ⟨e, f, g, h, rfl, ky⟩ := num_cases hy
  obtain ⟨i, j, k, l, rfl, kz⟩ := num_cases hz
  obtain ⟨p, q, r, s, ⟨p1, p2, p3, p4⟩, _, ep⟩ := mul_pr kx ky
  obtain ⟨t, u, v, w, ⟨t1, t2, t3, t4⟩, _, et⟩ := mul_pr kx kz
  have ka : Par (e + i) (f + j) (g + k) (h + l) := by
    obtain ⟨k1, k2, k3⟩ := ky
    obtain ⟨l1, l2, l3⟩ := kz
    exact ⟨by omega, by omega, by omega⟩
  obtain ⟨A, B, C, D', ⟨a1, a2, a3, a4⟩, _, eA⟩ := mul_pr kx ka
  rw [ep, et]
  show mulL [a, b, c, d] [e + i, f + j, g + k, h + l] = [p + t, q + u, r + v, s + w]
  rw [eA]
  have z1 : A = p + t := by grind
  have z2 : B = q + u := by grind
  have z3 : C = r + v := by grind
  have z4 : D' = s + w := by grind
  rw [z1, z2, z3, z4]
theorem norm_pr {a b c d : Int} (k : Par a b c d) : 4 * normL [a, b, c, d] = a * a + b * b + c * c + d * d := by
  have e : normL [a, b, c, d] = (a * a + b * b + c * c + d * d) / 4 := by
    unfold normL
    simp only [List.map_cons, List.map_nil, List.sum_cons, List.sum_nil]
    congr 1
    omega
  rw [e]
  obtain ⟨k1, k2, k3⟩ := k
  have key : ∀ (A B C D' u : Int), (u = 0 ∨ u = 1) → a = 2 * A + u → b = 2 * B + u → c = 2 * C + u → d = 2 * D' + u → ∃ n, a * a + b * b + c * c + d * d = 4 * n := by
    intro A B C D' u hu ha hb hc hd
    subst ha hb hc hd
    refine ⟨A * A + B * B + C * C + D' * D' + u * (A + B + C + D') + u, ?_⟩
    rcases hu with rfl | rfl <;> grind
  obtain ⟨n, hn⟩ := key (a / 2) (b / 2) (c / 2) (d / 2) (a % 2) (by omega) (by omega) (by omega) (by omega) (by omega)
  rw [hn]
  omega
theorem norm_mul {x y : List Int} (hx : isNum x = true) (hy : isNum y = true) : normL (mulL x y) = normL x * normL y := by
  obtain ⟨a, b, c, d, rfl, kx⟩ := num_cases hx
  obtain ⟨e, f, g, h, rfl, ky⟩ := num_cases hy
  obtain ⟨p, q, r, s, ⟨p1, p2, p3, p4⟩, kp, ep⟩ := mul_pr kx ky
  rw [ep]
  have n1 := norm_pr kx
  have n2 := norm_pr ky
  have n3 := norm_pr kp
  have e1 : 4 * (4 * normL [p, q, r, s]) = (2 * p) * (2 * p) + (2 * q) * (2 * q) + (2 * r) * (2 * r) + (2 * s) * (2 * s) := by rw [n3]; grind
  rw [p1, p2, p3, p4] at e1
  have e2 : 16 * (normL [a, b, c, d] * normL [e, f, g, h]) = (4 * normL [a, b, c, d]) * (4 * normL [e, f, g, h]) := by grind
  rw [n1, n2] at e2
  have e3 : (a * e - b * f - c * g - d * h) * (a * e - b * f - c * g - d * h) + (a * f + b * e + c * h - d * g) * (a * f + b * e + c * h - d * g) + (a * g - b * h + c * e + d * f) * (a * g - b * h + c * e + d * f) + (a * h + b * g - c * f + d * e) * (a * h + b * g - c * f + d * e) = (a * a + b * b + c * c + d * d) * (e * e + f * f + g * g + h * h) := by grind
  omega
theorem mul_conj {x : List Int} (hx : isNum x = true) : mulL x (conjL x) = [2 * normL x, 0, 0, 0] ∧ mulL (conjL x) x = [2 * normL x, 0, 0, 0] := by
  obtain ⟨a, b, c, d, rfl, kx⟩ := num_cases hx
  have kc : Par a (-b) (-c) (-d) := by obtain ⟨k1, k2, k3⟩ := kx; exact ⟨by omega, by omega, by omega⟩
  have n1 := norm_pr kx
  obtain ⟨p, q, r, s, ⟨p1, p2, p3, p4⟩, _, ep⟩ := mul_pr kx kc
  obtain ⟨A, B, C, D', ⟨a1, a2, a3, a4⟩, _, eA⟩ := mul_pr kc kx
  constructor
  · show mulL [a, b, c, d] [a, -b, -c, -d] = _
    rw [ep]
    have z1 : p = 2 * normL [a, b, c, d] := by grind
    have z2 : q = 0 := by grind
    have z3 : r = 0 := by grind
    have z4 : s = 0 := by grind
    rw [z1, z2, z3, z4]
  · show mulL [a, -b, -c, -d] [a, b, c, d] = _
    rw [eA]
    have z1 : A = 2 * normL [a, b, c, d] := by grind
    have z2 : B = 0 := by grind
    have z3 : C = 0 := by grind
    have z4 : D' = 0 := by grind
    rw [z1, z2, z3, z4]
theorem mul_int {x : List Int} (m : Int) (hx : isNum x = true) : mulL [2 * m, 0, 0, 0] x = timesL m x ∧ mulL x [2 * m, 0, 0, 0] = timesL m x := by
  obtain ⟨a, b, c, d, rfl, kx⟩ := num_cases hx
  have ki : Par (2 * m) 0 0 0 := ⟨by omega, by omega, by omega⟩
  obtain ⟨p, q, r, s, ⟨p1, p2, p3, p4⟩, _, ep⟩ := mul_pr ki kx
  obtain ⟨A, B, C, D', ⟨a1, a2, a3, a4⟩, _, eA⟩ := mul_pr kx ki
  constructor
  · show _ = [a * m, b * m, c * m, d * m]
    rw [ep]
    have z1 : p = a * m := by grind
    have z2 : q = b * m := by grind
    have z3 : r = c * m := by grind
    have z4 : s = d * m := by grind
    rw [z1, z2, z3, z4]
  · show _ = [a * m, b * m, c * m, d * m]
    rw [eA]
    have z1 : A = a * m := by grind
    have z2 : B = b * m := by grind
    have z3 : C = c * m := by grind
    have z4 : D' = d * m := by grind
    rw [z1, z2, z3, z4]
theorem mul_one' {x : List Int} (hx : isNum x = true) : mulL [2, 0, 0, 0] x = x := by
  have h := (mul_int 1 hx).1
  obtain ⟨a, b, c, d, rfl, kx⟩ := num_cases hx
  have e : timesL 1 [a, b, c, d] = [a, b, c, d] := by
    show [a * 1, b * 1, c * 1, d * 1] = _
    simp
  rw [e] at h
  exact h
theorem norm_nn {x : List Int} (hx : isNum x = true) : 0 ≤ normL x := by
  obtain ⟨a, b, c, d, rfl, kx⟩ := num_cases hx
  have n1 := norm_pr kx
  have sq : ∀ z : Int, 0 ≤ z * z := fun z => by
    rcases Int.le_total 0 z with h | h
    · exact Int.mul_nonneg h h
    · exact Int.mul_nonneg_of_nonpos_of_nonpos h h
  have h1 := sq a; have h2 := sq b; have h3 := sq c; have h4 := sq d
  omega
end TB
namespace TB
open PySem L2
/-- a number of at most n bits a part -/
structure G (n : Nat) (x : List Int) : Prop where
  num : isNum x = true
  sm : Sm n x
theorem G.mul {m n : Nat} {x y : List Int} (a : G m x) (b : G n y) : G (m + n + 3) (mulL x y) := ⟨num_mul a.num b.num, sm_mul a.num b.num a.sm b.sm⟩
theorem G.add {m n : Nat} {x y : List Int} (a : G m x) (b : G n y) : G (max m n + 1) (addL x y) := ⟨num_add a.num b.num, sm_add a.num b.num a.sm b.sm⟩
theorem G.drawn {ns : List Int} (h : In9 ns) (p : Nat) : G 100 (numV ns p) := ⟨numV_num ns p, numV_bt h p⟩
end TB

namespace TB
open PySem L2
section
variable {X : Cx} {W : WX} {F0 H0 : Hp} {Γ Γ1 : List S} {body suite : List Stmt} {b₀ : Stmt} {n x : Str} {i : Nat} {np pos pos' : Pos} {C c : Addr} {so : SO} {y : D}
/-- does an error leave -/
def SO.clean : SO → Prop
  | .x _ _ => False
  | .xf _ _ _ _ => False
  | _ => True
theorem pso_clean {K : PySem.W.Frag} {W W' : WX} {F : Hp} {D' : Ends} (h : so.clean) (q : PSo K W F0 H0 F D' so) : PSo K W' F0 H0 F D' so := by
  cases so with
  | x c g => exact h.elim
  | xf c f x g => exact h.elim
  | _ => exact q
/-- isinstance(e, T), e the error that the suite holds -/
theorem je_isE {a : Addr} {oe : Obj} {pn : List (Addr × Obj)} {cv : Value} {cx : V} {b : Bool} {ipos np2 : Pos} {e2 : Expr} (E0' : ExcC X.K c) (hz : Zc (.ref c) none oe) (hfl : ∃ vs, oe.data = .fields vs) (hm : X.mg "isinstance" = none)
    (g : Γ[i]? = some (.r (.ref a))) (hcv : ∀ u, RelV cx u → u = cv) (hk : PySem.W.kitOne X.K (.ref c) cv = some b) (he2 : PE (X.suite a ((a, oe) :: pn)) e2 (tC cx))
    (hN : X.N[i]? = some n := by rfl) (hv : Vis X.env.scope n := by first | exact Or.inl rfl | exact Or.inr (Or.inl rfl) | exact Or.inr (Or.inr rfl)) (hg : Gl X "isinstance" := by rfl) (hd : (n == ("__debug__" : Str)) = false := by decide) (hcd : (n == ("__classdict__" : Str)) = false := by decide)
    (s2 : starEach [.Name n np, e2] X.env = (false, eval (.Name n np) X.env) :: starEach [e2] X.env := by rfl) (s1 : starEach [e2] X.env = (false, eval e2 X.env) :: starEach [] X.env := by rfl) (hpl : (backTo ipos (starEach [e2] X.env)).any (·.1) = false := by rfl) :
    JE (X.suite a ((a, oe) :: pn)) W F0 H0 Γ (.Call (.Name "isinstance" np2) [.Name n np, e2] [] ipos) (.v (.bool b)) :=
  pe_imp (pe_callB (X := X.suite a ((a, oe) :: pn)) (call_isE E0' hz hfl) hg hm (by decide +kernel) (pa_cons (pe_var (X := X.suite a ((a, oe) :: pn)) hN hv hd hcd) (pa_cons he2 pa_nil s1) s2) (by decide) (by decide) s2 hpl) fun σ H Q ⟨F, ok, q⟩ =>
    ⟨_, ok.raw g, cx, cv, b, rfl, hcv, hk, q _ F H (Fz.refl ok.fh) (.bl b)⟩
end
section
variable {X : Cx} {W : WX} {F0 H0 : Hp} {Γ : List S} {a b e : Expr} {x y : D} {pos np : Pos} {p q : Bool} {ds : List D}
end
end TB
namespace TB
open PySem L2
section
variable {X : Cx} {W : WX} {F0 H0 : Hp} {Γ : List S} {a b e : Expr} {x y : D} {pos np : Pos} {p q : Bool} {ds : List D} {c : Addr} {op : CmpOp}
theorem eqv_refl : ∀ d : D, SeqAt.shaped d = true → PyData.eqv d d = true := fun d h => SeqAt.eqv_refl d (SeqAt.canLay_of_shaped h)
end
end TB

namespace TB
open PySem L2
def negL (ns : List Int) : List Int := ns.map fun p => -p
theorem par_mul {a b c d : Int} (m : Int) (k : Par a b c d) : Par (a * m) (b * m) (c * m) (d * m) := by
  obtain ⟨k1, k2, k3⟩ := k
  exact ⟨by rw [Int.mul_emod, k1, ← Int.mul_emod], by rw [Int.mul_emod, k2, ← Int.mul_emod], by rw [Int.mul_emod, k3, ← Int.mul_emod]⟩
theorem G.times {m n : Nat} {x : List Int} {z : Int} (a : G m x) (b : Bt n z) : G (m + n) (timesL z x) := by
  refine ⟨?_, fun y hy => ?_⟩
  · obtain ⟨p, q, r, s, rfl, k⟩ := num_cases a.num
    exact isNum_of (par_mul z k)
  · obtain ⟨p, hp, rfl⟩ := List.mem_map.mp hy
    exact (a.sm p hp).mul b
theorem G.neg {m : Nat} {x : List Int} (a : G m x) : G m (negL x) := by
  refine ⟨?_, fun y hy => ?_⟩
  · obtain ⟨p, q, r, s, rfl, k⟩ := num_cases a.num
    obtain ⟨k1, k2, k3⟩ := k
    exact isNum_of (a := -p) (b := -q) (c := -r) (d := -s) ⟨by omega, by omega, by omega⟩
  · obtain ⟨p, hp, rfl⟩ := List.mem_map.mp hy
    exact (a.sm p hp).neg
theorem sub_self {x : List Int} (h : isNum x = true) : subL x x = [0, 0, 0, 0] := by
  obtain ⟨p, q, r, s, rfl, k⟩ := num_cases h
  show [p - p, q - q, r - r, s - s] = _
  simp
theorem norm_sum {x : List Int} (h : isNum x = true) : normL x * 4 = (x.map fun p => p * p).sum := by
  obtain ⟨p, q, r, s, rfl, k⟩ := num_cases h
  have e1 := norm_pr k
  show normL [p, q, r, s] * 4 = p * p + (q * q + (r * r + (s * s + 0)))
  omega
theorem kit_own {K : PySem.W.Frag} {c C : Addr} {b : Bool} (hne : (Value.ref c == Value.ref C) = false) (hd : PySem.W.hasDictIn K C = true) (ht : PySem.W.typeIn K (.ref C) = some (.type "type")) (h4 : PySem.W.subIn K (.ref c) (.ref C) = some b) : PySem.W.kitOne K (.ref c) (.ref C) = some b := by
  have hc : (PySem.W.clsIn K C).isSome = true := by
    unfold PySem.W.hasDictIn at hd
    cases h : PySem.W.clsIn K C with
    | none => rw [h] at hd; cases hd
    | some cd => rfl
  unfold PySem.W.kitOne PySem.W.kitCls
  rw [if_neg (by rw [hne]; exact Bool.false_ne_true)]
  show (if ((PySem.W.clsIn K C).isSome && PySem.W.typeIn K (.ref C) == some (.type "type")) = true then PySem.W.subIn K (.ref c) (.ref C) else none) = some b
  rw [if_pos (by rw [hc, ht]; rfl)]
  exact h4
theorem kit_blt {K : PySem.W.Frag} {c : Addr} {T : String} {b : Bool} (hm : PySem.W.kitMeta T = true) (h4 : PySem.W.subIn K (.ref c) (.type T) = some b) : PySem.W.kitOne K (.ref c) (.type T) = some b := by
  unfold PySem.W.kitOne PySem.W.kitCls
  rw [if_neg (by exact Bool.false_ne_true)]
  show (if PySem.W.kitMeta T = true then PySem.W.subIn K (.ref c) (.type T) else none) = some b
  rw [if_pos hm]
  exact h4
end TB

namespace TB
open PySem L2
section
variable {X : Cx} {W : WX} {F0 H0 : Hp} {Γ : List S} {elt it : Expr} {n : Str} {py pos : Pos} {scope : Scope} {xs : List (List Int)}
end
theorem lay_ti (x : List Int) : PyData.canLay0 (ti x) = true ∧ PyData.depth (ti x) ≤ 2 := by
  have h := lay_ints x
  have h2 := h.2
  simp only [ti, PyData.canLay0, PyData.depth, h.1]
  exact ⟨trivial, by omega⟩
theorem lay_tis : ∀ xs : List (List Int), PyData.canLayAll0 (xs.map ti) = true ∧ PyData.depthAll (xs.map ti) ≤ 2
  | [] => by simp [PyData.canLayAll0, PyData.depthAll]
  | x :: xs => by
    have h := lay_tis xs
    have g := lay_ti x
    simp only [List.map_cons, PyData.canLayAll0, PyData.depthAll, h.1, g.1]
    refine ⟨rfl, ?_⟩
    have h2 := h.2
    have g2 := g.2
    omega
theorem sh_lti (xs : List (List Int)) : SeqAt.shaped (.list (xs.map ti)) = true := by
  have h := lay_tis xs
  have h2 := h.2
  simp only [SeqAt.shaped, PyData.canLay0, PyData.depth, h.1, Bool.true_and]
  exact decide_eq_true (by omega)
/-! a product by the table of the rules -/
/-! the product of a list -/
end TB
namespace TB
end TB

namespace TB
open PySem L2 PySem.Spec PyProof.Rows
/-- a suite that returns, or never ends -/
def onlyRt (D : Ends) : Ends := ⟨fun _ _ => False, D.rt, fun _ _ => False, fun _ _ => False⟩
abbrev Cl := Value × (Addr → Value → Option Addr → TS)
/-- clauses 'except C as n', one after the other: what an exception of the body must bring -/
def wClauses (K : PySem.W.Frag) (i : Nat) (O : WX) (D : Ends) : List Cl → WX
  | [] => O
  | q :: l => fun k d σ H => ∃ b, PySem.W.exmOne K k q.1 = some b
      ∧ (b = true → ∀ a, H a = none → q.2 a k d (onlyRt D) (σ.set i (some (.ref a))) H)
      ∧ (b = false → wClauses K i O D l k d σ H)
inductive Clauses (X : Cx) (n : Str) : List ExceptHandler → List Cl → Prop
  | nil : Clauses X n [] []
  | cons {x : Str} {q : Cl} {b₀ : Stmt} {suite : List Stmt} {p p' : Pos} {es : List ExceptHandler} {l : List Cl} (nm : Names X x q.1)
      (su : ∀ (a : Addr) (oe : Obj) (k : Value) (d : Option Addr) (pn : List (Addr × Obj)), Zc k d oe → (∃ vs, oe.data = .fields vs) →
        PSs (X.suite a ((a, oe) :: pn)) (b₀ :: suite) (q.2 a k d))
      (t : Clauses X n es l) : Clauses X n (.ExceptHandler (some (.Name x p)) (some n) (b₀ :: suite) p' :: es) (q :: l)
section
variable {X : Cx} {n : Str} {i : Nat} {body : List Stmt} {e₀ : ExceptHandler} {es : List ExceptHandler} {l : List Cl} {pos : Pos} {tb : WX → TS} {O : WX}
theorem ps_clauses (st : X.stack = X.env :: X.outer) (fr : X.env.frame = some X.env.locals) (nd : X.N.Nodup) (hi : X.N[i]? = some n) (kl : X.env.kindOf n = some .local) (tk : L2.Takes X O)
    (hb : ∀ (W : WX) (pn : List (Addr × Obj)) (xe : Value → Shared → Prop), L2.Takes (X.tr pn xe) W →
      PassesOwn (model X.prog X.w) X.A X.env xe → PSs (X.tr pn xe) body (tb W))
    (cl : Clauses X n (e₀ :: es) l) : PS X (.Try body (e₀ :: es) [] [] pos) (fun D σ H => tb (wClauses X.K i O D l) D σ H) := by
  refine ⟨fun pins s σ H D I wish => ?_⟩
  have ok := I.ok
  have loc : Loc X.env.scope n := .inl kl
  have hfr : X.A.frames = some (X.env :: X.outer) := by
    rw [ok.frames, st]
  refine wpAny_Try_except (wpAny_mono ((hb (wClauses X.K i O D l) (X.pn ++ pins) _
    (fun u s1 caught => ?_) PassesOwn.looking).run [] s σ H D (I.toTry _) wish) (fun fl s1 out => ?_) (fun _ _ left => left))
  · obtain ⟨a, B, s0, _, σ1, H1, k, d, rfl, J0, nb, up, sk, na, os, ag, wi⟩ := caught
    have J : Inv X pins σ1 H1 s0 := J0.ofTry ok
    have sk2 : Sky B (X.env :: X.outer) a (Zc k d) X.env.locals s1.heap := by
      rw [← st]
      exact sk
    show wpAny (model X.prog X.w) X.A (noteFrame (.ref a) X.env) _ _ _
    refine Sky.land Zc.steady hfr fr sk2 fun hA lA uA => ?_
    have JA : Inv X pins σ1 H1 { s1 with heap := hA } := J.landed nb lA.1 (up.trans uA) os ag
    obtain ⟨oA, vA, eA, zA, dA⟩ := lA.there
    have out : a ∉ frs (X.env :: X.outer) := fun m => by
      obtain ⟨_, o2, e2, no⟩ := lA.2.2.1.mem m
      cases eA.symm.trans e2
      exact no _ dA
    have nL : a ≠ X.env.locals := fun z =>
      out (List.mem_filterMap.mpr ⟨X.env, List.mem_cons_self, by rw [fr, z]⟩)
    have nF : a ∉ X.fs := fun m => by
      obtain ⟨e, he, w⟩ := List.mem_filterMap.mp m
      exact out (List.mem_filterMap.mpr ⟨e, List.mem_cons_of_mem _ he, w⟩)
    have SA := JA.suite eA dA na nL nF
    clear hb
    generalize e₀ :: es = hs at cl ⊢
    clear wish
    induction cl with
    | nil =>
      refine wpAny_handleBy_nil ?_
      obtain ⟨_, _, _, oe, vs, T, _, _, he, _, hd, h1, _⟩ := id lA
      unfold PySem.passOn
      refine wpAny_bind (wpAny_field he hd h1 ?_)
      rw [if_neg (show ¬ ((Value.ref T == Value.none) = true) from by simp)]
      have fin : wpAny (model X.prog X.w) X.A (setFlight (.ref a) X.env.frame)
          (fun _ s4 => wpAny (model X.prog X.w) X.A (throw (.ref a) : Sem Flow) (SP X pins D) X.xe s4) X.xe { s1 with heap := hA } := by
        rw [fr]
        refine HandSPX.setFlight_upZ lA fun h4 sk4 u4 => wpAny_throw (tk _ _ ?_)
        refine ⟨a, B, s0, pins, σ1, H1, k, d, rfl, J, nb, (up.trans uA).trans u4, ?_, na, os, ag, wi⟩
        exact .inr (.inr (by rw [st]; exact sk4))
      first
        | exact wpAny_bind (wpAny_pure (wpAny_bind fin))
        | exact wpAny_bind fin
    | @cons x q b₀ suite p p' es2 l2 nm su t ih =>
      obtain ⟨b, hx, yes, no⟩ := wi
      refine wpAny_handleBy_cons (codeAny_handlers_test ?_) (by intro z; cases z)
      have LT : PySem.W.Looks (model X.prog X.w) hA (typeOf (.ref a)) k := fun A Q E s keep fin =>
        wpAny_typeOf_ref (keep _ _ eA) (by rw [zA.1]; exact fin)
      have LM := PySem.W.exm_one (M := model X.prog X.w) JA.kIn LT hx
      have asks : ∀ {Q : Value → Shared → Prop} {E : Value → Shared → Prop}, Q q.1 { s1 with heap := hA } →
          wpAny (model X.prog X.w) (X.A.mark (some (.ref a))) (eval (.Name x p) X.env) Q E { s1 with heap := hA } := fun fin => by
        obtain ⟨g, db, m | ⟨m, v, z⟩⟩ := nm
        · exact ld_glob (X := X.suite a ((a, oA) :: (X.pn ++ pins))) SA g m fin db
        · exact ld_blt (X := X.suite a ((a, oA) :: (X.pn ++ pins))) SA g m v fin z db
      refine asks (LM.here ?_)
      cases b with
      | false =>
        show wpAny _ X.A (handleBy (.ref a) X.env es2) _ _ _
        exact ih (no rfl)
      | true =>
        refine codeAny_handlers_suite_as (HandSPX.lands_againZ lA fun hB lB uB => ?_)
        have JB : Inv X pins σ1 H1 { s1 with heap := hB } := J.landed nb lB.1 ((up.trans uA).trans uB) os ag
        obtain ⟨oB, vB, eB, zB, dB⟩ := lB.there
        refine store_ok (X := X.suite a ((a, oB) :: (X.pn ++ pins))) (v := .ref a) (JB.suite eB dB na nL nF) nd hi loc rfl (fun s5 S5 => ?_) (.inr kl)
        refine wpAny_mono ((su a oB k d (X.pn ++ pins) zB ⟨_, dB⟩).run [] s5 _ H1 (onlyRt D) S5 (yes rfl a na)) (fun fl s6 end6 => ?_) (fun _ _ z => z.elim)
        cases fl with
        | next => exact (end6.choose_spec.choose_spec.2 : False).elim
        | brk => exact (end6.choose_spec.choose_spec.2 : False).elim
        | cont => exact (end6.choose_spec.choose_spec.2 : False).elim
        | ret u =>
          obtain ⟨v6, σ6, H6, S6, r6, w6⟩ := end6
          exact gone_ok (S6.unsuite ok) nd hi kl fun s7 J7 => ⟨_, _, _, J7, r6, w6⟩
  · cases fl with
    | next =>
      obtain ⟨σ', H', J, w⟩ := out
      exact wpAny_execs_nil ⟨σ', H', J.ofTry ok, w⟩
    | brk => exact out.elim fun σ' z => z.elim fun H' z => ⟨σ', H', z.1.ofTry ok, z.2⟩
    | cont => exact out.elim fun σ' z => z.elim fun H' z => ⟨σ', H', z.1.ofTry ok, z.2⟩
    | ret u =>
      obtain ⟨v, σ', H', J, r, w⟩ := out
      exact ⟨v, σ', H', J.ofTry ok, r, w⟩
end
end TB

namespace TB
open PySem L2 PySem.Spec PyProof.Rows
/-! ### any of integers -/
section
variable {X : Cx} {W : WX} {F0 H0 : Hp} {Γ Γ1 : List S} {a b e : Expr} {d x : D} {ns : List Int} {pos np : Pos} {i : Int} {ds : List D}
end
section
variable {X : Cx} {W : WX} {F0 H0 : Hp} {Γ Γ1 : List S} {body su1 su2 : List Stmt} {b1 b2 : Stmt} {n x1 x2 : Str} {i : Nat} {p1 p2 q1 q2 pos : Pos} {C1 C2 c : Addr} {so : SO} {y : D}
/-- two clauses with a name; nothing is raised -/
theorem js_two (c1 : Names X x1 (.ref C1)) (c2 : Names X x2 (.ref C2)) (tk : L2.Takes X W) (hN : X.N.Nodup) (hcl : so.clean)
    (hb : ∀ (W' : WX) (pn : List (Addr × Obj)) (xe : Value → Shared → Prop), L2.Takes (X.tr pn xe) W' → PassesOwn (model X.prog X.w) X.A X.env xe → JSs (X.tr pn xe) W' F0 H0 Γ body so)
    (hi : X.N[i]? = some n := by rfl) (hs : X.stack = X.env :: X.outer := by rfl) (hf : X.env.frame = some X.env.locals := by rfl) (hln : X.env.kindOf n = some .local := by rfl) :
    JS X W F0 H0 Γ (.Try body [.ExceptHandler (some (.Name x1 p1)) (some n) (b1 :: su1) q1, .ExceptHandler (some (.Name x2 p2)) (some n) (b2 :: su2) q2] [] [] pos) so :=
  ps_imp (ps_clauses (i := i) (tb := fun W' => tS X.K W' F0 H0 Γ so) hs hf hN hi hln tk hb (.cons (q := (.ref C1, fun _ _ _ => tNever)) c1 (fun _ _ _ _ _ _ _ => pss_never) (.cons (q := (.ref C2, fun _ _ _ => tNever)) c2 (fun _ _ _ _ _ _ _ => pss_never) .nil))) fun D' σ H ⟨F, ok, q⟩ => ⟨F, ok, pso_clean hcl q⟩
abbrev tsOf (X : Cx) (F0 H0 : Hp) (Γ1 : List S) (i : Nat) (c : Addr) (y : D) : Addr → Value → Option Addr → TS := fun a cls d D' σ H => cls = .ref c ∧ d = none ∧ tS X.K WF F0 H0 (Γ1.set i (.r (.ref a))) (.rt y) D' σ H
/-- the second one takes it -/
theorem js_twoX2 (c1 : Names X x1 (.ref C1)) (c2 : Names X x2 (.ref C2)) (tk : L2.Takes X W) (hN : X.N.Nodup) (ex1 : PySem.W.exmOne X.K (.ref c) (.ref C1) = some false) (ex : PySem.W.exmOne X.K (.ref c) (.ref C2) = some true)
    (hb : ∀ (W' : WX) (pn : List (Addr × Obj)) (xe : Value → Shared → Prop), L2.Takes (X.tr pn xe) W' → PassesOwn (model X.prog X.w) X.A X.env xe → JSs (X.tr pn xe) W' F0 H0 Γ body (.x c Γ1))
    (hsu : ∀ (a : Addr) (oe : Obj) (pn : List (Addr × Obj)), Zc (.ref c) none oe → (∃ vs, oe.data = .fields vs) → JSs (X.suite a ((a, oe) :: pn)) WF F0 H0 (Γ1.set i (.r (.ref a))) (b2 :: su2) (.rt y))
    (hi : X.N[i]? = some n := by rfl) (hs : X.stack = X.env :: X.outer := by rfl) (hf : X.env.frame = some X.env.locals := by rfl) (hln : X.env.kindOf n = some .local := by rfl) :
    JS X W F0 H0 Γ (.Try body [.ExceptHandler (some (.Name x1 p1)) (some n) (b1 :: su1) q1, .ExceptHandler (some (.Name x2 p2)) (some n) (b2 :: su2) q2] [] [] pos) (.rt y) :=
  ps_imp (ps_clauses (i := i) (tb := fun W' => tS X.K W' F0 H0 Γ (.x c Γ1)) hs hf hN hi hln tk hb (.cons (q := (.ref C1, fun _ _ _ => tNever)) c1 (fun _ _ _ _ _ _ _ => pss_never) (.cons (q := (.ref C2, tsOf X F0 H0 Γ1 i c y)) c2 (fun a oe cls d pn hz hfl => ⟨fun pins s σ H D' I ⟨e1, e2, t⟩ => by
    subst e1 e2
    exact (hsu a oe pn hz hfl).run pins s σ H D' I t⟩) .nil)))
    fun D' σ H ⟨F, ok, q⟩ => ⟨F, ok, fun σ' F' H' e ok' => ⟨false, ex1, fun z => Bool.noConfusion z, fun _ => ⟨true, ex, fun _ a _ => ⟨rfl, rfl, F', ok'.setR i _, fun v F2 H2 e2 z d => q v F2 H2 (e.trans e2) z d⟩, fun z => Bool.noConfusion z⟩⟩⟩
end
/-! ### k00 -/
def zeroB (ns : List Int) : Bool := !ns.any (· != 0)
end TB

namespace TB
open PySem L2 PySem.Spec PyProof.Rows
/-! ### list + list, the first one any list that is read -/
section
variable {X : Cx} {W : WX} {F0 H0 : Hp} {Γ : List S} {a b : Expr} {ds es : List D} {x y : D} {pos : Pos}
end
section
variable {X : Cx} {W : WX} {F0 H0 : Hp} {Γ : List S} {elt it : Expr} {n y : Str} {py py2 pos spos : Pos} {scope : Scope}
end
theorem zero_eq {ns : List Int} (h : isNum ns = true) : decide (ns = [0, 0, 0, 0]) = zeroB ns := by
  obtain ⟨p, q, r, s, rfl, _⟩ := num_cases h
  unfold zeroB
  by_cases h1 : p = 0 <;> by_cases h2 : q = 0 <;> by_cases h3 : r = 0 <;> by_cases h4 : s = 0 <;> simp [h1, h2, h3, h4]
end TB

namespace TB
open PySem L2 PySem.Spec PyProof.Rows
/-! ### sorted, of a list of tuples of integers -/
section
variable {X : Cx} {W : WX} {F0 H0 : Hp} {Γ : List S} {e : Expr} {pos np : Pos}
end
end TB

namespace TB
open PySem L2 PySem.Spec PyProof.Rows
/-! ### an own list: isinstance, !=, pop -/
section
variable {X : Cx} {W : WX} {F0 H0 : Hp} {Γ : List S} {b : Expr} {ds : List D} {y : D} {pos np : Pos} {n : Str}
theorem je_own_isi (k : Nat) {T : String} {t : Str} {r : Bool} {np2 q2 : Pos} (g : Γ[k]? = some (.own ds)) (hk : kitB "list" T = some r) (hm : X.mg "isinstance" = none) (hm2 : X.mg t = none) (hb : bootBuiltins t = some (.type T))
    (hN : X.N[k]? = some n := by rfl) (hv : Vis X.env.scope n := by first | exact Or.inl rfl | exact Or.inr (Or.inl rfl) | exact Or.inr (Or.inr rfl)) (hd : (n == ("__debug__" : Str)) = false := by decide) (hcd : (n == ("__classdict__" : Str)) = false := by decide)
    (hg : Gl X "isinstance" := by rfl) (hg2 : Gl X t := by rfl) (hn : t ≠ "__name__" := by decide) (hdb : (t == ("__debug__" : Str)) = false := by decide)
    (s2 : starEach [.Name n q2, .Name t np2] X.env = (false, eval (.Name n q2) X.env) :: starEach [.Name t np2] X.env := by rfl) (s1 : starEach [.Name t np2] X.env = (false, eval (.Name t np2) X.env) :: starEach [] X.env := by rfl) (hpl : (backTo pos (starEach [.Name t np2] X.env)).any (·.1) = false := by rfl) :
    JE X W F0 H0 Γ (.Call (.Name "isinstance" np) [.Name n q2, .Name t np2] [] pos) (.v (.bool r)) :=
  pe_imp (pe_callB call_isi hg hm (by decide +kernel) (pa_cons (pe_var hN hv hd hcd) (pa_cons (pe_bltn (v := .ty T) hg2 hm2 hb rfl hn hdb) pa_nil s1) s2) (by decide) (by decide) s2 hpl) fun σ H Q ⟨F, ok, q⟩ => by
    obtain ⟨p, xs, e1, e2, e3, e4, e5⟩ := ok.own g
    exact ⟨_, e1, _, .ty T, .type "list", .type T, r, rfl, .ty T, .base (.lst e2), kit_ty hk, q _ F H (Fz.refl ok.fh) (.bl r)⟩
theorem jt_own_ne (k : Nat) {q2 : Pos} (g : Γ[k]? = some (.own ds)) (hu : X.A.units + 64 < cLine) (h1 : SeqAt.shaped (.list ds) = true) (h2 : SeqAt.shaped y = true) (hb : JE X WF F0 H0 Γ b (.v y))
    (hN : X.N[k]? = some n := by rfl) (hv : Vis X.env.scope n := by first | exact Or.inl rfl | exact Or.inr (Or.inl rfl) | exact Or.inr (Or.inr rfl)) (hd : (n == ("__debug__" : Str)) = false := by decide) (hcd : (n == ("__classdict__" : Str)) = false := by decide) :
    JT X F0 H0 Γ (.Compare (.Name n q2) [.NotEq] [b] pos) (!PyData.eqv (.list ds) y) :=
  pt_imp (pt_cmpR (op_neD hu) (pe_var hN hv hd hcd) hb (nomark _)) fun σ H Q ⟨F, ok, q⟩ => by
    obtain ⟨p, xs, e1, e2, e3, e4, e5⟩ := ok.own g
    refine ⟨_, e1, F, ok, fun u F2 H2 z2 d2 => ⟨_, _, Dp.lst (SqL.of (z2.h _ _ e2)) (da_ex (z2.f.trans z2.s) _ _ e5), dp_ex z2.s _ _ d2, h1, h2, _, rfl, q F2 H2 z2⟩⟩
theorem js_pop (i : Nat) {ds : List D} {d : D} {apos cpos : Pos} (g : Γ[i]? = some (.own (ds ++ [d])))
    (hN : X.N[i]? = some n := by rfl) (hv : Vis X.env.scope n := by first | exact Or.inl rfl | exact Or.inr (Or.inl rfl) | exact Or.inr (Or.inr rfl)) (hd : (n == ("__debug__" : Str)) = false := by decide) (hcd : (n == ("__classdict__" : Str)) = false := by decide)
    (h1 : attributeBase (.Name n np) "pop" X.env (eval (.Name n np) X.env) = eval (.Name n np) X.env := by rfl)
    (hs : swapsWith (.Call (.Attribute (.Name n np) "pop" apos) [] [] cpos) none pos.line X.env = pure false := by rfl)
    (h3 : (apos.endLine == cpos.line) = true := by rfl) : JS X W F0 H0 Γ (.Expr (.Call (.Attribute (.Name n np) "pop" apos) [] [] cpos) pos) (.nx (Γ.set i (.own ds))) := by
  refine ps_imp (ps_expr (pe_bm0 PySem.F.plainAttrs_list PySem.F.slot_list_pop PySem.F.type_list_pop mt_pop (pe_var hN hv hd hcd) h1 h3) hs) fun D' σ H ⟨F, ok, q⟩ => ?_
  obtain ⟨p, xs, e1, e2, e3, e4, e5⟩ := ok.own g
  have hl : xs.length = ds.length + 1 := by
    rw [da_len e5, List.length_append]
    rfl
  have cut := da_take ds.length e5
  rw [List.take_left' rfl] at cut
  have e6 : xs.dropLast = xs.take ds.length := by
    rw [List.dropLast_eq_take, hl]
    rfl
  have hy : xs[xs.length - 1]? = some (xs[xs.length - 1]'(by omega)) := List.getElem?_eq_getElem (by omega)
  refine ⟨_, e1, .inl ⟨rfl, _, SqL.of e2⟩, p, xs, _, rfl, rfl, e2, hy, ?_⟩
  rw [e6]
  exact q σ F _ (Ex.refl _) (ok.write g e1 e3 e4 cut)
end
end TB

namespace TB
open PySem L2 PySem.Spec PyProof.Rows
/-! ### the 24 units -/
def unitsL : List (List Int) := [[-2, 0, 0, 0], [-1, -1, -1, -1], [-1, -1, -1, 1], [-1, -1, 1, -1], [-1, -1, 1, 1], [-1, 1, -1, -1], [-1, 1, -1, 1], [-1, 1, 1, -1], [-1, 1, 1, 1], [0, -2, 0, 0], [0, 0, -2, 0], [0, 0, 0, -2],
  [0, 0, 0, 2], [0, 0, 2, 0], [0, 2, 0, 0], [1, -1, -1, -1], [1, -1, -1, 1], [1, -1, 1, -1], [1, -1, 1, 1], [1, 1, -1, -1], [1, 1, -1, 1], [1, 1, 1, -1], [1, 1, 1, 1], [2, 0, 0, 0]]
theorem units_G : ∀ x ∈ unitsL, G 10 x := fun x hx => by
  have h : isNum x = true ∧ ∀ y ∈ x, y.natAbs < 2 ^ 2 := (by decide +kernel : ∀ x ∈ unitsL, isNum x = true ∧ ∀ y ∈ x, y.natAbs < 2 ^ 2) x hx
  exact ⟨h.1, fun y hy => (show Bt 2 y from h.2 y hy).mono (by decide)⟩
theorem units_permR : ∀ a ∈ unitsL, unitsL.Perm (unitsL.map fun u => mulL a u) := by decide +kernel
theorem small_sq {a s : Int} (h : a * a ≤ s) (hs : s ≤ 4) : -2 ≤ a ∧ a ≤ 2 := by
  constructor
  · by_cases z : -2 ≤ a
    · exact z
    · have := Int.mul_le_mul_of_nonneg_left (show 3 ≤ -a by omega) (show 0 ≤ -a by omega)
      have e : -a * -a = a * a := by grind
      omega
  · by_cases z : a ≤ 2
    · exact z
    · have := Int.mul_le_mul_of_nonneg_left (show 3 ≤ a by omega) (show 0 ≤ a by omega)
      omega
theorem units_box : ∀ a ∈ ([-2, -1, 0, 1, 2] : List Int), ∀ b ∈ ([-2, -1, 0, 1, 2] : List Int), ∀ c ∈ ([-2, -1, 0, 1, 2] : List Int), ∀ d ∈ ([-2, -1, 0, 1, 2] : List Int), isNum [a, b, c, d] = true → normL [a, b, c, d] = 1 → [a, b, c, d] ∈ unitsL := by decide +kernel
theorem sq_nn (a : Int) : 0 ≤ a * a := by
  by_cases z : 0 ≤ a
  · exact Int.mul_nonneg z z
  · have := Int.mul_nonneg (show 0 ≤ -a by omega) (show 0 ≤ -a by omega)
    have e : -a * -a = a * a := by grind
    omega
theorem unit_iff {x : List Int} (h : isNum x = true) : decide (normL x = 1) = decide (x ∈ unitsL) := by
  obtain ⟨a, b, c, d, rfl, k⟩ := num_cases h
  have key : normL [a, b, c, d] = 1 ↔ [a, b, c, d] ∈ unitsL := by
    constructor
    · intro e
      have n := norm_pr k
      rw [e] at n
      have pa := sq_nn a; have pb := sq_nn b; have pc := sq_nn c; have pd := sq_nn d
      have qa := small_sq (a := a) (s := 4) (by omega) (by decide)
      have qb := small_sq (a := b) (s := 4) (by omega) (by decide)
      have qc := small_sq (a := c) (s := 4) (by omega) (by decide)
      have qd := small_sq (a := d) (s := 4) (by omega) (by decide)
      have box : ∀ z : Int, -2 ≤ z ∧ z ≤ 2 → z ∈ ([-2, -1, 0, 1, 2] : List Int) := fun z hz => by
        have : z = -2 ∨ z = -1 ∨ z = 0 ∨ z = 1 ∨ z = 2 := by omega
        simpa using this
      exact units_box a (box a qa) b (box b qb) c (box c qc) d (box d qd) h e
    · intro m
      exact (by decide +kernel : ∀ x ∈ unitsL, normL x = 1) _ m
  by_cases e : normL [a, b, c, d] = 1
  · rw [decide_eq_true e, decide_eq_true (key.mp e)]
  · rw [decide_eq_false e, decide_eq_false fun z => e (key.mpr z)]
end TB

namespace TB
open PySem L2 PySem.Spec PyProof.Rows
/-! ### sorted of tuples of any integers; max of data -/
def leL (p q : List Int) : Bool := decide (p ≤ q)
def sortLL (ls : List (List Int)) : List (List Int) := ls.mergeSort leL
section
variable {X : Cx} {W : WX} {F0 H0 : Hp} {Γ : List S} {e : Expr} {pos np : Pos}
end
/-! max of a list of data -/
section
variable {X : Cx} {W : WX} {F0 H0 : Hp} {Γ : List S} {e : Expr} {pos np : Pos}
end
end TB

namespace TB
open PySem L2 PySem.Spec PyProof.Rows
/-! ### the order of lists of integers; what sorted and max give -/
theorem ll_trans {a b c : List Int} (h : a ≤ b) (g : b ≤ c) : a ≤ c := List.le_trans h g
theorem ll_anti {a b : List Int} (h : a ≤ b) (g : b ≤ a) : a = b := List.le_antisymm h g
theorem ll_total (a b : List Int) : a ≤ b ∨ b ≤ a := List.le_total a b
theorem leL_tot : PySem.W.TotalLe leL := ⟨fun a b c h g => decide_eq_true (ll_trans (of_decide_eq_true h) (of_decide_eq_true g)), fun a b => (ll_total a b).imp (fun h => decide_eq_true h) fun h => decide_eq_true h⟩
theorem sort_pw (ls : List (List Int)) : (sortLL ls).Pairwise (fun a b => a ≤ b) := (PySem.W.sort_pairwise leL_tot ls).imp fun h => of_decide_eq_true h
theorem sort_perm (ls : List (List Int)) : (sortLL ls).Perm ls := List.mergeSort_perm ls leL
theorem asc_uniq : ∀ {xs ys : List (List Int)}, xs.Perm ys → xs.Pairwise (fun a b => a ≤ b) → ys.Pairwise (fun a b => a ≤ b) → xs = ys
  | [], _, p, _, _ => p.symm.eq_nil.symm
  | x :: xs, [], p, _, _ => absurd p.eq_nil (List.cons_ne_nil _ _)
  | x :: xs, y :: ys, p, .cons h1 h2, .cons g1 g2 => by
    have e : x = y := by
      rcases List.mem_cons.mp (p.mem_iff.mp List.mem_cons_self) with e | m
      · exact e
      · rcases List.mem_cons.mp (p.mem_iff.mpr List.mem_cons_self) with e | m2
        · exact e.symm
        · exact ll_anti (h1 y m2) (g1 x m)
    subst e
    rw [asc_uniq (List.Perm.cons_inv p) h2 g2]
theorem sort_congr {xs ys : List (List Int)} (p : xs.Perm ys) : sortLL xs = sortLL ys := asc_uniq ((sort_perm xs).trans (p.trans (sort_perm ys).symm)) (sort_pw xs) (sort_pw ys)
theorem sort_id {xs : List (List Int)} (h : xs.Pairwise (fun a b => a ≤ b)) : sortLL xs = xs := asc_uniq (sort_perm xs) (sort_pw xs) h
theorem sort_to {xs ys : List (List Int)} (p : ys.Perm xs) (h : ys.Pairwise (fun a b => a ≤ b)) : sortLL xs = ys := (sort_congr p.symm).trans (sort_id h)
/-- two tuples in a tuple -/
def pd (f : List Int → List Int) (u : List Int) : D := .tuple [ti (f u), ti u]
end TB

namespace TB
open PySem L2 PySem.Spec PyProof.Rows
section
variable {X : Cx} {W : WX} {F0 H0 : Hp} {Γ : List S} {a b : Expr} {ds : List D} {x : D} {pos : Pos}
end
/-! a constant of the module: a tuple of tuples of integers -/
/-! lists of tuples of integers, compared -/
/-! the law's own units -/
/-! a small number that is drawn -/
end TB
namespace TB
end TB

namespace TB
open PySem L2 PySem.Spec PyProof.Rows
abbrev ClU := Bool × Value × (Addr → Value → Option Addr → TS)
section
variable {X : Cx} {n : Str} {i : Nat} {body : List Stmt} {e₀ : ExceptHandler} {es : List ExceptHandler} {l : List ClU} {pos : Pos} {tb : WX → TS} {O : WX}
end
section
variable {X : Cx} {W : WX} {F0 H0 : Hp} {Γ Γ1 : List S} {body su1 su2 : List Stmt} {b1 b2 : Stmt} {n x1 x2 : Str} {i : Nat} {p1 p2 q1 q2 pos : Pos} {C1 C2 c : Addr} {so : SO} {y : D}
end
section
variable {X : Cx} {W : WX} {F0 H0 : Hp} {Γ : List S} {a b e : Expr} {x y : D} {pos np : Pos} {c : Addr}
end
end TB

namespace TB
open PySem L2 PySem.Spec PyProof.Rows
/-! ### associates -/
def assoL (x : List Int) : List (List Int) := unitsL.map (mulL x)
def canonL (x : List Int) : List Int := (sortLL (assoL x)).getD 23 []
def leadU (x : List Int) : List Int := (unitsL.find? fun u => decide (mulL x u = canonL x)).getD []
def behindL (x : List Int) : List Int := conjL (leadU x)
theorem u_num {u : List Int} (h : u ∈ unitsL) : isNum u = true := (units_G u h).num
theorem asso_len (x : List Int) : (sortLL (assoL x)).length = 24 := by
  rw [(sort_perm _).length_eq, assoL, List.length_map]
  rfl
theorem getD_in {xs : List (List Int)} {i : Nat} (h : i < xs.length) : xs.getD i [] ∈ xs := by
  rw [List.getD_eq_getElem?_getD, List.getElem?_eq_getElem h]
  exact List.getElem_mem h
theorem asc_last {xs : List (List Int)} {n : Nat} (hl : xs.length = n + 1) (hp : xs.Pairwise (fun a b => a ≤ b)) : ∀ y ∈ xs, y ≤ xs.getD n [] := fun y hy => by
  obtain ⟨i, hi, rfl⟩ := List.getElem_of_mem hy
  rw [List.getD_eq_getElem?_getD, List.getElem?_eq_getElem (by omega)]
  show xs[i] ≤ xs[n]
  by_cases e : i = n
  · subst e
    exact List.le_refl _
  · exact (List.pairwise_iff_getElem.mp hp) i n hi (by omega) (by omega)
theorem canon_in (x : List Int) : canonL x ∈ assoL x := (sort_perm _).mem_iff.mp (getD_in (by rw [asso_len]; decide))
theorem canon_ge (x : List Int) : ∀ y ∈ assoL x, y ≤ canonL x := fun y hy => asc_last (asso_len x) (sort_pw _) y ((sort_perm _).mem_iff.mpr hy)
theorem canon_eq {x m : List Int} (h1 : m ∈ assoL x) (h2 : ∀ y ∈ assoL x, y ≤ m) : m = canonL x := ll_anti (canon_ge x m h1) (h2 _ (canon_in x))
/-- a number other than 0 may be taken away ahead -/
theorem norm0 {x : List Int} (h : isNum x = true) (h0 : normL x = 0) : zeroB x = true := by
  obtain ⟨a, b, c, d, rfl, k⟩ := num_cases h
  have n := norm_pr k
  rw [h0] at n
  have pa := sq_nn a; have pb := sq_nn b; have pc := sq_nn c; have pd := sq_nn d
  have z : ∀ y : Int, y * y = 0 → y = 0 := fun y hy => (Int.mul_eq_zero.mp hy).elim id id
  have ea := z a (by omega)
  have eb := z b (by omega)
  have ec := z c (by omega)
  have ed := z d (by omega)
  subst ea eb ec ed
  rfl
theorem times_inj {m : Int} (h : m ≠ 0) : ∀ {x y : List Int}, timesL m x = timesL m y → x = y
  | [], [], _ => rfl
  | [], _ :: _, e => by cases e
  | _ :: _, [], e => by cases e
  | a :: x, b :: y, e => by
    unfold timesL at e
    rw [List.map_cons, List.map_cons] at e
    injection e with e1 e2
    rw [Int.eq_of_mul_eq_mul_right h e1, times_inj h e2]
theorem lead_ok (x : List Int) : leadU x ∈ unitsL ∧ mulL x (leadU x) = canonL x := by
  obtain ⟨u, hu, e⟩ := List.mem_map.mp (canon_in x)
  unfold leadU
  cases q : unitsL.find? fun u => decide (mulL x u = canonL x) with
  | none => exact absurd (decide_eq_true e) (List.find?_eq_none.mp q u hu)
  | some v => exact ⟨List.mem_of_find?_eq_some q, of_decide_eq_true (List.find?_some (p := fun u => decide (mulL x u = canonL x)) q)⟩
theorem units_cj : ∀ a ∈ unitsL, conjL a ∈ unitsL ∧ mulL a (conjL a) = [2, 0, 0, 0] ∧ mulL (conjL a) a = [2, 0, 0, 0] := by decide +kernel
theorem behind_u (x : List Int) : behindL x ∈ unitsL := (units_cj _ (lead_ok x).1).1
theorem mul_oneR {x : List Int} (hx : isNum x = true) : mulL x [2, 0, 0, 0] = x := by
  rw [show ([2, 0, 0, 0] : List Int) = [2 * 1, 0, 0, 0] from rfl, (mul_int 1 hx).2]
  unfold timesL
  simp
/-- the associates of an associate -/
theorem asso_perm {x u : List Int} (hx : isNum x = true) (hu : u ∈ unitsL) : (assoL (mulL x u)).Perm (assoL x) := by
  have e : assoL (mulL x u) = (unitsL.map (mulL u)).map (mulL x) := by
    unfold assoL
    rw [List.map_map]
    refine List.map_congr_left fun v hv => ?_
    exact mul_asc hx (u_num hu) (u_num hv)
  rw [e]
  exact ((units_permR u hu).symm).map _
theorem canon_asso {x u : List Int} (hx : isNum x = true) (hu : u ∈ unitsL) : canonL (mulL x u) = canonL x := by
  unfold canonL
  rw [sort_congr (asso_perm hx hu)]
theorem G.behind (x : List Int) : G 10 (behindL x) := units_G _ (behind_u x)
/-- promises of defs over a number that is not 0 -/
def RZ (c q : Addr) (g : List Int → Out) : List D → Out → Prop := fun ds o => ∃ d ns, ds = [d] ∧ Seq d ns ∧ ns.length < 1000 ∧ Sm 300000 ns ∧ o = if isNum ns = true then (if zeroB ns = true then .x q else g ns) else .x c
end TB

namespace TB
open PySem L2 PySem.Spec PyProof.Rows
section
variable {X : Cx} {W : WX} {F0 H0 : Hp} {Γ : List S} {a b e : Expr} {ds es : List D} {pos : Pos}
end
/-! ### k05 -/
/-- not 0: by the norm -/
theorem zero_norm {x : List Int} (h : isNum x = true) : zeroB x = false ↔ normL x ≠ 0 := by
  constructor
  · intro z e
    rw [norm0 h e] at z
    cases z
  · intro z
    cases q : zeroB x with
    | false => rfl
    | true =>
      refine absurd ?_ z
      have e := zero_eq h
      rw [q, decide_eq_true_eq] at e
      rw [e]
      decide
/-- three times a number -/
theorem num_times {x : List Int} (m : Int) (h : isNum x = true) : isNum (timesL m x) = true := by
  obtain ⟨a, b, c, d, rfl, k⟩ := num_cases h
  exact isNum_of (par_mul m k)
theorem norm_timesL {x : List Int} (m : Int) (h : isNum x = true) : normL (timesL m x) = m * m * normL x := by
  rw [← (mul_int m h).1, norm_mul (num_int m) h]
  have : normL [2 * m, 0, 0, 0] = m * m := by
    have n := norm_pr (a := 2 * m) (b := 0) (c := 0) (d := 0) ⟨by omega, by omega, by omega⟩
    have e : 2 * m * (2 * m) = 4 * (m * m) := by grind
    omega
  rw [this]
theorem times_mul {x y : List Int} (m : Int) (hx : isNum x = true) (hy : isNum y = true) : mulL (timesL m x) y = timesL m (mulL x y) := by
  rw [← (mul_int m hx).1, mul_asc (num_int m) hx hy, (mul_int m (num_mul hx hy)).1]
theorem canon_norm {x : List Int} (hx : isNum x = true) : normL (canonL x) = normL x := by
  obtain ⟨h1, h2⟩ := lead_ok x
  have n1 : ∀ u ∈ unitsL, normL u = 1 := by decide +kernel
  rw [← h2, norm_mul hx (u_num h1), n1 _ h1, Int.mul_one]
end TB
namespace TB
end TB
namespace TB
end TB

namespace TB
open PySem L2 PySem.Spec PyProof.Rows PySem.Calls
/-! ### gcd of four -/
def gcd4 (a b c d : Int) : Nat := (((Nat.gcd 0 a.natAbs).gcd b.natAbs).gcd c.natAbs).gcd d.natAbs
section
variable {X : Cx} {W : WX} {F0 H0 : Hp} {Γ : List S} {e1 e2 e3 e4 : Expr} {a b c d : Int} {pos np : Pos}
end
/-! ### content -/
theorem par_of_even {a b c d : Int} (h1 : ∃ z, a = 2 * z) (h2 : ∃ z, b = 2 * z) (h3 : ∃ z, c = 2 * z) (h4 : ∃ z, d = 2 * z) : Par a b c d := by
  obtain ⟨p, rfl⟩ := h1
  obtain ⟨q, rfl⟩ := h2
  obtain ⟨r, rfl⟩ := h3
  obtain ⟨s, rfl⟩ := h4
  exact ⟨by omega, by omega, by omega⟩
theorem gcd4_dvd (a b c d : Int) : ((gcd4 a b c d : Nat) : Int) ∣ a ∧ ((gcd4 a b c d : Nat) : Int) ∣ b ∧ ((gcd4 a b c d : Nat) : Int) ∣ c ∧ ((gcd4 a b c d : Nat) : Int) ∣ d := by
  unfold gcd4
  rw [Nat.gcd_zero_left]
  have up : ∀ {m : Nat} {z : Int}, m ∣ z.natAbs → (m : Int) ∣ z := fun h => Int.natAbs_dvd_natAbs.mp h
  have h1 := Nat.gcd_dvd_left a.natAbs b.natAbs
  have h2 := Nat.gcd_dvd_right a.natAbs b.natAbs
  have h3 := Nat.gcd_dvd_left (a.natAbs.gcd b.natAbs) c.natAbs
  have h4 := Nat.gcd_dvd_right (a.natAbs.gcd b.natAbs) c.natAbs
  have h5 := Nat.gcd_dvd_left ((a.natAbs.gcd b.natAbs).gcd c.natAbs) d.natAbs
  have h6 := Nat.gcd_dvd_right ((a.natAbs.gcd b.natAbs).gcd c.natAbs) d.natAbs
  exact ⟨up (Nat.dvd_trans h5 (Nat.dvd_trans h3 h1)), up (Nat.dvd_trans h5 (Nat.dvd_trans h3 h2)), up (Nat.dvd_trans h5 h4), up h6⟩
theorem gcd4_great {a b c d m : Int} (h1 : m ∣ a) (h2 : m ∣ b) (h3 : m ∣ c) (h4 : m ∣ d) : m ∣ ((gcd4 a b c d : Nat) : Int) := by
  unfold gcd4
  rw [Nat.gcd_zero_left]
  refine Int.natAbs_dvd_natAbs.mp ?_
  exact Nat.dvd_gcd (Nat.dvd_gcd (Nat.dvd_gcd (Int.natAbs_dvd_natAbs.mpr h1) (Int.natAbs_dvd_natAbs.mpr h2)) (Int.natAbs_dvd_natAbs.mpr h3)) (Int.natAbs_dvd_natAbs.mpr h4)
theorem gcd4_pos {a b c d : Int} (h : zeroB [a, b, c, d] = false) : 0 < ((gcd4 a b c d : Nat) : Int) := by
  by_cases z : ((gcd4 a b c d : Nat) : Int) = 0
  · obtain ⟨h1, h2, h3, h4⟩ := gcd4_dvd a b c d
    rw [z] at h1 h2 h3 h4
    have e1 := Int.zero_dvd.mp h1
    have e2 := Int.zero_dvd.mp h2
    have e3 := Int.zero_dvd.mp h3
    have e4 := Int.zero_dvd.mp h4
    subst e1 e2 e3 e4
    cases h
  · omega
def gcdL (x : List Int) : Int := match x with
  | [a, b, c, d] => ((gcd4 a b c d : Nat) : Int)
  | _ => 0
def contL (x : List Int) : Int := if isNum (x.map fun p => p / gcdL x) = true then gcdL x else gcdL x / 2
/-- m divides the number -/
def Div (m : Int) (x : List Int) : Prop := ∃ y, isNum y = true ∧ x = timesL m y
theorem div_iff {x : List Int} (hx : isNum x = true) (h0 : zeroB x = false) {m : Int} (hm : 0 < m) : 0 < contL x ∧ (Div m x ↔ m ∣ contL x) := by
  obtain ⟨a, b, c, d, rfl, k⟩ := num_cases hx
  have hg := gcd4_pos h0
  obtain ⟨⟨a', ea⟩, ⟨b', eb⟩, ⟨c', ec⟩, ⟨d', ed⟩⟩ := gcd4_dvd a b c d
  have great : ∀ m : Int, m ∣ a → m ∣ b → m ∣ c → m ∣ d → m ∣ ((gcd4 a b c d : Nat) : Int) := fun m h1 h2 h3 h4 => gcd4_great h1 h2 h3 h4
  have hgl : gcdL [a, b, c, d] = ((gcd4 a b c d : Nat) : Int) := rfl
  unfold contL
  rw [hgl]
  generalize ((gcd4 a b c d : Nat) : Int) = g at *
  have g0 : g ≠ 0 := by omega
  have em : ([a, b, c, d] : List Int).map (fun p => p / g) = [a', b', c', d'] := by
    show [a / g, b / g, c / g, d / g] = _
    rw [ea, eb, ec, ed, Int.mul_ediv_cancel_left _ g0, Int.mul_ediv_cancel_left _ g0, Int.mul_ediv_cancel_left _ g0, Int.mul_ediv_cancel_left _ g0]
  rw [em]
  have dv : ∀ {y : List Int}, isNum y = true → [a, b, c, d] = timesL m y → ∃ n, g = m * n ∧ y = timesL n [a', b', c', d'] := fun {y} hy e => by
    obtain ⟨p, q, r, s, rfl, _⟩ := num_cases hy
    have e' : [a, b, c, d] = [p * m, q * m, r * m, s * m] := e
    injection e' with e1 e'
    injection e' with e2 e'
    injection e' with e3 e'
    injection e' with e4 _
    obtain ⟨n, hn⟩ := great m ⟨p, by rw [e1, Int.mul_comm]⟩ ⟨q, by rw [e2, Int.mul_comm]⟩ ⟨r, by rw [e3, Int.mul_comm]⟩ ⟨s, by rw [e4, Int.mul_comm]⟩
    refine ⟨n, hn, ?_⟩
    have one : ∀ {p z z' : Int}, z = p * m → z = g * z' → p = z' * n := fun {p z z'} h1 h2 => by
      refine Int.eq_of_mul_eq_mul_right (show m ≠ 0 by omega) ?_
      rw [← h1, h2, hn]
      grind
    show [p, q, r, s] = [a' * n, b' * n, c' * n, d' * n]
    rw [one e1 ea, one e2 eb, one e3 ec, one e4 ed]
  by_cases hn : isNum [a', b', c', d'] = true
  · rw [if_pos hn]
    refine ⟨hg, fun ⟨y, hy, e⟩ => ?_, fun ⟨n, e⟩ => ⟨timesL n [a', b', c', d'], num_times n hn, ?_⟩⟩
    · obtain ⟨n, h1, _⟩ := dv hy e
      exact ⟨n, h1⟩
    · show _ = [a' * n * m, b' * n * m, c' * n * m, d' * n * m]
      have sw : ∀ z : Int, g * z = z * n * m := fun z => by rw [e]; grind
      rw [ea, eb, ec, ed, sw, sw, sw, sw]
  · rw [if_neg hn]
    have nk : ¬ Par a' b' c' d' := fun h => hn (isNum_of h)
    obtain ⟨k1, k2, k3⟩ := k
    have hev : g % 2 = 0 := by
      rcases Int.emod_two_eq g with h | h
      · exact h
      · refine absurd ?_ nk
        have od : ∀ {z z' : Int}, z = g * z' → z % 2 = z' % 2 := fun {z z'} e => by
          rw [e, Int.mul_emod, h, Int.one_mul, Int.emod_emod]
        rw [od ea, od eb] at k1
        rw [od ea, od ec] at k2
        rw [od ea, od ed] at k3
        exact ⟨k1, k2, k3⟩
    obtain ⟨h, eh⟩ : ∃ h, g = 2 * h := ⟨g / 2, by omega⟩
    have e2 : g / 2 = h := by omega
    rw [e2]
    refine ⟨by omega, fun ⟨y, hy, e⟩ => ?_, fun ⟨n, e⟩ => ⟨timesL (2 * n) [a', b', c', d'], ?_, ?_⟩⟩
    · obtain ⟨n, h1, h2⟩ := dv hy e
      have hne : n % 2 = 0 := by
        rcases Int.emod_two_eq n with h | h
        · exact h
        · refine absurd ?_ nk
          rw [h2] at hy
          obtain ⟨p1, p2, p3⟩ := (isNum4 (a' * n) (b' * n) (c' * n) (d' * n)).mp hy
          have od : ∀ z : Int, (z * n) % 2 = z % 2 := fun z => by rw [Int.mul_emod, h, Int.mul_one, Int.emod_emod]
          rw [od, od] at p1 p2 p3
          exact ⟨p1, p2, p3⟩
      obtain ⟨n', en⟩ : ∃ n', n = 2 * n' := ⟨n / 2, by omega⟩
      refine ⟨n', ?_⟩
      have : 2 * h = 2 * (m * n') := by rw [← eh, h1, en]; grind
      omega
    · show isNum [a' * (2 * n), b' * (2 * n), c' * (2 * n), d' * (2 * n)] = true
      exact isNum_of (par_of_even ⟨a' * n, by grind⟩ ⟨b' * n, by grind⟩ ⟨c' * n, by grind⟩ ⟨d' * n, by grind⟩)
    · show _ = [a' * (2 * n) * m, b' * (2 * n) * m, c' * (2 * n) * m, d' * (2 * n) * m]
      have sw : ∀ z : Int, g * z = z * (2 * n) * m := fun z => by rw [eh, e]; grind
      rw [ea, eb, ec, ed, sw, sw, sw, sw]
end TB
namespace TB
open PySem L2 PySem.Spec PyProof.Rows
section
variable {X : Cx} {W : WX} {F0 H0 : Hp} {Γ : List S} {a b : Expr} {i j : Int} {pos : Pos}
end
theorem cont_pos {x : List Int} (hx : isNum x = true) (h0 : zeroB x = false) : 0 < contL x := (div_iff hx h0 (m := 1) (by decide)).1
theorem cont_div {x : List Int} (hx : isNum x = true) (h0 : zeroB x = false) : Div (contL x) x := (div_iff hx h0 (cont_pos hx h0)).2.mpr (Int.dvd_refl _)
theorem div_mul {m : Int} {x u : List Int} (hu : isNum u = true) (h : Div m x) : Div m (mulL x u) := by
  obtain ⟨y, hy, rfl⟩ := h
  exact ⟨mulL y u, num_mul hy hu, times_mul m hy hu⟩
end TB

namespace TB
open PySem L2 PySem.Spec PyProof.Rows
section
variable {X : Cx} {W : WX} {F0 H0 : Hp} {Γ : List S} {elt it c : Expr} {n : Str} {py pos : Pos} {scope : Scope} {xs : List (List Int)}
end
/-! ### k10 -/
theorem units_n1 : ∀ u ∈ unitsL, normL u = 1 := by decide +kernel
theorem canon_canon {x : List Int} (hx : isNum x = true) : canonL (canonL x) = canonL x := by
  obtain ⟨h1, h2⟩ := lead_ok x
  rw [← h2, canon_asso hx h1, h2]
end TB

namespace TB
open PySem L2 PySem.Spec PyProof.Rows
/-! ### k06 -/
def quoL (m : Int) (x : List Int) : List Int := x.map fun p => p / m
theorem quo_of_times {m : Int} (hm : 0 < m) (y : List Int) : quoL m (timesL m y) = y := by
  unfold timesL quoL
  rw [List.map_map]
  conv => rhs; rw [← List.map_id y]
  refine List.map_congr_left fun p _ => ?_
  exact Int.mul_ediv_cancel p (by omega)
theorem times_times (m n : Int) (x : List Int) : timesL m (timesL n x) = timesL (n * m) x := by
  unfold timesL
  rw [List.map_map]
  refine List.map_congr_left fun p _ => ?_
  show p * n * m = p * (n * m)
  rw [Int.mul_assoc]
theorem Div.le {x : List Int} (hx : isNum x = true) (h0 : zeroB x = false) {m : Int} (hm : 0 < m) (h : Div m x) : m ≤ contL x ∧ contL x % m = 0 := by
  have d := (div_iff hx h0 hm).2.mp h
  exact ⟨Int.le_of_dvd (cont_pos hx h0) d, Int.emod_eq_zero_of_dvd d⟩
end TB

namespace TB
open PySem L2 PySem.Spec PyProof.Rows
/-! ### max(a, b) of data -/
section
variable {prog : Program} {w : World} {A : Around} {E : Value → Shared → Prop} {s : Shared}
end
section
variable {X : Cx} {W : WX} {F0 H0 : Hp} {Γ : List S} {a b : Expr} {pos np : Pos}
end
end TB

namespace TB
open PySem L2 PySem.Spec PyProof.Rows
/-! ### dividing -/
theorem num_sub {x y : List Int} (hx : isNum x = true) (hy : isNum y = true) : isNum (subL x y) = true := by
  obtain ⟨a, b, c, d, rfl, k1, k2, k3⟩ := num_cases hx
  obtain ⟨e, f, g, h, rfl, l1, l2, l3⟩ := num_cases hy
  exact isNum_of (a := a - e) (b := b - f) (c := c - g) (d := d - h) ⟨by omega, by omega, by omega⟩
theorem norm_conj {x : List Int} (hx : isNum x = true) : normL (conjL x) = normL x := by
  obtain ⟨a, b, c, d, rfl, k⟩ := num_cases hx
  have kc : Par a (-b) (-c) (-d) := by obtain ⟨k1, k2, k3⟩ := k; exact ⟨by omega, by omega, by omega⟩
  have n1 := norm_pr k
  have n2 := norm_pr kc
  show normL [a, -b, -c, -d] = _
  have : -b * -b = b * b := by grind
  have : -c * -c = c * c := by grind
  have : -d * -d = d * d := by grind
  omega
theorem norm_pos {x : List Int} (hx : isNum x = true) (h : zeroB x = false) : 0 < normL x := by
  have := norm_nn hx
  have := (zero_norm hx).mp h
  omega
/-! left divisors -/
def LDiv (b a : List Int) : Prop := ∃ y, isNum y = true ∧ a = mulL b y
theorem sub_zero {x y : List Int} (hx : isNum x = true) (hy : isNum y = true) (h : zeroB (subL x y) = true) : x = y := by
  have e := zero_eq (num_sub hx hy)
  rw [h, decide_eq_true_eq] at e
  obtain ⟨a, b, c, d, rfl, _⟩ := num_cases hx
  obtain ⟨p, q, r, s, rfl, _⟩ := num_cases hy
  have e' : [a - p, b - q, c - r, d - s] = [0, 0, 0, 0] := e
  injection e' with e1 e'
  injection e' with e2 e'
  injection e' with e3 e'
  injection e' with e4 _
  rw [show a = p by omega, show b = q by omega, show c = r by omega, show d = s by omega]
end TB

namespace TB
open PySem L2 PySem.Spec PyProof.Rows
/-! ### errors on the way -/
section
variable {X : Cx} {W : WX} {F0 H0 : Hp} {Γ : List S} {a b e tg : Expr} {es : List Expr} {x : D} {pos np : Pos} {c : Addr}
end
/-! ### greatest common left divisors -/
def LGcd (a b g : List Int) : Prop := isNum g = true ∧ zeroB g = false ∧ LDiv g a ∧ LDiv g b ∧ ∃ x y, isNum x = true ∧ isNum y = true ∧ g = addL (mulL a x) (mulL b y)
theorem LDiv.mul {d a y : List Int} (hd : isNum d = true) (hy : isNum y = true) (h : LDiv d a) : LDiv d (mulL a y) := by
  obtain ⟨z, hz, rfl⟩ := h
  exact ⟨mulL z y, num_mul hz hy, mul_asc hd hz hy⟩
theorem LDiv.add {d a b : List Int} (hd : isNum d = true) (h : LDiv d a) (g : LDiv d b) : LDiv d (addL a b) := by
  obtain ⟨y, hy, rfl⟩ := h
  obtain ⟨z, hz, rfl⟩ := g
  exact ⟨addL y z, num_add hy hz, (mul_addr hd hy hz).symm⟩
theorem LDiv.trans {d e a : List Int} (hd : isNum d = true) (h : LDiv d e) (g : LDiv e a) : LDiv d a := by
  obtain ⟨y, hy, rfl⟩ := g
  exact h.mul hd hy
theorem zero_is {b : List Int} (hb : isNum b = true) (h : zeroB b = true) : b = [0, 0, 0, 0] := by
  have e := zero_eq hb
  rw [h, decide_eq_true_eq] at e
  exact e
/-- parts of numbers with a norm -/
theorem norm_G {x : List Int} {n : Nat} (hx : isNum x = true) (h : normL x < 2 ^ (2 * n)) : G (n + 1) x := by
  refine ⟨hx, ?_⟩
  obtain ⟨a, b, c, d, rfl, k⟩ := num_cases hx
  have e := norm_pr k
  have pa := sq_nn a; have pb := sq_nn b; have pc := sq_nn c; have pd := sq_nn d
  have e2 : (2 : Int) ^ (n + 1) * 2 ^ (n + 1) = 4 * 2 ^ (2 * n) := by
    rw [← Int.pow_add, show n + 1 + (n + 1) = 2 * n + 2 by omega, Int.pow_add]
    omega
  have key : ∀ z : Int, z * z ≤ 4 * normL [a, b, c, d] → Bt (n + 1) z := fun z hz => by
    unfold Bt
    refine Classical.byContradiction fun c => ?_
    have c' : (2 : Int) ^ (n + 1) ≤ (z.natAbs : Int) := by
      have : 2 ^ (n + 1) ≤ z.natAbs := by omega
      exact_mod_cast this
    have p2 : (0 : Int) ≤ 2 ^ (n + 1) := Int.le_of_lt (Int.pow_pos (by decide))
    have := Int.mul_le_mul c' c' p2 (by omega)
    have e3 : (z.natAbs : Int) * (z.natAbs : Int) = z * z := Int.natAbs_mul_self
    omega
  intro y hy
  have hy' : y = a ∨ y = b ∨ y = c ∨ y = d := by simpa using hy
  rcases hy' with rfl | rfl | rfl | rfl
  · exact key _ (by omega)
  · exact key _ (by omega)
  · exact key _ (by omega)
  · exact key _ (by omega)
end TB

namespace TB
open PySem L2 PySem.Spec PyProof.Rows
end TB
namespace TB
open PySem L2 PySem.Spec PyProof.Rows
/-! ### the draws of stage 2 -/
end TB

namespace TB
open PySem L2 PySem.Spec PyProof.Rows
/-! ### from the other side -/
/-! facts about the greatest common left divisor -/
theorem LDiv.refl {a : List Int} (ha : isNum a = true) : LDiv a a := ⟨[2, 0, 0, 0], by decide, (mul_oneR ha).symm⟩
theorem LGcd.symm {a b g : List Int} (ha : isNum a = true) (hb : isNum b = true) (h : LGcd a b g) : LGcd b a g := by
  obtain ⟨g1, g2, g3, g4, x, y, hx, hy, e⟩ := h
  refine ⟨g1, g2, g4, g3, y, x, hy, hx, ?_⟩
  rw [e]
  have n1 := num_mul ha hx
  have n2 := num_mul hb hy
  generalize mulL a x = p at *
  generalize mulL b y = q at *
  obtain ⟨p1, p2, p3, p4, rfl, _⟩ := num_cases n1
  obtain ⟨q1, q2, q3, q4, rfl, _⟩ := num_cases n2
  show [p1 + q1, p2 + q2, p3 + q3, p4 + q4] = [q1 + p1, q2 + p2, q3 + p3, q4 + p4]
  rw [Int.add_comm p1, Int.add_comm p2, Int.add_comm p3, Int.add_comm p4]
end TB
namespace TB
open PySem L2 PySem.Spec PyProof.Rows
end TB
namespace TB
open PySem L2 PySem.Spec PyProof.Rows
section
variable {X : Cx} {W : WX} {F0 H0 : Hp} {Γ : List S} {a b : Expr} {x y : D} {n1 n2 : Str} {px py pt pos pt2 : Pos} {kt k2 : Nat}
end
end TB
namespace TB
end TB

namespace TB
open PySem L2 PySem.Spec PyProof.Rows
/-! ### zip of a tuple and a list, either way round -/
end TB

namespace TB
open PySem L2 PySem.Spec PyProof.Rows
/-! ### the rows of the algorithm, with their makers -/
structure Row where
  x : List Int
  s : List Int
  t : List Int
def Row.l (r : Row) : List (List Int) := [r.x, r.s, r.t]
theorem G.sub {m n : Nat} {x y : List Int} (a : G m x) (b : G n y) : G (max m n + 1) (subL x y) := by
  refine ⟨num_sub a.num b.num, fun z hz => ?_⟩
  obtain ⟨⟨p, q⟩, hpq, rfl⟩ := List.mem_map.mp hz
  have h := List.of_mem_zip hpq
  exact (a.sm p h.1).sub (b.sm q h.2)
end TB

namespace TB
open PySem L2 PySem.Spec PyProof.Rows
section
variable {X : Cx} {W : WX} {F0 H0 : Hp} {Γ : List S} {e elt it a b : Expr} {pos py pz tp : Pos} {n n2 : Str} {scope : Scope} {i j kk : Nat} {ps : List (D × D)}
end
end TB

namespace TB
open PySem L2 PySem.Spec PyProof.Rows
/-! ### rows as values: tuples first, lists from the third on -/
section
variable {X : Cx} {W : WX} {F0 H0 : Hp} {Γ : List S} {a b e : Expr} {es : List Expr} {np pos tp : Pos} {kk k : Nat} {p q : Row}
end
end TB

namespace TB
open PySem L2 PySem.Spec PyProof.Rows
/-! ### the makers of a row are not both 0 -/
end TB

namespace TB
open PySem L2 PySem.Spec PyProof.Rows
/-! ### the common divisor of a list -/
/-! ### whatever is returned or raised -/
/-! ### the calls of the law on errors -/
def qz (k : Nat) (a b : List Int) : Bool := (decide (k < 6) && zeroB b) || ((decide (5 < k) && (zeroB a && zeroB b)) || (decide (k = 10) && (zeroB a || zeroB b)))
end TB

namespace TB
open PySem L2 PySem.Spec PyProof.Rows
/-! ### isinstance(a tuple, tuple) -/
section
variable {X : Cx} {W : WX} {F0 H0 : Hp} {Γ : List S} {a b e : Expr} {ds : List D} {pos np np2 : Pos} {n : Str}
end
end TB

namespace TB
open PySem L2 PySem.Spec PyProof.Rows
/-! ### tuples and lists mixed -/
theorem G.up {m n : Nat} {x : List Int} (g : G m x) (h : m ≤ n) : G n x := ⟨g.num, g.sm.mono h⟩
/-! ### the law's own tests -/
end TB

namespace TB
open PySem L2 PySem.Spec PyProof.Rows
/-! ### the inner product of two numbers -/
/-! ### the norm of a matrix: it stays in a step -/
end TB

namespace TB
open PySem L2 PySem.Spec PyProof.Rows
/-! ### the least multiple -/
end TB

namespace TB
open PySem L2 PySem.Spec PyProof.Rows
end TB

namespace TB
open PySem L2 PySem.Spec PyProof.Rows
/-! ### the common divisor of a list does not ask for its order -/
end TB

namespace TB
open PySem L2 PySem.Spec PyProof.Rows
/-! ### comprehensions with any names, any tests, one walk or two -/
/-- a name, some names -/
inductive Tgt where
  | one (i : Nat)
  | many (is : List Nat)
  | manyS (is : List Nat)
def Tgt.vs : Tgt → List Nat
  | .one i => [i]
  | .many is => is
  | .manyS is => is
def gNs : List Nat → TGs
  | [] => gNil
  | i :: is => gCons (gName i) (gNs is)
/-- the parts of a row, be it a tuple or a list -/
def gSq (K : PySem.W.Frag) (n : Nat) (t : TGs) : TG := fun v σ H Q => ∃ a xs, v = .ref a ∧ (SqT K H a xs ∨ SqL K H a xs) ∧ xs.length = n ∧ t xs σ H Q
def Tgt.g (K : PySem.W.Frag) : Tgt → TG
  | .one i => gName i
  | .many is => gTup K is.length (gNs is)
  | .manyS is => gSq K is.length (gNs is)
def setG : List Nat → List D → List S → List S
  | i :: is, d :: ds, g => setG is ds (g.set i (.d d))
  | _, _, g => g
def Tgt.put : Tgt → D → List S → List S
  | .one i, d, g => g.set i (.d d)
  | .many is, .tuple ds, g => setG is ds g
  | .many _, _, g => g
  | .manyS is, .tuple ds, g => setG is ds g
  | .manyS is, .list ds, g => setG is ds g
  | .manyS _, _, g => g
def Tgt.fits : Tgt → D → Prop
  | .one _, _ => True
  | .many is, d => ∃ ds, d = .tuple ds ∧ ds.length = is.length
  | .manyS is, d => ∃ ds, (d = .tuple ds ∨ d = .list ds) ∧ ds.length = is.length
def wipeG (g : List S) : List Nat → List S
  | [] => g
  | v :: vs => (wipeG g vs).set v .u
def putV : List Nat → List V → L2.St → L2.St
  | i :: is, v :: vs, σ => putV is vs (σ.set i (some v))
  | _, _, σ => σ
theorem wipe_len (σ : L2.St) : ∀ vs : List Nat, (wipe σ vs).length = σ.length
  | [] => rfl
  | v :: vs => by rw [wipe, List.length_set, wipe_len σ vs]
theorem wipe_get (σ : L2.St) (k : Nat) : ∀ vs : List Nat, (wipe σ vs)[k]? = if k ∈ vs then (σ[k]?).map (fun _ => none) else σ[k]?
  | [] => by simp [wipe]
  | v :: vs => by
    rw [wipe, List.getElem?_set, wipe_len, wipe_get σ k vs]
    by_cases h : v = k
    · subst h
      rw [if_pos rfl, if_pos List.mem_cons_self]
      by_cases hl : v < σ.length
      · rw [if_pos hl, List.getElem?_eq_getElem hl]
        rfl
      · rw [if_neg hl, List.getElem?_eq_none (by omega)]
        rfl
    · rw [if_neg h]
      by_cases h2 : k ∈ vs
      · rw [if_pos h2, if_pos (List.mem_cons_of_mem _ h2)]
      · rw [if_neg h2, if_neg (fun q => by rcases List.mem_cons.mp q with q | q; exact h q.symm; exact h2 q)]
theorem putV_len : ∀ (is : List Nat) (vs : List V) (σ : L2.St), (putV is vs σ).length = σ.length
  | [], _, _ => rfl
  | i :: is, [], _ => rfl
  | i :: is, v :: vs, σ => by rw [putV, putV_len is vs, List.length_set]
theorem putV_get (k : Nat) : ∀ (is : List Nat) (vs : List V) (σ : L2.St), k ∉ is → (putV is vs σ)[k]? = σ[k]?
  | [], _, _, _ => rfl
  | i :: is, [], _, _ => rfl
  | i :: is, v :: vs, σ, h => by
    rw [putV, putV_get k is vs _ (fun q => h (List.mem_cons_of_mem _ q)), List.getElem?_set_ne (fun q => h (by rw [q]; exact List.mem_cons_self))]
theorem wipe_eq {σ τ : L2.St} {vs : List Nat} (hl : σ.length = τ.length) (h : ∀ k, k ∉ vs → σ[k]? = τ[k]?) : wipe σ vs = wipe τ vs := by
  apply List.ext_getElem?
  intro k
  rw [wipe_get, wipe_get]
  by_cases hk : k ∈ vs
  · rw [if_pos hk, if_pos hk]
    by_cases h2 : k < σ.length
    · rw [List.getElem?_eq_getElem h2, List.getElem?_eq_getElem (by omega)]
      rfl
    · rw [List.getElem?_eq_none (by omega), List.getElem?_eq_none (by omega)]
  · rw [if_neg hk, if_neg hk, h k hk]
section
variable {K : PySem.W.Frag} {F0 H0 F H : Hp} {σ : L2.St} {Γ : List S}
theorem Ok.wipe (ok : Ok K F0 H0 F σ H Γ) : ∀ vs : List Nat, Ok K F0 H0 F (L2.wipe σ vs) H (wipeG Γ vs)
  | [] => ok
  | v :: vs => (ok.wipe vs).forget v none
theorem Ok.puts : ∀ (is : List Nat) {vs : List V} {ds : List D} {σ : L2.St} {Γ : List S}, Ok K F0 H0 F σ H Γ → DpAll K F vs ds → Ok K F0 H0 F (putV is vs σ) H (setG is ds Γ)
  | [], _, _, _, _, ok, _ => by
    unfold putV setG
    exact ok
  | i :: is, _, _, _, _, ok, .nil => by
    unfold putV setG
    exact ok
  | i :: is, _, _, _, _, ok, .cons h1 h2 => by
    unfold putV setG
    exact Ok.puts is (ok.set i h1) h2
theorem gNs_run : ∀ (is : List Nat) (vs : List V) (σ : L2.St) (H : Hp) (Q : L2.St → Hp → Prop), vs.length = is.length → Q (putV is vs σ) H → gNs is vs σ H Q
  | [], [], σ, H, Q, _, q => ⟨rfl, q⟩
  | i :: is, v :: vs, σ, H, Q, hl, q => ⟨v, vs, rfl, gNs_run is vs _ H Q (by simpa using hl) q⟩
  | [], _ :: _, _, _, _, hl, _ => by simp at hl
  | _ :: _, [], _, _, _, hl, _ => by simp at hl
theorem tgt_run {t : Tgt} {ws : List Nat} {v : V} {d : D} {Q : L2.St → Hp → Prop} (hs : ∀ i ∈ t.vs, i ∈ ws) (hf : t.fits d) (ex : Ex F H) (dp : Dp K F v d)
    (q : ∀ σ', L2.wipe σ' ws = L2.wipe σ ws → (∀ F' H', Ex F F' → Ok K F0 H0 F' σ H' Γ → Ok K F0 H0 F' σ' H' (t.put d (wipeG Γ ws))) → Q σ' H) : t.g K v (L2.wipe σ ws) H Q := by
  cases t with
  | one i =>
    refine q _ ?_ fun F' H' e ok => (ok.wipe ws).set i (dp_ex e _ _ dp)
    refine wipe_eq (by rw [List.length_set, wipe_len]) fun k hk => ?_
    rw [List.getElem?_set_ne (fun e => hk (by rw [← e]; exact hs i (by simp [Tgt.vs]))), wipe_get, if_neg hk]
  | many is =>
    obtain ⟨ds, e, hl⟩ := hf
    subst e
    cases dp with
    | tup h1 h2 =>
      have hl2 := (da_len h2).trans hl
      refine ⟨_, _, rfl, st_ex ex h1, hl2, gNs_run is _ _ H Q hl2 (q _ ?_ fun F' H' e ok => Ok.puts is (ok.wipe ws) (da_ex e _ _ h2))⟩
      refine wipe_eq (by rw [putV_len, wipe_len]) fun k hk => ?_
      rw [putV_get k is _ _ (fun e => hk (hs k e)), wipe_get, if_neg hk]
  | manyS is =>
    obtain ⟨ds, e, hl⟩ := hf
    rcases e with e | e
    · subst e
      cases dp with
      | tup h1 h2 =>
        have hl2 := (da_len h2).trans hl
        refine ⟨_, _, rfl, .inl (st_ex ex h1), hl2, gNs_run is _ _ H Q hl2 (q _ ?_ fun F' H' e ok => Ok.puts is (ok.wipe ws) (da_ex e _ _ h2))⟩
        refine wipe_eq (by rw [putV_len, wipe_len]) fun k hk => ?_
        rw [putV_get k is _ _ (fun e => hk (hs k e)), wipe_get, if_neg hk]
    · subst e
      cases dp with
      | lst h1 h2 =>
        have hl2 := (da_len h2).trans hl
        refine ⟨_, _, rfl, .inr (sl_ex ex h1), hl2, gNs_run is _ _ H Q hl2 (q _ ?_ fun F' H' e ok => Ok.puts is (ok.wipe ws) (da_ex e _ _ h2))⟩
        refine wipe_eq (by rw [putV_len, wipe_len]) fun k hk => ?_
        rw [putV_get k is _ _ (fun e => hk (hs k e)), wipe_get, if_neg hk]
/-- one walk: what is asked of it -/
theorem lcA_red {W : WX} {α : Type} {xs : List α} {enc : α → D} {t : Tgt} {f : α → D} {p : α → Bool} {tt : TT} (hf : ∀ a ∈ xs, t.fits (enc a)) (ht : ∀ a, a ∈ xs → ∀ σ H Q, tT K F0 H0 (t.put (enc a) (wipeG Γ t.vs)) (p a) σ H Q → tt σ H Q) (hl : xs.length < 100000) :
    ∀ σ H Q, tE K W F0 H0 Γ (.o ((xs.filter p).map f)) σ H Q → tLc (tI K F0 H0 Γ (xs.map enc)) (t.g K) tt (fun σ H Q => ∃ a, a ∈ xs ∧ p a = true ∧ tE K WF F0 H0 (t.put (enc a) (wipeG Γ t.vs)) (.v (f a)) σ H Q) t.vs σ H Q := by
  rintro σ H Q ⟨F, ok, q⟩
  refine ⟨F, ok, fun J F1 H1 z1 it1 D nD => ?_⟩
  have ok1 := ok.mono z1
  have nD1 : F1 D = none := z1.s.none nD
  refine ⟨fun k m H2 => m = xs.length - k ∧ k ≤ xs.length ∧ ∃ F2 acc, Fz F1 H1 F2 H2 ∧ H2 D = some (.lst acc) ∧ F2 D = none ∧ DpAll K F2 acc (((xs.take k).filter p).map f), ⟨xs.length, by simp, Nat.zero_le _, F1, [], Fz.fresh z1.s nD, upd_same, nD1, by simp; exact .nil⟩, ?_⟩
  rintro k m H2 ⟨rfl, hk, F2, acc, z2, a1, a2, a3⟩
  obtain ⟨go, stop⟩ := it1 F2 H2 k z2.f z2.s
  by_cases hlt : k < xs.length
  · have hd : xs[k]? = some xs[k] := List.getElem?_eq_getElem hlt
    have hmem : xs[k] ∈ xs := List.getElem_mem hlt
    have hdm : (xs.map enc)[k]? = some (enc xs[k]) := by rw [List.getElem?_map, hd]; rfl
    obtain ⟨g1, g2⟩ := go _ hdm
    have htk : xs.take (k + 1) = xs.take k ++ [xs[k]] := by rw [List.take_succ, hd]; rfl
    refine .inr ⟨g1, fun H' => ∃ F3 acc', Fz F1 H1 F3 H' ∧ H' D = some (.lst acc') ∧ F3 D = none ∧ DpAll K F3 acc' (((xs.take (k + 1)).filter p).map f), fun H' h' => ⟨xs.length - (k + 1), by omega, rfl, hlt, h'⟩, fun x H' y => ?_⟩
    obtain ⟨F3, z3, d3⟩ := g2 x H' y
    have a1' := z3.h D _ a1
    have a2' := z3.n D _ a2 a1
    refine tgt_run (Γ := Γ) (F0 := F0) (H0 := H0) (fun i h => h) (hf _ hmem) z3.s d3 fun σ' hw tr => ?_
    have o2 := tr _ _ (Ex.refl _) ((ok1.mono z2).mono z3)
    refine ⟨hw, ht _ hmem _ _ _ ⟨F3, o2, fun F4 H4 z4 => ?_⟩⟩
    have b1 := z4.h D _ a1'
    have b2 := z4.n D _ a2' a1'
    cases hp : p xs[k] with
    | false =>
      refine iteF ⟨F4, acc, (z2.trans z3).trans z4, b1, b2, ?_⟩
      rw [htk, List.filter_append, List.filter_cons_of_neg (by rw [hp]; exact Bool.false_ne_true), List.filter_nil, List.append_nil]
      exact da_ex (z3.f.trans z4.f) _ _ a3
    | true =>
      refine iteT ⟨xs[k], hmem, hp, F4, o2.mono z4, fun v F5 H5 z5 d5 => ⟨acc, z5.h D _ b1, ?_, F5, acc ++ [v], ?_, upd_same, z5.n D _ b2 b1, ?_⟩⟩
      · rw [da_len a3, List.length_map]
        have h1 := List.length_filter_le p (xs.take k)
        rw [List.length_take] at h1
        exact Nat.lt_of_lt_of_le (by omega : _ < 100000) (by decide)
      · have zz := ((z2.trans z3).trans z4).trans z5
        refine ⟨zz.f, fun c o hc => ?_, fun c o hc => ?_, zz.n⟩
        · rw [upd_ne (ne_of_none hc nD)]
          exact zz.h c o hc
        · rw [upd_ne (ne_of_none hc (z5.n D _ b2 b1))]
          exact zz.s c o hc
      · rw [htk, List.filter_append, List.filter_cons_of_pos (by rw [hp]), List.filter_nil, List.map_append]
        exact da_app (da_ex ((z3.f.trans z4.f).trans z5.f) _ _ a3) (.cons d5 .nil)
  · have hke : k = xs.length := by omega
    refine .inl ⟨stop (by rw [List.length_map]; exact hke), ?_⟩
    subst hke
    rw [List.take_length] at a3
    exact q D acc F2 H2 (z1.trans z2) (z1.h.none nD) a1 a2 a3
/-- two walks, the inner one over what hangs on the outer one -/
theorem lcB_red {W : WX} {α β : Type} {xs : List α} {enc : α → D} {ys : α → List β} {enc1 : β → D} {t t1 : Tgt} {f : α → β → D} {p : α → Bool} {p1 : α → β → Bool} {tt tt1 : TT} {wi1 : TI} {ws : List Nat} {m : Nat} (hws : ∀ i ∈ t.vs, i ∈ ws) (hf : ∀ a ∈ xs, t.fits (enc a)) (hf1 : ∀ a ∈ xs, ∀ b ∈ ys a, t1.fits (enc1 b)) (hv : ∀ i ∈ t1.vs, i ∈ ws)
    (ht : ∀ a, a ∈ xs → ∀ σ H Q, tT K F0 H0 (t.put (enc a) (wipeG Γ ws)) (p a) σ H Q → tt σ H Q)
    (hi : ∀ a, a ∈ xs → p a = true → ∀ σ H R, tI K F0 H0 (t.put (enc a) (wipeG Γ ws)) ((ys a).map enc1) σ H R → wi1 σ H R)
    (ht1 : ∀ a, a ∈ xs → p a = true → ∀ b, b ∈ ys a → ∀ σ H Q, tT K F0 H0 (t1.put (enc1 b) (wipeG (t.put (enc a) (wipeG Γ ws)) t1.vs)) (p1 a b) σ H Q → tt1 σ H Q) (hl : ((xs.filter p).flatMap fun a => (ys a).filter (p1 a)).length ≤ m) (hm : m < 100000) :
    ∀ σ H Q, tE K W F0 H0 Γ (.o ((xs.filter p).flatMap fun a => ((ys a).filter (p1 a)).map (f a))) σ H Q →
      tLc2 (tI K F0 H0 Γ (xs.map enc)) (t.g K) tt wi1 (t1.g K) tt1 (fun σ H Q => ∃ a b, a ∈ xs ∧ p a = true ∧ b ∈ ys a ∧ p1 a b = true ∧ tE K WF F0 H0 (t1.put (enc1 b) (wipeG (t.put (enc a) (wipeG Γ ws)) t1.vs)) (.v (f a b)) σ H Q) ws t1.vs σ H Q := by
  rintro σ H Q ⟨F, ok, q⟩
  refine ⟨F, ok, fun J F1 H1 z1 it1 D nD => ?_⟩
  have ok1 := ok.mono z1
  have nD1 : F1 D = none := z1.s.none nD
  let res : Nat → List PyData := fun k => ((xs.take k).filter p).flatMap fun a => ((ys a).filter (p1 a)).map (f a)
  refine ⟨fun k m H2 => m = xs.length - k ∧ k ≤ xs.length ∧ ∃ F2 acc, Fz F1 H1 F2 H2 ∧ H2 D = some (.lst acc) ∧ F2 D = none ∧ DpAll K F2 acc (res k), ⟨xs.length, by simp, Nat.zero_le _, F1, [], Fz.fresh z1.s nD, upd_same, nD1, by simp [res]; exact .nil⟩, ?_⟩
  rintro k m' H2 ⟨rfl, hk, F2, acc, z2, a1, a2, a3⟩
  obtain ⟨go, stop⟩ := it1 F2 H2 k z2.f z2.s
  by_cases hlt : k < xs.length
  · have hd : xs[k]? = some xs[k] := List.getElem?_eq_getElem hlt
    have hmem : xs[k] ∈ xs := List.getElem_mem hlt
    have hdm : (xs.map enc)[k]? = some (enc xs[k]) := by rw [List.getElem?_map, hd]; rfl
    obtain ⟨g1, g2⟩ := go _ hdm
    have htk : xs.take (k + 1) = xs.take k ++ [xs[k]] := by rw [List.take_succ, hd]; rfl
    refine .inr ⟨g1, fun H' => ∃ F3 acc', Fz F1 H1 F3 H' ∧ H' D = some (.lst acc') ∧ F3 D = none ∧ DpAll K F3 acc' (res (k + 1)), fun H' h' => ⟨xs.length - (k + 1), by omega, rfl, hlt, h'⟩, fun x H' y => ?_⟩
    obtain ⟨F3, z3, d3⟩ := g2 x H' y
    have a1' := z3.h D _ a1
    have a2' := z3.n D _ a2 a1
    refine tgt_run (Γ := Γ) (F0 := F0) (H0 := H0) hws (hf _ hmem) z3.s d3 fun σ' hw tr => ?_
    have o2 := tr _ _ (Ex.refl _) ((ok1.mono z2).mono z3)
    refine ⟨hw, ht _ hmem _ _ _ ⟨F3, o2, fun F4 H4 z4 => ?_⟩⟩
    have b1 := z4.h D _ a1'
    have b2 := z4.n D _ a2' a1'
    have z24 := (z2.trans z3).trans z4
    cases hp : p xs[k] with
    | false =>
      refine iteF ⟨F4, acc, z24, b1, b2, ?_⟩
      show DpAll K F4 acc (((xs.take (k + 1)).filter p).flatMap fun a => ((ys a).filter (p1 a)).map (f a))
      rw [htk, List.filter_append, List.filter_cons_of_neg (by rw [hp]; exact Bool.false_ne_true), List.filter_nil, List.append_nil]
      exact da_ex (z3.f.trans z4.f) _ _ a3
    | true =>
      have hres : res (k + 1) = res k ++ ((ys xs[k]).filter (p1 xs[k])).map (f xs[k]) := by
        show ((xs.take (k + 1)).filter p).flatMap _ = _
        rw [htk, List.filter_append, List.filter_cons_of_pos (by rw [hp]), List.filter_nil, List.flatMap_append]
        simp [res]
      refine iteT (hi _ hmem hp _ _ _ ⟨F4, o2.mono z4, fun J1 F5 H5 z5 it5 => ?_⟩)
      have z15 := z24.trans z5
      refine ⟨fun j n H6 => n = (ys xs[k]).length - j ∧ j ≤ (ys xs[k]).length ∧ ∃ F6 acc6, Ex F5 F6 ∧ H6 D = some (.lst acc6) ∧ F6 D = none ∧ DpAll K F6 acc6 (res k ++ (((ys xs[k]).take j).filter (p1 xs[k])).map (f xs[k])) ∧ Fz F1 H1 F6 H6,
        ⟨(ys xs[k]).length, by simp, Nat.zero_le _, F5, acc, Ex.refl _, z5.h D _ b1, z5.n D _ b2 b1, by simp; exact da_ex ((z3.f.trans z4.f).trans z5.f) _ _ a3, z24.trans z5⟩, ?_⟩
      rintro j n H6 ⟨rfl, hj, F6, acc6, z6, c1, c2, c3, z16⟩
      obtain ⟨go1, stop1⟩ := it5 F6 H6 j z6 z16.s
      by_cases hlt1 : j < (ys xs[k]).length
      · have hd1 : (ys xs[k])[j]? = some (ys xs[k])[j] := List.getElem?_eq_getElem hlt1
        have hmem1 : (ys xs[k])[j] ∈ ys xs[k] := List.getElem_mem hlt1
        have hdm1 : ((ys xs[k]).map enc1)[j]? = some (enc1 (ys xs[k])[j]) := by rw [List.getElem?_map, hd1]; rfl
        obtain ⟨e1, e2⟩ := go1 _ hdm1
        have htk1 : (ys xs[k]).take (j + 1) = (ys xs[k]).take j ++ [(ys xs[k])[j]] := by rw [List.take_succ, hd1]; rfl
        refine .inr ⟨e1, fun H' => ∃ F7 acc7, Ex F5 F7 ∧ H' D = some (.lst acc7) ∧ F7 D = none ∧ DpAll K F7 acc7 (res k ++ (((ys xs[k]).take (j + 1)).filter (p1 xs[k])).map (f xs[k])) ∧ Fz F1 H1 F7 H', fun H' h' => ⟨(ys xs[k]).length - (j + 1), by omega, rfl, hlt1, h'⟩, fun x1 H7 y1 => ?_⟩
        obtain ⟨F7, z7, d7⟩ := e2 x1 H7 y1
        have c1' := z7.h D _ c1
        have c2' := z7.n D _ c2 c1
        have o7 := tr F7 H7 (z4.f.trans (z5.f.trans (z6.trans z7.f))) (ok1.mono (z16.trans z7))
        refine tgt_run (Γ := t.put (enc xs[k]) (wipeG Γ ws)) (F0 := F0) (H0 := H0) (fun i h => h) (hf1 _ hmem _ hmem1) z7.s d7 fun σ3 hw3 tr1 => ?_
        have o3 := tr1 _ _ (Ex.refl _) o7
        refine ⟨hw3, ht1 _ hmem hp _ hmem1 _ _ _ ⟨F7, o3, fun F8 H8 z8 => ?_⟩⟩
        have f1 := z8.h D _ c1'
        have f2 := z8.n D _ c2' c1'
        cases hp1 : p1 xs[k] (ys xs[k])[j] with
        | false =>
          refine iteF ⟨F8, acc6, z6.trans (z7.f.trans z8.f), f1, f2, ?_, (z16.trans z7).trans z8⟩
          rw [htk1, List.filter_append, List.filter_cons_of_neg (by rw [hp1]; exact Bool.false_ne_true), List.filter_nil, List.append_nil]
          exact da_ex (z7.f.trans z8.f) _ _ c3
        | true =>
          refine iteT ⟨xs[k], (ys xs[k])[j], hmem, hp, hmem1, hp1, F8, o3.mono z8, fun v F9 H9 z9 d9 => ⟨acc6, z9.h D _ f1, ?_, F9, acc6 ++ [v], ?_, upd_same, z9.n D _ f2 f1, ?_, ?_⟩⟩
          · have hlen : acc6.length ≤ m := by
              rw [da_len c3, List.length_append, List.length_map]
              refine Nat.le_trans ?_ hl
              have e1 : (res k).length + (((ys xs[k]).filter (p1 xs[k])).map (f xs[k])).length ≤ (res xs.length).length := by
                rw [← List.length_append, ← hres]
                show (((xs.take (k + 1)).filter p).flatMap _).length ≤ (((xs.take xs.length).filter p).flatMap _).length
                rw [List.take_length]
                conv => rhs; rw [← List.take_append_drop (k + 1) xs]
                rw [List.filter_append, List.flatMap_append, List.length_append]
                exact Nat.le_add_right _ _
              have e2 : (res xs.length).length = ((xs.filter p).flatMap fun a => (ys a).filter (p1 a)).length := by
                show (((xs.take xs.length).filter p).flatMap _).length = _
                rw [List.take_length, List.length_flatMap, List.length_flatMap]
                congr 1
                apply List.map_congr_left
                intro a _
                rw [List.length_map]
              have e3 : (((ys xs[k]).take j).filter (p1 xs[k])).length ≤ ((ys xs[k]).filter (p1 xs[k])).length := by
                conv => rhs; rw [← List.take_append_drop j (ys xs[k])]
                rw [List.filter_append, List.length_append]
                exact Nat.le_add_right _ _
              rw [List.length_map] at e1
              omega
            exact Nat.lt_of_lt_of_le (Nat.lt_of_le_of_lt hlen hm) (by decide)
          · exact z6.trans (z7.f.trans (z8.f.trans z9.f))
          · rw [htk1, List.filter_append, List.filter_cons_of_pos (by rw [hp1]), List.filter_nil, List.map_append, ← List.append_assoc]
            exact da_app (da_ex ((z7.f.trans z8.f).trans z9.f) _ _ c3) (.cons d9 .nil)
          · have zz := (((z16.trans z7).trans z8).trans z9)
            refine ⟨zz.f, fun c o hc => ?_, fun c o hc => ?_, zz.n⟩
            · rw [upd_ne (ne_of_none hc nD)]
              exact zz.h c o hc
            · rw [upd_ne (ne_of_none hc (z9.n D _ f2 f1))]
              exact zz.s c o hc
      · have hje : j = (ys xs[k]).length := by omega
        refine .inl ⟨stop1 (by rw [List.length_map]; exact hje), F6, acc6, z16, c1, c2, ?_⟩
        subst hje
        rw [List.take_length] at c3
        rw [hres]
        exact c3
  · have hke : k = xs.length := by omega
    refine .inl ⟨stop (by rw [List.length_map]; exact hke), ?_⟩
    subst hke
    have a4 : DpAll K F2 acc ((xs.filter p).flatMap fun a => ((ys a).filter (p1 a)).map (f a)) := by
      have e : res xs.length = ((xs.filter p).flatMap fun a => ((ys a).filter (p1 a)).map (f a)) := by
        show ((xs.take xs.length).filter p).flatMap _ = _
        rw [List.take_length]
      rw [← e]
      exact a3
    exact q D acc F2 H2 (z1.trans z2) (z1.h.none nD) a1 a2 a4
end
end TB

namespace TB
open PySem L2 PySem.Spec PyProof.Rows
abbrev JTs (X : Cx) (F0 H0 : Hp) (Γ : List S) (ifs : List Expr) (b : Bool) : Prop := PTs X ifs (tT X.K F0 H0 Γ b)
theorem pts_imp {X : Cx} {e : List Expr} {t t' : TT} (h : PTs X e t) (k : ∀ σ H Q, t' σ H Q → t σ H Q) : PTs X e t' := ⟨fun pins s σ H Q I q => h.run pins s σ H Q I (k σ H Q q)⟩
section
variable {X : Cx} {W : WX} {F0 H0 : Hp} {Γ : List S} {elt tg it tg1 it1 c : Expr} {ifs ifs1 : List Expr} {pos : Pos} {scope : Scope} {α β : Type} {xs : List α} {enc : α → D} {f : α → D} {p : α → Bool} {own : List (Str × Nat)}
  {ys : α → List β} {enc1 : β → D} {f2 : α → β → D} {p1 : α → β → Bool} {b : Bool}
theorem jts_nil : JTs X F0 H0 Γ [] true := pts_imp pts_nil fun σ H Q ⟨F, ok, q⟩ => q F H (Fz.refl ok.fh)
theorem jts_one (h : JT X F0 H0 Γ c b) : JTs X F0 H0 Γ [c] b := pts_one h
theorem je_lcA (t : Tgt) (hc : X.calm = true) (hN : X.N.Nodup) (hi : JI X F0 H0 Γ tg it (xs.map enc)) (ok : BlkOk X.N X.env.scope scope own) (hl : xs.length < 100000) (hf : ∀ a ∈ xs, t.fits (enc a))
    (hg : ∀ (s : Shared) (H : Hp) (C : Addr) (cl : List (Str × Addr)) (fp : List Addr), PG (Bk X s H scope C cl fp) tg (t.g X.K))
    (ht : ∀ a, a ∈ xs → ∀ (s : Shared) (H : Hp) (C : Addr) (cl : List (Str × Addr)) (fp : List Addr), JTs (Bk X s H scope C cl fp) F0 H0 (t.put (enc a) (wipeG Γ t.vs)) ifs (p a))
    (he : ∀ a, a ∈ xs → p a = true → ∀ (s : Shared) (H : Hp) (C : Addr) (cl : List (Str × Addr)) (fp : List Addr), JE (Bk X s H scope C cl fp) WF F0 H0 (t.put (enc a) (wipeG Γ t.vs)) elt (.v (f a)))
    (ho : own.map (·.2) = t.vs := by rfl) (hs : ∀ x, foldedSetIterable it X.env x = pure x := by intro _; rfl) :
    JE X W F0 H0 Γ (.ListComp elt [⟨tg, it, ifs, 0⟩] scope pos) (.o ((xs.filter p).map f)) := by
  refine pe_imp (pe_lc (own := own) (g := t.g X.K) (tt := fun σ H Q => ∃ a, a ∈ xs ∧ tT X.K F0 H0 (t.put (enc a) (wipeG Γ t.vs)) (p a) σ H Q) (te := fun σ H Q => ∃ a, a ∈ xs ∧ p a = true ∧ tE X.K WF F0 H0 (t.put (enc a) (wipeG Γ t.vs)) (.v (f a)) σ H Q) hc hN hi ok hg
    (fun s H C cl fp => ⟨fun pins s' σ H' Q I ⟨a, ha, q⟩ => (ht a ha s H C cl fp).run pins s' σ H' Q I q⟩)
    (fun s H C cl fp => ⟨fun pins s' σ H' Q I ⟨a, ha, hp, q⟩ => (he a ha hp s H C cl fp).run pins s' σ H' Q I q⟩) hs) ?_
  rw [ho]
  exact lcA_red hf (fun a ha σ H Q q => ⟨a, ha, q⟩) hl
theorem je_lcB (t t1 : Tgt) (m : Nat) (hc : X.calm = true) (hN : X.N.Nodup) (hi : JI X F0 H0 Γ tg it (xs.map enc)) (ok : BlkOk X.N X.env.scope scope own) (hf : ∀ a ∈ xs, t.fits (enc a)) (hf1 : ∀ a ∈ xs, ∀ b ∈ ys a, t1.fits (enc1 b))
    (hl : ((xs.filter p).flatMap fun a => (ys a).filter (p1 a)).length ≤ m) (hm : m < 100000)
    (hg : ∀ (s : Shared) (H : Hp) (C : Addr) (cl : List (Str × Addr)) (fp : List Addr), PG (Bk X s H scope C cl fp) tg (t.g X.K))
    (ht : ∀ a, a ∈ xs → ∀ (s : Shared) (H : Hp) (C : Addr) (cl : List (Str × Addr)) (fp : List Addr), JTs (Bk X s H scope C cl fp) F0 H0 (t.put (enc a) (wipeG Γ (own.map (·.2)))) ifs (p a))
    (hi1 : ∀ a, a ∈ xs → p a = true → ∀ (s : Shared) (H : Hp) (C : Addr) (cl : List (Str × Addr)) (fp : List Addr), JI (Bk X s H scope C cl fp) F0 H0 (t.put (enc a) (wipeG Γ (own.map (·.2)))) tg1 it1 ((ys a).map enc1))
    (hg1 : ∀ (s : Shared) (H : Hp) (C : Addr) (cl : List (Str × Addr)) (fp : List Addr), PG (Bk X s H scope C cl fp) tg1 (t1.g X.K))
    (ht1 : ∀ a, a ∈ xs → p a = true → ∀ b, b ∈ ys a → ∀ (s : Shared) (H : Hp) (C : Addr) (cl : List (Str × Addr)) (fp : List Addr), JTs (Bk X s H scope C cl fp) F0 H0 (t1.put (enc1 b) (wipeG (t.put (enc a) (wipeG Γ (own.map (·.2)))) t1.vs)) ifs1 (p1 a b))
    (he : ∀ a, a ∈ xs → p a = true → ∀ b, b ∈ ys a → p1 a b = true → ∀ (s : Shared) (H : Hp) (C : Addr) (cl : List (Str × Addr)) (fp : List Addr), JE (Bk X s H scope C cl fp) WF F0 H0 (t1.put (enc1 b) (wipeG (t.put (enc a) (wipeG Γ (own.map (·.2)))) t1.vs)) elt (.v (f2 a b)))
    (ho : ∀ i ∈ t.vs, i ∈ own.map (·.2) := by decide) (ho1 : ∀ i ∈ t1.vs, i ∈ own.map (·.2) := by decide) (hs : ∀ x, foldedSetIterable it X.env x = pure x := by intro _; rfl) (hs1 : ∀ env x, foldedSetIterable it1 env x = pure x := by intro _ _; rfl) :
    JE X W F0 H0 Γ (.ListComp elt [⟨tg, it, ifs, 0⟩, ⟨tg1, it1, ifs1, 0⟩] scope pos) (.o ((xs.filter p).flatMap fun a => ((ys a).filter (p1 a)).map (f2 a))) :=
  pe_imp (pe_lc2 (own := own) (vs1 := t1.vs) (g := t.g X.K) (g1 := t1.g X.K) (tt := fun σ H Q => ∃ a, a ∈ xs ∧ tT X.K F0 H0 (t.put (enc a) (wipeG Γ (own.map (·.2)))) (p a) σ H Q)
      (wi1 := fun σ H R => ∃ a, a ∈ xs ∧ p a = true ∧ tI X.K F0 H0 (t.put (enc a) (wipeG Γ (own.map (·.2)))) ((ys a).map enc1) σ H R)
      (tt1 := fun σ H Q => ∃ a, a ∈ xs ∧ p a = true ∧ ∃ b, b ∈ ys a ∧ tT X.K F0 H0 (t1.put (enc1 b) (wipeG (t.put (enc a) (wipeG Γ (own.map (·.2)))) t1.vs)) (p1 a b) σ H Q)
      (te := fun σ H Q => ∃ a b, a ∈ xs ∧ p a = true ∧ b ∈ ys a ∧ p1 a b = true ∧ tE X.K WF F0 H0 (t1.put (enc1 b) (wipeG (t.put (enc a) (wipeG Γ (own.map (·.2)))) t1.vs)) (.v (f2 a b)) σ H Q) hc hN hi ok ho1 hg
    (fun s H C cl fp => ⟨fun pins s' σ H' Q I ⟨a, ha, q⟩ => (ht a ha s H C cl fp).run pins s' σ H' Q I q⟩)
    (fun s H C cl fp => ⟨fun pins s' σ H' R I ⟨a, ha, hp, q⟩ => (hi1 a ha hp s H C cl fp).run pins s' σ H' R I q⟩) hg1
    (fun s H C cl fp => ⟨fun pins s' σ H' Q I ⟨a, ha, hp, b, hb, q⟩ => (ht1 a ha hp b hb s H C cl fp).run pins s' σ H' Q I q⟩)
    (fun s H C cl fp => ⟨fun pins s' σ H' Q I ⟨a, b, ha, hp, hb, hp1, q⟩ => (he a ha hp b hb hp1 s H C cl fp).run pins s' σ H' Q I q⟩) hs hs1)
  (lcB_red ho hf hf1 ho1 (fun a ha σ H Q q => ⟨a, ha, q⟩) (fun a ha hp σ H R q => ⟨a, ha, hp, q⟩) (fun a ha hp b hb σ H Q q => ⟨a, ha, hp, b, hb, q⟩) hl hm)
theorem ji_is {ds es : List D} (h : JI X F0 H0 Γ tg it ds) (e : ds = es) : JI X F0 H0 Γ tg it es := e ▸ h
end
end TB

namespace TB
open PySem L2 PySem.Spec PyProof.Rows
/-! ### the greatest associate by its first part -/
end TB

namespace TB
open PySem L2 PySem.Spec PyProof.Rows
/-! ### k16: sums of two -/
section
variable {X : Cx} {W : WX} {F0 H0 : Hp} {Γ : List S} {e : Expr} {pos p1 p2 p3 : Pos} {kk : Nat} {ds : List D}
theorem da_rev {K : PySem.W.Frag} {F : Hp} : ∀ {xs : List V} {ds : List D}, DpAll K F xs ds → DpAll K F xs.reverse ds.reverse
  | _, [], h => by cases h; exact .nil
  | _, d :: ds, h => by
    cases h with
    | cons h1 h2 =>
      rw [List.reverse_cons, List.reverse_cons]
      exact da_app (da_rev h2) (.cons h1 .nil)
theorem je_revL (h : JE X W F0 H0 Γ e (.v (.list ds))) : JE X W F0 H0 Γ (.Subscript e (.Slice none none (some (.UnaryOp .USub (.Constant (.int 1) kk p1) p2)) p3) pos) (.o ds.reverse) :=
  pe_imp (pe_revL h) fun σ H Q ⟨F, ok, q⟩ => ⟨F, ok, fun v F1 H1 z1 d1 => by
    cases d1 with
    | lst h1 h2 => exact ⟨_, _, rfl, sl_ex z1.s h1, po_lst z1.s (da_rev h2) (po_mono z1 (show Po X.K F H Q E0 (.o ds.reverse) from q))⟩⟩
end
end TB
namespace TB
open PySem L2 PySem.Spec PyProof.Rows
section
variable {X : Cx} {W : WX} {F0 H0 : Hp} {Γ : List S} {a b : Expr} {x : D} {pos : Pos}
def isNone : D → Bool
  | .none => true
  | _ => false
end
end TB

namespace TB
open PySem L2 PySem.Spec PyProof.Rows
/-! ### repr of data: defs that run where no repr is under way -/
section
variable {P : Program} {w : World} {K : PySem.W.Frag} {mg : Str → Option Value} {base : Heap}
end
/-! ### repr -/
section
variable {X : Cx} {W : WX} {F0 H0 : Hp} {Γ : List S} {e : Expr} {pos np : Pos} {x : D}
end
section
variable {X : Cx} {W : WX} {F0 H0 : Hp} {Γ : List S} {a b : Expr} {pos : Pos} {t u : Str}
theorem dec_strV (t u : Str) : decide (V.str t = V.str u) = decide (t = u) := by
  by_cases h : t = u
  · rw [decide_eq_true h, decide_eq_true (by rw [h])]
  · rw [decide_eq_false h, decide_eq_false (fun e => h (V.str.inj e))]
theorem rd_eqS {K : PySem.W.Frag} : RD K rEq (.str t) (.str u) (.bool (decide (t = u))) := fun v w F H Q s d1 d2 q => by
  cases d1; cases d2
  refine ⟨rfl, ?_⟩
  rw [dec_strV]
  exact q _ F H (Fz.refl s) (.bl _)
theorem rd_neS {K : PySem.W.Frag} : RD K rNe (.str t) (.str u) (.bool (!decide (t = u))) := fun v w F H Q s d1 d2 q => by
  cases d1; cases d2
  refine ⟨rfl, ?_⟩
  rw [dec_strV]
  exact q _ F H (Fz.refl s) (.bl _)
theorem je_eqS (ha : JE X W F0 H0 Γ a (.v (.str t))) (hb : JE X W F0 H0 Γ b (.v (.str u))) : JE X W F0 H0 Γ (.Compare a [.Eq] [b] pos) (.v (.bool (decide (t = u)))) := je_cmp op_eq rd_eqS ha hb (nomark _)
theorem jt_neS (ha : JE X WF F0 H0 Γ a (.v (.str t))) (hb : JE X WF F0 H0 Γ b (.v (.str u))) : JT X F0 H0 Γ (.Compare a [.NotEq] [b] pos) (!decide (t = u)) := jt_cmp op_ne rd_neS ha hb (nomark _)
end
/-! ### the law's own call, where nothing runs around it -/
end TB

namespace TB
open PySem L2 PySem.Spec PyProof.Rows
/-! ### how long the texts of numbers are -/
/-! ### k12: exact quotients -/
end TB

namespace TB
open PySem L2 PySem.Spec PyProof.Rows
/-! ### k14: the right side -/
end TB

namespace TB
open PySem L2 PySem.Spec PyProof.Rows
/-! ### rows that are tuples or lists -/
/-- a tuple, a list of these -/
def SqD (d : D) (ds : List D) : Prop := d = .tuple ds ∨ d = .list ds
section
variable {X : Cx} {W : WX} {F0 H0 : Hp} {Γ Γ1 : List S} {a b e it tg : Expr} {d d2 x : D} {ds es : List D} {pos np tp : Pos} {i : Int}
/-! ### isinstance over data -/
/-! ### all, any of truth values -/
end
end TB

namespace TB
open PySem L2 PySem.Spec PyProof.Rows
/-! ### turns: the mathematics -/
def gStep (g : Int) (r : List Int) : Int := ((gcd4 g (r.getD 0 0) (r.getD 1 0) (r.getD 2 0) : Nat) : Int)
def gT (s : Int) (rs : List (List Int)) : Int := rs.foldl gStep s
theorem three {ns : List Int} (h : ns.length = 3) : ∃ a b c, ns = [a, b, c] := by
  match ns, h with
  | [a, b, c], _ => exact ⟨a, b, c, rfl⟩
def sqS (x : List Int) : Int := (x.map fun p => p * p).sum
/-- a size and rows, in lowest terms -/
def lowS (s : Int) (rs : List (List Int)) : Int := s / gT s rs
theorem sq_norm {x : List Int} (h : isNum x = true) : sqS x = 4 * normL x := by
  have := norm_sum h
  unfold sqS
  omega
theorem sq_pos {x : List Int} (h : isNum x = true) (h0 : zeroB x = false) : 0 < sqS x := by
  have := norm_pos h h0
  rw [sq_norm h]
  omega
end TB

namespace TB
open PySem L2 PySem.Spec PyProof.Rows
end TB

namespace TB
open PySem L2 PySem.Spec PyProof.Rows
/-! ### the numbers that the laws of turns draw -/
/-! ### the law's own greatest common divisor -/
def es : Nat → Nat × Nat → Nat × Nat
  | 0, p => p
  | k + 1, p => es k (p.2, p.1 % p.2)
end TB

namespace TB
open PySem L2 PySem.Spec PyProof.Rows
/-! ### turns as data -/
inductive SeqAll : List D → List (List Int) → Prop
  | nil : SeqAll [] []
  | cons {d : D} {r : List Int} {ds : List D} {rs : List (List Int)} : Seq d r → SeqAll ds rs → SeqAll (d :: ds) (r :: rs)
theorem SeqAll.len : ∀ {ds : List D} {rs : List (List Int)}, SeqAll ds rs → ds.length = rs.length
  | _, _, .nil => rfl
  | _, _, .cons _ h => by rw [List.length_cons, List.length_cons, h.len]
theorem SeqAll.get : ∀ {ds : List D} {rs : List (List Int)} {k : Nat} {d : D}, SeqAll ds rs → ds[k]? = some d → k < rs.length ∧ Seq d (rs.getD k [])
  | _, _, k, _, .nil, e => by simp at e
  | _, _, 0, _, .cons h _, e => by
    simp at e
    subst e
    exact ⟨by simp, h⟩
  | _, _, k + 1, _, .cons _ h, e => by
    obtain ⟨h1, h2⟩ := h.get (k := k) (by simpa using e)
    exact ⟨by simpa using h1, by simpa using h2⟩
theorem SeqAll.mem : ∀ {ds : List D} {rs : List (List Int)} {p : D × List Int}, SeqAll ds rs → p ∈ ds.zip rs → Seq p.1 p.2 ∧ p.2 ∈ rs
  | _, _, p, .nil, hp => by cases hp
  | _, _, p, .cons h t, hp => by
    rcases List.mem_cons.mp hp with rfl | hp
    · exact ⟨h, List.mem_cons_self⟩
    · obtain ⟨h1, h2⟩ := t.mem hp
      exact ⟨h1, List.mem_cons_of_mem _ h2⟩
end TB

namespace TB
open PySem L2 PySem.Spec PyProof.Rows
/-! ### the law's own primitive number of a turn -/
theorem zeroB_iff {x : List Int} : zeroB x = true ↔ ∀ z ∈ x, z = 0 := by
  unfold zeroB
  simp
/-! ### k39 -/
end TB
namespace TB
end TB

namespace TB
open PySem L2 PySem.Spec PyProof.Rows
/-! ### a walk down: range(i, j, -1) -/
def rngC (lo c : Int) (n : Nat) : List D := (List.range n).map fun i => .int (lo + (i : Nat) * c)
section
variable {X : Cx} {F0 H0 : Hp} {Γ : List S} {a b c tg : Expr} {pos np : Pos} {i j : Int}
end
/-! ### k19: primes of a norm -/
def wp (p : Int) : List Int := [2 * p, 0, 0, 0]
/-! the law's own primitive number -/
end TB

namespace TB
open PySem L2 PySem.Spec PyProof.Rows
/-! ### a walk down: range(i, j, -1) -/
theorem norm_unit {u : List Int} (h : u ∈ unitsL) : normL u = 1 := units_n1 u h
end TB

namespace TB
open PySem L2 PySem.Spec PyProof.Rows
/-! ### sorted(xs, reverse=True) of integers -/
section
variable {X : Cx} {W : WX} {F0 H0 : Hp} {Γ : List S} {e : Expr} {pos np kp cp : Pos} {ns : List Int} {kd : Nat}
end
section
variable {X : Cx} {W : WX} {F0 H0 : Hp} {Γ : List S} {e elt it tg : Expr} {ifs : List Expr} {scope : Scope} {pos np : Pos} {c : Addr} {own : List (Str × Nat)}
end
/-! ### the greatest one of some lists -/
def mxL : List (List Int) → List Int
  | [] => []
  | x :: xs => xs.foldl (fun a b => if a < b then b else a) x
theorem fold_spec : ∀ (xs : List (List Int)) (x : List Int), (xs.foldl (fun a b => if a < b then b else a) x) ∈ x :: xs ∧ ∀ y ∈ x :: xs, y ≤ xs.foldl (fun a b => if a < b then b else a) x
  | [], x => ⟨List.mem_cons_self, fun y hy => by
    rcases List.mem_cons.mp hy with rfl | h
    · exact List.le_refl _
    · cases h⟩
  | z :: zs, x => by
    have ih := fold_spec zs (if x < z then z else x)
    rw [List.foldl_cons]
    obtain ⟨h1, h2⟩ := ih
    by_cases c : x < z
    · rw [if_pos c] at h1 h2 ⊢
      refine ⟨List.mem_cons_of_mem _ h1, fun y hy => ?_⟩
      rcases List.mem_cons.mp hy with rfl | h
      · exact List.le_trans (List.le_of_lt c) (h2 z List.mem_cons_self)
      · exact h2 y h
    · rw [if_neg c] at h1 h2 ⊢
      have cz : z ≤ x := c
      refine ⟨?_, fun y hy => ?_⟩
      · rcases List.mem_cons.mp h1 with e | h
        · rw [e]; exact List.mem_cons_self
        · exact List.mem_cons_of_mem _ (List.mem_cons_of_mem _ h)
      · rcases List.mem_cons.mp hy with rfl | h
        · exact h2 _ List.mem_cons_self
        · rcases List.mem_cons.mp h with rfl | h
          · exact List.le_trans cz (h2 x List.mem_cons_self)
          · exact h2 y (List.mem_cons_of_mem _ h)
theorem mx_spec {ls : List (List Int)} (h : ls ≠ []) : mxL ls ∈ ls ∧ ∀ y ∈ ls, y ≤ mxL ls := by
  cases ls with
  | nil => exact absurd rfl h
  | cons x xs => exact fold_spec xs x
/-! ### falling tuples -/
end TB

namespace TB
open PySem L2 PySem.Spec PyProof.Rows
end TB

namespace TB
open PySem L2 PySem.Spec PyProof.Rows
/-! ### a > b of data, tuple + tuple, min of a list -/
section
variable {X : Cx} {W : WX} {F0 H0 : Hp} {Γ : List S} {a b e : Expr} {pos np : Pos} {x y : D} {ds es : List D}
end
end TB

namespace TB
open PySem L2 PySem.Spec PyProof.Rows
/-! ### the nearest numbers, as the law of quotients looks for them -/
end TB

namespace TB
open PySem L2 PySem.Spec PyProof.Rows
/-! the best one -/
end TB

namespace TB
open PySem L2 PySem.Spec PyProof.Rows
end TB

namespace TB
open PySem L2 PySem.Spec PyProof.Rows
/-! ### isqrt -/
def rIsqrt : List V → Hp → VK → Prop := fun vs H Q => ∃ a : Int, vs = [.int a] ∧ 0 ≤ a ∧ a < 2 ^ 64 ∧ Q (.int ((Float64.isqrt a.toNat : Nat) : Int)) H
theorem cr_isqrt {X : Cx} : CallR X (.builtin "math.isqrt") rIsqrt := by
  intro pins s σ H vs us Q I r h
  obtain ⟨a, rfl, h0, h1, q⟩ := h
  cases r with
  | cons r rr =>
    cases rr
    obtain ⟨t, rfl⟩ := r
    exact PySem.W.mg_isqrt h0 h1 ⟨.int _, H, I.tok _, ⟨_, rfl⟩, q⟩
section
variable {X : Cx} {W : WX} {F0 H0 : Hp} {Γ : List S} {e : Expr} {a : Int} {pos np : Pos}
theorem rc_isqrt {K : PySem.W.Frag} (h0 : 0 ≤ a) (h1 : a < 2 ^ 64) : RC K rIsqrt [.int a] (.v (.int ((Float64.isqrt a.toNat : Nat) : Int))) := fun vs F H Q s dv q => by
  cases dv with
  | cons d1 dv =>
    cases dv
    cases d1
    exact ⟨a, rfl, h0, h1, q _ F H (Fz.refl s) (.int _)⟩
theorem je_isqrt (h0 : 0 ≤ a) (h1 : a < 2 ^ 64) (hm : X.mg "isqrt" = some (.builtin "math.isqrt")) (h : JE X WF F0 H0 Γ e (.v (.int a))) (hg : Gl X "isqrt" := by rfl) (s1 : starEach [e] X.env = (false, eval e X.env) :: starEach [] X.env := by rfl) : JE X W F0 H0 Γ (.Call (.Name "isqrt" np) [e] [] pos) (.v (.int ((Float64.isqrt a.toNat : Nat) : Int))) :=
  pe_imp (pe_callBfun cr_isqrt hg hm (ja_cons h ja_nil s1) (by decide) s1 rfl) fun σ H Q ⟨F, ok, q⟩ => ⟨F, ok, fun vs F1 H1 z1 d1 => rc_isqrt h0 h1 vs F1 H1 Q z1.s d1 fun v F2 H2 z2 dv => q v F2 H2 (z1.trans z2) dv⟩
end
theorem isqrt_all : (List.range 10002).all (fun n => Nat.ble (Float64.isqrt n * Float64.isqrt n) n && Nat.blt n ((Float64.isqrt n + 1) * (Float64.isqrt n + 1))) = true := by decide +kernel
theorem isqrt_small {n : Nat} (h : n ≤ 10001) : Float64.isqrt n * Float64.isqrt n ≤ n ∧ n < (Float64.isqrt n + 1) * (Float64.isqrt n + 1) := by
  have := List.all_eq_true.mp isqrt_all n (List.mem_range.mpr (by omega))
  rw [Bool.and_eq_true] at this
  exact ⟨Nat.le_of_ble_eq_true this.1, Nat.le_of_ble_eq_true this.2⟩
section
variable {X : Cx} {F0 H0 : Hp} {Γ : List S} {e : Expr} {es : List Expr} {sp : Pos} {ds es2 : List D}
/-- *t in a tuple or a call, t a tuple -/
theorem ja_star (ha : JE X WF F0 H0 Γ e (.v (.tuple ds))) (hr : JA X F0 H0 Γ es es2) (hs : starEach (.Starred e sp :: es) X.env = (true, eval e X.env) :: starEach es X.env := by rfl) : JA X F0 H0 Γ (.Starred e sp :: es) (ds ++ es2) :=
  pa_imp (StX.pa_star ha hr hs) fun σ H Q ⟨F, ok, q⟩ => ⟨F, ok, fun v F1 H1 z1 d1 => by
    cases d1 with
    | tup g1 g2 => exact ⟨_, _, rfl, .inl (st_ex z1.s g1), F1, ok.mono z1, fun vs F2 H2 z2 d2 => q _ F2 H2 (z1.trans z2) (da_app (da_ex z2.f _ _ g2) d2)⟩⟩
end
end TB

namespace TB
open PySem L2 PySem.Spec PyProof.Rows
/-! ### list(range(i, j, -1)) -/
def dnV (i : Int) (n : Nat) : List V := (List.range n).map fun k => V.int (i + (k : Nat) * (-1))
theorem dnV_da {K : PySem.W.Frag} {F : Hp} (i : Int) (n : Nat) : DpAll K F (dnV i n) (rngC i (-1) n) := by
  have key : ∀ l : List Nat, DpAll K F (l.map fun k : Nat => V.int (i + (k : Nat) * (-1))) (l.map fun k : Nat => PyData.int (i + (k : Nat) * (-1))) := fun l => by
    induction l with
    | nil => exact .nil
    | cons a l ih => exact .cons (.int _) ih
  exact key _
theorem vals_dn {i : Int} {n : Nat} {acc : Array Value} (h : ItemsOf (fun k v => ∃ t, v = .int (i + k * (-1)) t) acc n) : Vals (dnV i n) acc.toList := by
  have e : acc.toList.length = n := by rw [Array.length_toList]; exact h.1
  unfold dnV
  rw [← e]
  refine vals_of_get acc.toList _ fun j u hj => ?_
  obtain ⟨t, rfl⟩ := h.2 j u (by rw [← hj, Array.getElem?_toList])
  exact ⟨t, rfl⟩
def tDn (K : PySem.W.Frag) (ta : TA) : TE := fun σ H Q => ta σ H fun vs H1 => ∃ i j n, vs = [V.int i, V.int j, V.int (-1)] ∧ RgC i j (-1) n ∧ n ≤ 100000 ∧ ∀ q, H1 q = none → Q (.ref q) (upd H1 q (.lst (dnV i n)))
section
variable {X : Cx} {a b c : Expr} {ta : TA} {p pos p2 pos2 : Pos}
theorem pe_listDn (hc : X.calm = true) (hgl : Gl X "list") (hml : X.mg "list" = none) (hg : Gl X "range") (hm : X.mg "range" = none) (ha : PA X [a, b, c] ta)
    (na : starEach [.Call (.Name "range" p) [a, b, c] [] pos] X.env = (false, eval (.Call (.Name "range" p) [a, b, c] [] pos) X.env) :: starEach [] X.env := by rfl)
    (hs : starEach [a, b, c] X.env = (false, eval a X.env) :: starEach [b, c] X.env := by rfl) (hpl : (backTo pos (starEach [b, c] X.env)).any (·.1) = false := by rfl) :
    PE X (.Call (.Name "list" p2) [.Call (.Name "range" p) [a, b, c] [] pos] [] pos2) (tDn X.K ta) := by
  refine ⟨fun pins s σ H Q I h => ?_⟩
  have hr : wpAny (model X.prog X.w) X.A (eval (.Call (.Name "range" p) [a, b, c] [] pos) X.env) (fun x s' => ∃ r i j t u v n H', x = Value.ref r ∧ IsRange s'.heap r i j (-1) t u v ∧ RgC i j (-1) n ∧ n ≤ 100000 ∧ Inv X pins σ H' s' ∧ ∀ q, H' q = none → Q (.ref q) (upd H' q (.lst (dnV i n)))) X.xe s := by
    refine Call_ (ld_blt I hg hm boot_range (PyProof.Rows.callWith_type1 (thn (ha.run pos pins s σ H _ I h) fun us s1 ⟨vs, H1, I1, r1, q1⟩ => ?_) hs hpl))
    obtain ⟨i, j, n, e, ⟨c0, c1, c2, c3⟩, hn, q⟩ := q1
    subst e
    cases r1 with
    | cons r rr =>
      cases rr with
      | cons r' rr =>
        cases rr with
        | cons r'' rr =>
          cases rr
          obtain ⟨t, rfl⟩ := r
          obtain ⟨t', rfl⟩ := r'
          obtain ⟨t'', rfl⟩ := r''
          exact call_range_3 c0 ⟨_, i, j, _, _, _, n, H1, rfl, IsRange.new _ _ _ _ _ _ _, ⟨c0, c1, c2, c3⟩, hn, I1.kept (t' := s1.toks) fun b o e => Heap.get?_push_of_some _ e, q⟩ (.inl (PyProof.noPylong_small c1))
  refine Call_ (ld_blt I hgl hml boot_list (PyProof.Rows.callWith_type1 (args_cons (thn hr fun x s1 ⟨r, i, j, t, u, v, n, H1, ex, hr, ⟨c0, c1, c2, c3⟩, hn, I1, q⟩ => args_nil ?_) na) na))
  subst ex
  refine call_list_range (n := n) (I1.ok.hd hc) hr c2 c3 (Nat.le_trans hn (by decide)) fun h' tk acc c' hk e' hi => ?_
  refine ⟨.ref s1.heap.objs.size, upd H1 s1.heap.objs.size (.lst (dnV i n)), I1.laid hk (Nat.le_refl _) (show ObjOk X.prog X.w _ _ _ (.lst (dnV i n)) from ⟨?_, acc.toList, c', vals_dn hi, ?_⟩), rfl, q _ (I1.hok.fresh (Nat.le_refl _))⟩
  · unfold dnV
    rw [List.length_map, List.length_range]
    exact Nat.le_trans hn (by decide)
  · rw [Array.toArray_toList]; exact e'
end
section
variable {X : Cx} {W : WX} {F0 H0 : Hp} {Γ : List S} {a b c : Expr} {p pos p2 pos2 : Pos} {i j : Int}
theorem je_listDn (hc : X.calm = true) (hml : X.mg "list" = none) (hm : X.mg "range" = none) (h0 : -(2 ^ 62) ≤ i ∧ i < 2 ^ 62 ∧ -(2 ^ 62) ≤ j ∧ j < 2 ^ 62) (hn : (i - j).toNat ≤ 100000) (ha : JE X WF F0 H0 Γ a (.v (.int i))) (hb : JE X WF F0 H0 Γ b (.v (.int j))) (hcc : JE X WF F0 H0 Γ c (.v (.int (-1)))) (hgl : Gl X "list" := by rfl) (hg : Gl X "range" := by rfl)
    (na : starEach [.Call (.Name "range" p) [a, b, c] [] pos] X.env = (false, eval (.Call (.Name "range" p) [a, b, c] [] pos) X.env) :: starEach [] X.env := by rfl)
    (hs : starEach [a, b, c] X.env = (false, eval a X.env) :: starEach [b, c] X.env := by rfl) (hs2 : starEach [b, c] X.env = (false, eval b X.env) :: starEach [c] X.env := by rfl) (hs3 : starEach [c] X.env = (false, eval c X.env) :: starEach [] X.env := by rfl) (hpl : (backTo pos (starEach [b, c] X.env)).any (·.1) = false := by rfl) :
    JE X W F0 H0 Γ (.Call (.Name "list" p2) [.Call (.Name "range" p) [a, b, c] [] pos] [] pos2) (.o (rngC i (-1) (i - j).toNat)) :=
  pe_imp (pe_listDn hc hgl hml hg hm (ja_cons ha (ja_cons hb (ja_cons hcc ja_nil hs3) hs2) hs) na hs hpl) fun σ H Q h => by
    obtain ⟨F, ok, q⟩ := po_of (F := H) (by trivial) h
    exact ⟨F, ok, fun vs F1 H1 z1 d1 => by
      cases d1 with
      | cons k1 k2 =>
        cases k2 with
        | cons k2 k3 =>
          cases k3 with
          | cons k3 k4 =>
            cases k1; cases k2; cases k3; cases k4
            exact ⟨i, j, (i - j).toNat, rfl, RgC.neg h0.1 h0.2.1 h0.2.2.1 h0.2.2.2, hn, po_lst (F := F1) z1.s (dnV_da i _) (po_mono z1 q)⟩⟩
end
section
variable {X : Cx} {W : WX} {F0 H0 : Hp} {Γ : List S} {a b : Expr} {np pos : Pos} {i j : Int}
theorem rc_min2 {K : PySem.W.Frag} : RC K (fun xs H Q => ∃ i j, xs = [V.int i, V.int j] ∧ Q (.int (if j < i then j else i)) H) [.int i, .int j] (.v (.int (if j < i then j else i))) := fun vs F H Q s dv q => by
  cases dv with
  | cons d1 dv =>
    cases dv with
    | cons d2 dv =>
      cases dv; cases d1; cases d2
      exact ⟨i, j, rfl, q _ F H (Fz.refl s) (.int _)⟩
theorem je_min2 (hc : X.calm = true) (hm : X.mg "min" = none) (ha : JE X W F0 H0 Γ a (.v (.int i))) (hb : JE X W F0 H0 Γ b (.v (.int j))) (hg : Gl X "min" := by rfl) (s1 : starEach [a, b] X.env = (false, eval a X.env) :: starEach [b] X.env := by rfl) (s2 : starEach [b] X.env = (false, eval b X.env) :: starEach [] X.env := by rfl) (s3 : (backTo pos (starEach [b] X.env)).any (·.1) = false := by rfl) : JE X W F0 H0 Γ (.Call (.Name "min" np) [a, b] [] pos) (.v (.int (if j < i then j else i))) := je_cb (call_min2 hc) rc_min2 noX hm (by decide +kernel) (ja_cons ha (ja_cons hb ja_nil s2) s1) hg (by decide) (by decide) s1 s3
end
/-! ### sums of four squares: the first integers -/
def rootI (v : Int) : Int := ((Float64.isqrt v.toNat : Nat) : Int)
def leastF (v k : Int) : Int := if rootI (v / k) * rootI (v / k) * k < v then rootI (v / k) + 1 else rootI (v / k)
def mostF (v m : Int) : Int := if m < rootI v then m else rootI v
def firstsF (v m k : Int) : List Int := (List.range (mostF v m - (leastF v k - 1)).toNat).map fun i : Nat => mostF v m + (i : Nat) * (-1)
theorem root_le {v : Int} (h0 : 0 ≤ v) (h1 : v ≤ 10001) : 0 ≤ rootI v ∧ rootI v ≤ 101 ∧ rootI v * rootI v ≤ v := by
  obtain ⟨a, b⟩ := isqrt_small (n := v.toNat) (by omega)
  unfold rootI
  generalize Float64.isqrt v.toNat = r at a b
  have hr : r ≤ 101 := by
    rcases Nat.lt_or_ge 101 r with h | h
    · have := Nat.mul_le_mul h h
      omega
    · exact h
  refine ⟨Int.natCast_nonneg _, by omega, ?_⟩
  have : ((r * r : Nat) : Int) ≤ v := by omega
  rwa [Int.natCast_mul] at this
theorem leastF_nn {v k : Int} (h0 : 0 ≤ v) (h1 : v ≤ 10001) (hk : 1 ≤ k) : 0 ≤ leastF v k ∧ leastF v k ≤ 102 := by
  have e1 := Int.ediv_nonneg h0 (show 0 ≤ k by omega)
  have e2 := Int.ediv_le_self k h0
  have := root_le e1 (by omega)
  unfold leastF
  split <;> omega
def allF : Nat → Int → Int → List (List Int)
  | 0, _, _ => [[]]
  | n + 1, v, m => (firstsF v m ((n + 1 : Nat) : Int)).flatMap fun a => (allF n (v - a * a) a).map fun r => a :: r
theorem firsts_mem {v m k a : Int} (h0 : 0 ≤ v) (h1 : v ≤ 10001) (hk : 1 ≤ k) (h : a ∈ firstsF v m k) : 0 ≤ a ∧ a ≤ 101 ∧ 0 ≤ v - a * a := by
  obtain ⟨i, hi, rfl⟩ := List.mem_map.mp h
  have hi2 := List.mem_range.mp hi
  obtain ⟨l1, _⟩ := leastF_nn h0 h1 hk
  obtain ⟨r1, r2, r3⟩ := root_le h0 h1
  have hm : mostF v m ≤ rootI v := by unfold mostF; split <;> omega
  have a0 : 0 ≤ mostF v m + (i : Nat) * (-1) := by omega
  have a1 : mostF v m + (i : Nat) * (-1) ≤ rootI v := by omega
  generalize mostF v m + (i : Nat) * (-1) = a at a0 a1 ⊢
  have := Int.mul_le_mul a1 a1 a0 r1
  omega
theorem firsts_len {v m k : Int} (h0 : 0 ≤ v) (h1 : v ≤ 300) (hk : 1 ≤ k) : (firstsF v m k).length ≤ 17 := by
  unfold firstsF
  rw [List.length_map, List.length_range]
  obtain ⟨r1, r2, r3⟩ := root_le h0 (by omega)
  have hm : mostF v m ≤ rootI v := by unfold mostF; split <;> omega
  have hr : rootI v ≤ 17 := by
    rcases (show 17 < rootI v ∨ rootI v ≤ 17 by omega) with h | h
    · have := Int.mul_le_mul (show (18 : Int) ≤ rootI v by omega) (show (18 : Int) ≤ rootI v by omega) (by decide) r1
      omega
    · exact h
  obtain ⟨l1, _⟩ := leastF_nn h0 (by omega) hk
  by_cases hv : v = 0
  · have : rootI v = 0 := by rw [hv]; decide +kernel
    omega
  · have hl : 1 ≤ leastF v k := by
      unfold leastF
      split
      · have := (root_le (Int.ediv_nonneg h0 (show 0 ≤ k by omega)) (by have := Int.ediv_le_self k h0; omega)).1
        omega
      · next h =>
        have := (root_le (Int.ediv_nonneg h0 (show 0 ≤ k by omega)) (by have := Int.ediv_le_self k h0; omega)).1
        rcases (show 0 < rootI (v / k) ∨ rootI (v / k) ≤ 0 by omega) with g | g
        · omega
        · have e : rootI (v / k) = 0 := by omega
          rw [e] at h
          omega
    omega
theorem flat_len {α β : Type} {f : α → List β} {m : Nat} : ∀ {xs : List α}, (∀ a ∈ xs, (f a).length ≤ m) → (xs.flatMap f).length ≤ xs.length * m
  | [], _ => by simp
  | x :: xs, h => by
    rw [List.flatMap_cons, List.length_append, List.length_cons, Nat.succ_mul]
    have := flat_len (f := f) (m := m) (xs := xs) fun a ha => h a (List.mem_cons_of_mem _ ha)
    have := h x List.mem_cons_self
    omega
theorem allF_len : ∀ (n : Nat) {v m : Int}, 0 ≤ v → v ≤ 300 → (allF n v m).length ≤ 17 ^ n
  | 0, _, _, _, _ => Nat.le_refl _
  | n + 1, v, m, h0, h1 => by
    have hk : (1 : Int) ≤ ((n + 1 : Nat) : Int) := by omega
    show ((firstsF v m ((n + 1 : Nat) : Int)).flatMap fun a => (allF n (v - a * a) a).map fun r => a :: r).length ≤ _
    refine Nat.le_trans (flat_len (m := 17 ^ n) fun a ha => ?_) ?_
    · rw [List.length_map]
      obtain ⟨a0, _, a1⟩ := firsts_mem h0 (by omega) hk ha
      have := Int.mul_nonneg a0 a0
      exact allF_len n a1 (by omega)
    · rw [Nat.pow_succ, Nat.mul_comm]
      exact Nat.mul_le_mul_left _ (firsts_len h0 h1 hk)
theorem allF_four : ∀ (n : Nat) {v m : Int}, ∀ r ∈ allF n v m, r.length = n
  | 0, _, _, r, h => by rw [List.mem_singleton.mp h]; rfl
  | n + 1, v, m, r, h => by
    obtain ⟨a, _, h2⟩ := List.mem_flatMap.mp h
    obtain ⟨q, hq, rfl⟩ := List.mem_map.mp h2
    rw [List.length_cons, allF_four n q hq]
theorem flat_congr {α β : Type} {f g : α → List β} : ∀ {xs : List α}, (∀ a ∈ xs, f a = g a) → xs.flatMap f = xs.flatMap g
  | [], _ => rfl
  | x :: xs, h => by rw [List.flatMap_cons, List.flatMap_cons, h x List.mem_cons_self, flat_congr fun a ha => h a (List.mem_cons_of_mem _ ha)]
end TB

namespace TB
open PySem L2 PySem.Spec PyProof.Rows
section
variable {X : Cx} {F0 H0 : Hp} {Γ : List S} {a b c : Expr} {pos : Pos} {i j k : Int}
/-- a <= b <= c, integers -/
theorem jt_leLe (ha : JE X WF F0 H0 Γ a (.v (.int i))) (hb : JE X WF F0 H0 Γ b (.v (.int j))) (hc : JE X WF F0 H0 Γ c (.v (.int k))) (hm : lastMarks [.LtE, .LtE] [b, c] = false := by with_unfolding_all rfl) : JT X F0 H0 Γ (.Compare a [.LtE, .LtE] [b, c] pos) (decide (i ≤ j) && decide (j ≤ k)) :=
  pt_imp (pt_chain op_le op_le ha hb hc hm) fun σ H Q ⟨F, ok, q⟩ => ⟨F, ok, fun v F1 H1 z1 d1 => ⟨F1, ok.mono z1, fun u F2 H2 z2 d2 => by
    cases d1
    cases d2
    refine ⟨i, j, rfl, rfl, decide (i ≤ j), rfl, ?_⟩
    by_cases h : i ≤ j
    · rw [decide_eq_true h] at q ⊢
      rw [if_pos rfl]
      refine ⟨F2, (ok.mono z1).mono z2, fun w F3 H3 z3 d3 => ?_⟩
      cases d3
      exact ⟨j, k, rfl, rfl, _, rfl, q F3 H3 ((z1.trans z2).trans z3)⟩
    · rw [decide_eq_false h] at q ⊢
      rw [if_neg Bool.false_ne_true]
      exact ⟨_, rfl, q F2 H2 (z1.trans z2)⟩⟩⟩
end
end TB

namespace TB
open PySem L2 PySem.Spec PyProof.Rows
/-! ### trees of one's own: displays, a list in a list grows, trees become data -/
section
variable {X : Cx} {W : WX} {F0 H0 : Hp} {Γ : List S} {a b e : Expr} {es : List Expr} {x : D} {ds : List D} {pos : Pos} {t : Own} {ts : List Own}
end

section
variable {K : PySem.W.Frag} {F H : Hp}
end

/-! a tree of lists as data -/
section
variable {K : PySem.W.Frag} {H : Hp}
end
section
variable {K : PySem.W.Frag} {F0 H0 F H : Hp} {σ : L2.St} {Γ : List S}
end
section
variable {X : Cx} {W : WX} {F0 H0 : Hp} {Γ : List S} {a b e : Expr} {x : D} {ds : List D} {sts : List Stmt} {so : SO} {pos : Pos} {t : Own}
end
end TB

namespace TB
open PySem L2 PySem.Spec PyProof.Rows
/-! ### comprehensions by the kind of their elements -/
section
variable {X : Cx} {W : WX} {F0 H0 : Hp} {Γ : List S} {elt tg it c : Expr} {ifs : List Expr} {pos : Pos} {scope : Scope} {α β : Type} {xs : List α} {enc : α → D} {enc2 : β → D} {g : α → β} {p : α → Bool} {own : List (Str × Nat)}
theorem je_lcE (enc2 : β → D) (t : Tgt) (hc : X.calm = true) (hN : X.N.Nodup) (hi : JI X F0 H0 Γ tg it (xs.map enc)) (ok : BlkOk X.N X.env.scope scope own) (hl : xs.length < 100000) (hf : ∀ a ∈ xs, t.fits (enc a))
    (hg : ∀ (s : Shared) (H : Hp) (C : Addr) (cl : List (Str × Addr)) (fp : List Addr), PG (Bk X s H scope C cl fp) tg (t.g X.K))
    (ht : ∀ a, a ∈ xs → ∀ (s : Shared) (H : Hp) (C : Addr) (cl : List (Str × Addr)) (fp : List Addr), JTs (Bk X s H scope C cl fp) F0 H0 (t.put (enc a) (wipeG Γ t.vs)) ifs (p a))
    (he : ∀ a, a ∈ xs → p a = true → ∀ (s : Shared) (H : Hp) (C : Addr) (cl : List (Str × Addr)) (fp : List Addr), JE (Bk X s H scope C cl fp) WF F0 H0 (t.put (enc a) (wipeG Γ t.vs)) elt (.v (enc2 (g a))))
    (ho : own.map (·.2) = t.vs := by rfl) (hs : ∀ x, foldedSetIterable it X.env x = pure x := by intro _; rfl) :
    JE X W F0 H0 Γ (.ListComp elt [⟨tg, it, ifs, 0⟩] scope pos) (.o (((xs.filter p).map g).map enc2)) := by
  rw [List.map_map]
  exact je_lcA t hc hN hi ok hl hf hg ht he ho hs
end
section
variable {X : Cx} {W : WX} {F0 H0 : Hp} {Γ Γ1 Γ2 : List S} {st : Stmt} {rest sts : List Stmt} {so : SO} {ds : List D}
/-- the slots told anew behind a statement -/
theorem jss_consN (h1 : JS X W F0 H0 Γ st (.nx Γ1)) (e : Γ1 = Γ2) (h2 : JSs X W F0 H0 Γ2 rest so) : JSs X W F0 H0 Γ (st :: rest) so := jss_cons (e ▸ h1) h2
theorem jss_frzN (i : Nat) (g : Γ[i]? = some (.own ds)) (e : Γ.set i (.d (.list ds)) = Γ2) (h : JSs X W F0 H0 Γ2 sts so) : JSs X W F0 H0 Γ sts so := jss_frz i g (e ▸ h)
theorem jss_norm (e : Γ = Γ2) (h : JSs X W F0 H0 Γ2 sts so) : JSs X W F0 H0 Γ sts so := e ▸ h
end
/-! ### bounds by search -/
/-! ### loops over folds -/
section
variable {X : Cx} {W : WX} {F0 H0 : Hp} {Γ Γ' Γ1 : List S} {e tg it : Expr} {pos : Pos} {body : List Stmt} {so : SO} {α β : Type}
theorem foldl_take_succ {step : β → α → β} {b : β} {xs : List α} {k : Nat} {a : α} (h : xs[k]? = some a) : (xs.take (k + 1)).foldl step b = step ((xs.take k).foldl step b) a := by
  rw [List.take_succ, h, List.foldl_append]
  rfl
/-- for a in xs: the state b goes to step b a; what is true of the k-th state -/
theorem js_forFold {T : List S → D → List S → Prop} {xs : List α} {enc : α → D} (G : β → List S) (Gt : β → α → List S) (step : β → α → β) (b0 : β) (inv : Nat → β → Prop) (hp : PassesOwn (model X.prog X.w) X.A X.env X.xe) (hc : X.calm = true) (hi : JI X F0 H0 Γ tg it (xs.map enc)) (hg : JG X F0 H0 tg T) (h0 : Le Γ (G b0)) (hi0 : inv 0 b0)
    (ht : ∀ b a, T (G b) (enc a) (Gt b a)) (hb : ∀ k b a, xs[k]? = some a → inv k b → (∃ so, JSs X W F0 H0 (Gt b a) body so ∧ Turns (G (step b a)) so) ∧ inv (k + 1) (step b a)) (hs : ∀ x, foldedSetIterable it X.env x = pure x := by intro _; rfl) :
    JS X W F0 H0 Γ (.For tg it body [] pos) (.nx (G (xs.foldl step b0))) ∧ inv xs.length (xs.foldl step b0) := by
  have hinv : ∀ k, k ≤ xs.length → inv k ((xs.take k).foldl step b0) := fun k => by
    induction k with
    | zero => intro _; rw [List.take_zero]; exact hi0
    | succ k ih =>
      intro hk
      have e : xs[k]? = some xs[k] := List.getElem?_eq_getElem hk
      rw [foldl_take_succ e]
      exact (hb k _ _ e (ih (by omega))).2
  have hfull : (xs.take xs.length).foldl step b0 = xs.foldl step b0 := by rw [List.take_length]
  refine ⟨?_, by have := hinv xs.length (Nat.le_refl _); rwa [hfull] at this⟩
  have := js_for (W := W) (pos := pos) (so := .nx (G (xs.foldl step b0))) (ds := xs.map enc) (fun k => G ((xs.take k).foldl step b0)) (fun k => match xs[k]? with | some a => Gt ((xs.take k).foldl step b0) a | none => []) (xs.map enc).length hp hc hi hg (by simpa using h0) (Nat.le_refl _)
    (fun k d ed _ => by
      rw [List.getElem?_map] at ed
      cases q : xs[k]? with
      | none => rw [q] at ed; cases ed
      | some a =>
        rw [q] at ed
        cases ed
        exact ht _ _) (fun k d ed _ => by
      rw [List.getElem?_map] at ed
      cases q : xs[k]? with
      | none => rw [q] at ed; cases ed
      | some a =>
        have hk := (List.getElem?_eq_some_iff.mp q).1
        show ∃ so, JSs X W F0 H0 (Gt ((xs.take k).foldl step b0) a) body so ∧ Turns (G ((xs.take (k + 1)).foldl step b0)) so
        rw [foldl_take_succ q]
        exact (hb k _ a q (hinv k (by omega))).1) (fun h => absurd h (Nat.lt_irrefl _)) (fun _ => by
      show SO.nx (G (xs.foldl step b0)) = SO.nx (G ((xs.take (xs.map enc).length).foldl step b0))
      rw [List.length_map, List.take_length]) hs
  exact this
end
end TB

namespace TB
open PySem L2 PySem.Spec PyProof.Rows
/-! ### the law's own turns -/
end TB

namespace TB
open PySem L2 PySem.Spec PyProof.Rows
/-! ### which tables are turns -/
def dtL (p q : List Int) : Int := ((p.zip q).map fun z => z.1 * z.2).sum
def form3 (rs : List (List Int)) : Bool := decide (rs.length = 3) && rs.all fun r => decide (r.length = 3)
def lowB (s : Int) (rs : List (List Int)) : Bool := decide (lowS s rs = s)
def crossL : List Int → List Int → List Int
  | [a, b, c], [d, e, f] => [b * f - c * e, c * d - a * f, a * e - b * d]
  | _, _ => []
/-- lengths and angles -/
def keepB (s : Int) : List (List Int) → Bool
  | [p, q, r] => decide ([dtL p p, dtL q q, dtL r r] = [s * s, s * s, s * s]) && (!([dtL p q, dtL q r, dtL r p] : List Int).any (· != 0)) && decide (dtL (crossL p q) r = s * (s * s))
  | _ => false
def goodT (s : Int) (rs : List (List Int)) : Bool := decide (0 < s) && form3 rs && lowB s rs && keepB s rs
structure TurnA (s : Int) (dr : D) (es : List D) (rs : List (List Int)) : Prop where
  sq : SqD dr es
  sa : SeqAll es rs
  n : rs.length ≤ 10
  l : ∀ r ∈ rs, r.length ≤ 10
  b : ∀ r ∈ rs, ∀ z ∈ r, Bt 400 z
  bs : Bt 400 s
def R_chkT (c : Addr) : List D → Out → Prop := fun ds o => ∃ d es, ds = [d] ∧ SqD d es ∧ ((es.length ≠ 2 ∧ o = .x c) ∨ (∃ b dr, es = [.bool b, dr] ∧ o = .x c) ∨ ∃ s dr es' rs, es = [.int s, dr] ∧ TurnA s dr es' rs ∧ o = if goodT s rs = true then .v .none else .x c)
end TB
namespace TB
open PySem L2 PySem.Spec PyProof.Rows
section
variable {X : Cx} {W : WX} {F0 H0 : Hp} {Γ : List S} {a e : Expr} {d : D} {ds : List D} {pos np : Pos}
end
end TB
namespace TB
open PySem L2 PySem.Spec PyProof.Rows
theorem SeqAll.three {es : List D} {p q r : List Int} (h : SeqAll es [p, q, r]) : ∃ d1 d2 d3, es = [d1, d2, d3] ∧ Seq d1 p ∧ Seq d2 q ∧ Seq d3 r := by
  cases h with
  | cons h1 h => cases h with
    | cons h2 h => cases h with
      | cons h3 h =>
        cases h
        exact ⟨_, _, _, rfl, h1, h2, h3⟩
end TB

namespace TB
open PySem L2 PySem.Spec PyProof.Rows
/-! ### defs that reach repr -/
section
variable {X : Cx} {k : Nat} {f : Addr} {fd : FuncData} {ps : List Str} {sp : Sp} {E : L2.St → XK} {x : Str} {p pos : Pos} {e : Expr} {es : List Expr} {t : TA}
end
section
variable {X : Cx} {W : WX} {F0 H0 : Hp} {Γ : List S} {e : Expr} {es : List Expr} {pos np : Pos} {n : Str} {ds : List D} {o : Out} {k : Nat} {ps : List Str} {R : List D → Out → Prop}
end
/-! ### turns written out -/
end TB

namespace TB
open PySem L2 PySem.Spec PyProof.Rows
/-! ### primitive parts are one's own -/
def primC (x : List Int) : List Int := quoL (contL x) x
theorem times_zero_iff {m : Int} (hm : m ≠ 0) {x : List Int} : zeroB (timesL m x) = zeroB x := by
  cases h : zeroB x with
  | true =>
    refine zeroB_iff.mpr fun z hz => ?_
    obtain ⟨y, hy, rfl⟩ := List.mem_map.mp hz
    rw [zeroB_iff.mp h y hy, Int.zero_mul]
  | false =>
    cases q : zeroB (timesL m x) with
    | false => rfl
    | true =>
      rw [← h, zeroB_iff.mpr fun y hy => ?_]
      rcases Int.mul_eq_zero.mp (zeroB_iff.mp q (y * m) (List.mem_map_of_mem (f := fun p => p * m) hy)) with e | e
      · exact e
      · exact absurd e hm
theorem pos_dvd_one {k : Int} (h : 0 < k) (h1 : k ∣ 1) : k = 1 := by
  have := Int.le_of_dvd (by decide) h1
  omega
theorem prim_spec {x : List Int} (hx : isNum x = true) (h0 : zeroB x = false) : 0 < contL x ∧ isNum (primC x) = true ∧ zeroB (primC x) = false ∧ x = timesL (contL x) (primC x) ∧ contL (primC x) = 1 := by
  have hc := (div_iff hx h0 (m := 1) (by decide)).1
  obtain ⟨y, hy, e⟩ := (div_iff hx h0 hc).2.mpr ⟨1, by omega⟩
  have ep : primC x = y := by
    have h2 := quo_of_times hc y
    rw [← e] at h2
    exact h2
  have zy : zeroB y = false := by
    rw [← h0]
    conv => rhs; rw [e]
    rw [times_zero_iff (by omega)]
  refine ⟨hc, by rw [ep]; exact hy, by rw [ep]; exact zy, by rw [ep]; exact e, ?_⟩
  rw [ep]
  have hk := (div_iff hy zy (m := 1) (by decide)).1
  obtain ⟨z, hz, e2⟩ := (div_iff hy zy hk).2.mpr ⟨1, by omega⟩
  have hkc := Int.mul_pos hk hc
  have : contL y * contL x ∣ contL x := (div_iff hx h0 hkc).2.mp ⟨z, hz, by rw [← times_times, ← e2]; exact e⟩
  refine pos_dvd_one hk ?_
  have h1 : contL y * contL x ∣ 1 * contL x := by rw [Int.one_mul]; exact this
  exact Int.dvd_of_mul_dvd_mul_right (by omega) h1
theorem cont_times {x : List Int} (hx : isNum x = true) (h0 : zeroB x = false) {m : Int} (hm : 0 < m) : contL (timesL m x) = m * contL x := by
  obtain ⟨hc, pn, pz, e, _⟩ := prim_spec hx h0
  have hn := num_times m hx
  have hz : zeroB (timesL m x) = false := by rw [times_zero_iff (by omega)]; exact h0
  obtain ⟨hC, qn, qz, e2, _⟩ := prim_spec hn hz
  have d1 : m * contL x ∣ contL (timesL m x) := (div_iff hn hz (Int.mul_pos hm hc)).2.mp ⟨primC x, pn, by
    conv => lhs; rw [e]
    rw [times_times, Int.mul_comm]⟩
  obtain ⟨k, hk⟩ := d1
  have kp : 0 < k := by
    rcases Int.lt_or_le 0 k with q | q
    · exact q
    · have := Int.mul_nonpos_of_nonneg_of_nonpos (Int.le_of_lt (Int.mul_pos hm hc)) q
      omega
  have e3 : x = timesL (contL x * k) (primC (timesL m x)) := by
    refine times_inj (m := m) (by omega) ?_
    rw [times_times]
    conv => lhs; rw [e2]
    rw [hk]
    congr 1
    rw [Int.mul_assoc, Int.mul_comm]
  have d2 : contL x * k ∣ contL x := (div_iff hx h0 (Int.mul_pos hc kp)).2.mp ⟨_, qn, e3⟩
  have d3 : k ∣ 1 := by
    have h1 : contL x * k ∣ contL x * 1 := by rw [Int.mul_one]; exact d2
    exact Int.dvd_of_mul_dvd_mul_left (by omega) h1
  have := pos_dvd_one kp d3
  rw [hk, this, Int.mul_one]
/-! ### the number of a turn -/
end TB

namespace TB
open PySem L2 PySem.Spec PyProof.Rows
/-! ### questions about turns -/
/-- a question about one turn: what is no turn is refused -/
def RTq (c : Addr) (g : Int → List (List Int) → Out) : List D → Out → Prop := fun ds o => ∃ d es, ds = [d] ∧ SqD d es ∧ ((es.length ≠ 2 ∧ o = .x c) ∨ (∃ b dr, es = [.bool b, dr] ∧ o = .x c) ∨ ∃ s dr es' rs, es = [.int s, dr] ∧ TurnA s dr es' rs ∧ o = if goodT s rs = true then g s rs else .x c)
theorem RTq.len {c : Addr} {g : Int → List (List Int) → Out} {ds : List D} {o : Out} (h : RTq c g ds o) : ds.length = 1 := by
  obtain ⟨_, _, rfl, _⟩ := h
  rfl
theorem RTq.go {c : Addr} {g : Int → List (List Int) → Out} {ds : List D} {o : Out} (h : RTq c g ds o) : (∃ d, ds = [d] ∧ R_chkT c [d] (.x c) ∧ o = .x c) ∨ ∃ d s dr es rs, ds = [d] ∧ SqD d [.int s, dr] ∧ TurnA s dr es rs ∧ goodT s rs = true ∧ o = g s rs ∧ R_chkT c [d] (.v .none) := by
  obtain ⟨d, es, rfl, sq, h | ⟨b, dr, rfl, ho⟩ | ⟨s, dr, es', rs, rfl, ta, ho⟩⟩ := h
  · exact .inl ⟨d, rfl, ⟨d, es, rfl, sq, .inl ⟨h.1, rfl⟩⟩, h.2⟩
  · exact .inl ⟨d, rfl, ⟨d, _, rfl, sq, .inr (.inl ⟨b, dr, rfl, rfl⟩)⟩, ho⟩
  · by_cases hg : goodT s rs = true
    · rw [if_pos hg] at ho
      exact .inr ⟨d, s, dr, es', rs, rfl, sq, ta, hg, ho, ⟨d, _, rfl, sq, .inr (.inr ⟨s, dr, es', rs, rfl, ta, by rw [if_pos hg]⟩)⟩⟩
    · rw [if_neg hg] at ho
      exact .inl ⟨d, rfl, ⟨d, _, rfl, sq, .inr (.inr ⟨s, dr, es', rs, rfl, ta, by rw [if_neg hg]⟩)⟩, ho⟩
/-- asked about a turn -/
theorem RTq.of {c : Addr} {g : Int → List (List Int) → Out} {d : D} {s : Int} {dr : D} {es : List D} {rs : List (List Int)} (sq : SqD d [.int s, dr]) (ta : TurnA s dr es rs) (h : goodT s rs = true) : RTq c g [d] (g s rs) :=
  ⟨d, _, rfl, sq, .inr (.inr ⟨s, dr, es, rs, rfl, ta, by rw [if_pos h]⟩)⟩
end TB
namespace TB
open PySem L2 PySem.Spec PyProof.Rows
end TB

namespace TB
open PySem L2
/-! ### zip of three rows, its tuples kept -/
section
variable {prog : Program} {w : World} {A : Around} {E : Value → Shared → Prop} {s : Shared} {q TI TO T i1 i2 i3 : Addr} {fa fb fc : List Addr} {n1 n2 n3 i : Nat} {P1 P2 P3 : Nat → Value → Prop} {J1 J2 J3 : Nat → Heap → Prop} {f : Bool} {oT : Obj}
end
/-! ### what an iterator gives, laid into a list or a tuple -/
section
variable {prog : Program} {w : World} {A : Around} {E : Value → Shared → Prop} {s : Shared} {R : Result → Shared → Prop} {I S : Addr} {n : Nat} {J : Nat → List Value → Shared → Prop} {Fi : List Value → Shared → Prop}
end
section
variable {prog : Program} {w : World} {A : Around} {E : Value → Shared → Prop} {s : Shared} {I : Addr} {n : Nat} {J : Nat → List Value → Shared → Prop} {Fi : List Value → Shared → Prop}
end
end TB

namespace TB
open PySem L2
section
variable {X : Cx} {pins : List (Addr × Obj)} {σ : L2.St} {F H : Hp} {s0 : Shared}
end
end TB
namespace TB
open PySem L2
section
variable {X : Cx} {W : WX} {F0 H0 : Hp} {Γ : List S} {e : Expr} {p p2 p3 pos pos2 : Pos} {d r1 r2 r3 : D} {as bs cs : List D}
end
end TB

namespace TB
open PySem L2 PySem.Spec PyProof.Rows
/-! ### turns one behind another -/
theorem sq_mul {x y : List Int} (hx : isNum x = true) (hy : isNum y = true) : sqS y * sqS x = 4 * sqS (mulL y x) := by
  obtain ⟨a, b, c, d, rfl, k⟩ := num_cases hx
  obtain ⟨e, f, g, h, rfl, l⟩ := num_cases hy
  obtain ⟨p, q, r, s, ⟨h1, h2, h3, h4⟩, _, e2⟩ := mul_pr l k
  rw [e2]
  show (e * e + (f * f + (g * g + (h * h + 0)))) * (a * a + (b * b + (c * c + (d * d + 0)))) = 4 * (p * p + (q * q + (r * r + (s * s + 0))))
  have k4 : 4 * (p * p + (q * q + (r * r + (s * s + 0)))) = (2 * p) * (2 * p) + (2 * q) * (2 * q) + (2 * r) * (2 * r) + (2 * s) * (2 * s) := by grind
  rw [k4, h1, h2, h3, h4]
  grind
theorem zero_mul {x y : List Int} (hx : isNum x = true) (hy : isNum y = true) (zx : zeroB x = false) (zy : zeroB y = false) : zeroB (mulL y x) = false := by
  have p1 := Int.mul_pos (sq_pos hy zy) (sq_pos hx zx)
  rw [sq_mul hx hy] at p1
  cases q : zeroB (mulL y x) with
  | false => rfl
  | true =>
    exfalso
    have : sqS (mulL y x) = 0 := by
      unfold sqS
      have e : ∀ l : List Int, (∀ z ∈ l, z = 0) → (l.map fun p => p * p).sum = 0 := fun l => by
        induction l with
        | nil => intro _; rfl
        | cons a l ih =>
          intro h
          rw [List.map_cons, List.sum_cons, ih (fun z hz => h z (List.mem_cons_of_mem _ hz)), h a List.mem_cons_self]
          rfl
      exact e _ (zeroB_iff.mp q)
    omega
end TB

namespace TB
open PySem L2 PySem.Spec PyProof.Rows
end TB
namespace TB
open PySem L2 PySem.Spec PyProof.Rows
end TB

namespace TB
open PySem L2 PySem.Spec PyProof.Rows
section
variable {X : Cx} {W : WX} {F0 H0 : Hp} {Γ : List S} {tg it : Expr} {body : List Stmt} {pos : Pos} {ds : List D}
end
end TB

namespace TB
open PySem L2 PySem.Spec PyProof.Rows PySem.Calls
/-! ### gcd of three -/
section
variable {X : Cx} {W : WX} {F0 H0 : Hp} {Γ : List S} {e1 e2 e3 : Expr} {a b c : Int} {pos np : Pos}
end
/-! ### the order of a turn -/
def SO.ret : SO → Prop
  | .rt _ => True
  | .rto _ => True
  | .rtq _ => True
  | _ => False
section
variable {X : Cx} {W : WX} {F0 H0 : Hp} {Γ : List S} {tg it : Expr} {body : List Stmt} {pos : Pos}
end
section
variable {X : Cx} {W : WX} {F0 H0 : Hp} {Γ Γ1 : List S} {st : Stmt} {rest : List Stmt} {so2 : SO} {so' : Nat → SO} {o : Option Nat}
end
/-! where the powers are whole -/
end TB

namespace TB
open PySem L2 PySem.Spec PyProof.Rows
/-! ### orders and axes -/
/-! axes -/
theorem RTq.bad {c : Addr} {g : Int → List (List Int) → Out} {d : D} (h : R_chkT c [d] (.x c)) : RTq c g [d] (.x c) := by
  obtain ⟨d', es, e, sq, h | ⟨b, dr, h1, h2⟩ | ⟨s, dr, es', rs, h1, ta, h2⟩⟩ := h
  · cases e
    exact ⟨d, es, rfl, sq, .inl h⟩
  · cases e
    exact ⟨d, es, rfl, sq, .inr (.inl ⟨b, dr, h1, h2⟩)⟩
  · cases e
    refine ⟨d, es, rfl, sq, .inr (.inr ⟨s, dr, es', rs, h1, ta, ?_⟩)⟩
    by_cases q : goodT s rs = true
    · rw [if_pos q] at h2
      cases h2
    · rw [if_neg q]
end TB

namespace TB
open PySem L2 PySem.Spec PyProof.Rows
/-! ### comparisons of rows of integers -/
section
variable {X : Cx}
end
section
variable {X : Cx} {W : WX} {F0 H0 : Hp} {Γ : List S} {a b e : Expr} {pos np : Pos} {x y : List Int}
end
end TB

namespace TB
open PySem L2 PySem.Spec PyProof.Rows PySem.Calls
/-! ### gcd and lcm of two -/
section
variable {X : Cx} {W : WX} {F0 H0 : Hp} {Γ : List S} {e1 e2 : Expr} {a b : Int} {pos np : Pos}
end
/-! ### fractions -/
/-! ### points of fractions -/
/-! ### the law's point -/
end TB

namespace TB
open PySem L2 PySem.Spec PyProof.Rows
section
variable {X : Cx} {F0 H0 : Hp} {Γ : List S} {e : Expr} {i : Int}
end
/-- an integer of the module -/
theorem dp_int {K : PySem.W.Frag} (z : Int) : ∀ F, Dp K F (.int z) (.int z) := fun F => .int z
/-! ### powers modulo an integer -/
def pmS (m : Int) (s : Int × Int × Int) : Int × Int × Int := (if s.2.2 % 2 = 0 then s.1 else s.1 * s.2.1 % m, s.2.1 * s.2.1 % m, s.2.2 / 2)
def pmK (m : Int) (s : Int × Int × Int) : Nat → Int × Int × Int
  | 0 => s
  | k + 1 => pmS m (pmK m s k)
def bitsN (n : Nat) : Nat := if n = 0 then 0 else n.log2 + 1
def powF (m b e : Int) : Int := (pmK m (1, b, e) (bitsN e.toNat)).1
/-! ### the test of primes -/
def tzF : Nat → Nat → Nat
  | 0, _ => 0
  | f + 1, n => if n % 2 = 0 then tzF f (n / 2) + 1 else 0
def sqK (m p : Int) : Nat → Int
  | 0 => p
  | k + 1 => sqK m p k * sqK m p k % m
def passF (v b : Int) : Bool :=
  let s := tzF 64 (v - 1).toNat
  let p := powF v b ((((v - 1).toNat / 2 ^ s : Nat)) : Int)
  decide (p = 1) || (match (List.range s).find? (fun k => decide (sqK v p k = v - 1)) with | some _ => true | none => false)
def basesL : List Int := [2, 3, 5, 7, 11]
def isPrimeF (v : Int) : Bool := if 2 ≤ v ∧ v ≤ 1000000000000 then (match (List.range 5).find? (fun k => decide (v % basesL.getD k 0 = 0)) with | some k => decide (v = basesL.getD k 0) | none => basesL.all (passF v)) else false
section
variable {X : Cx} {W : WX} {F0 H0 : Hp} {Γ : List S} {e : Expr} {pos : Pos}
end
end TB

namespace TB
open PySem L2 PySem.Spec PyProof.Rows
/-! ### dicts of one's own: keys integers or texts, data behind them -/
def dkO (kvs : List (Key × D)) : Own := .dk (kvs.map fun p => (p.1, .dat p.2))
def putD (kvs : List (Key × D)) (k : Key) (d : D) : List (Key × D) := if (kvs.any fun kv => decide (kv.1 = k)) = true then kvs.map (fun kv => if kv.1 = k then (kv.1, d) else kv) else kvs ++ [(k, d)]
def KvD (K : PySem.W.Frag) (F : Hp) (acc : List (Key × V)) (kvs : List (Key × D)) : Prop := acc.map (·.1) = kvs.map (·.1) ∧ DpAll K F (acc.map (·.2)) (kvs.map (·.2))
section
variable {K : PySem.W.Frag} {F F' H : Hp}
theorem KvD.mono {acc : List (Key × V)} {kvs : List (Key × D)} (e : Ex F F') (h : KvD K F acc kvs) : KvD K F' acc kvs := ⟨h.1, da_ex e _ _ h.2⟩
theorem KvD.len {acc : List (Key × V)} {kvs : List (Key × D)} (h : KvD K F acc kvs) : acc.length = kvs.length := by
  have := congrArg List.length h.1
  simpa using this
theorem KvD.cons {a : Key × V} {b : Key × D} {acc : List (Key × V)} {kvs : List (Key × D)} (h : KvD K F (a :: acc) (b :: kvs)) : a.1 = b.1 ∧ Dp K F a.2 b.2 ∧ KvD K F acc kvs := by
  obtain ⟨h1, h2⟩ := h
  simp only [List.map_cons, List.cons.injEq] at h1
  cases h2 with
  | cons p q => exact ⟨h1.1, p, h1.2, q⟩
theorem KvD.mk {a : Key × V} {b : Key × D} {acc : List (Key × V)} {kvs : List (Key × D)} (h1 : a.1 = b.1) (h2 : Dp K F a.2 b.2) (h3 : KvD K F acc kvs) : KvD K F (a :: acc) (b :: kvs) :=
  ⟨by simp only [List.map_cons, List.cons.injEq]; exact ⟨h1, h3.1⟩, .cons h2 h3.2⟩
theorem KvD.nil : KvD K F [] [] := ⟨rfl, .nil⟩
theorem KvD.app : ∀ {acc : List (Key × V)} {kvs : List (Key × D)} {a : Key × V} {b : Key × D}, KvD K F acc kvs → a.1 = b.1 → Dp K F a.2 b.2 → KvD K F (acc ++ [a]) (kvs ++ [b])
  | [], [], _, _, _, h1, h2 => KvD.mk h1 h2 KvD.nil
  | [], b :: kvs, _, _, h, _, _ => by have := h.len; simp at this
  | a :: acc, [], _, _, h, _, _ => by have := h.len; simp at this
  | a :: acc, b :: kvs, _, _, h, g1, g2 => by
    obtain ⟨h1, h2, h3⟩ := h.cons
    exact KvD.mk h1 h2 (KvD.app h3 g1 g2)
theorem KvD.any (k : Key) : ∀ {acc : List (Key × V)} {kvs : List (Key × D)}, KvD K F acc kvs → (acc.any fun kv => decide (kv.1 = k)) = (kvs.any fun kv => decide (kv.1 = k))
  | [], [], _ => rfl
  | [], b :: kvs, h => by have := h.len; simp at this
  | a :: acc, [], h => by have := h.len; simp at this
  | a :: acc, b :: kvs, h => by
    obtain ⟨h1, h2, h3⟩ := h.cons
    rw [List.any_cons, List.any_cons, KvD.any k h3, h1]
theorem KvD.repl (k : Key) {v : V} {d : D} (hd : Dp K F v d) : ∀ {acc : List (Key × V)} {kvs : List (Key × D)}, KvD K F acc kvs → KvD K F (acc.map fun kv => if kv.1 = k then (kv.1, v) else kv) (kvs.map fun kv => if kv.1 = k then (kv.1, d) else kv)
  | [], [], _ => KvD.nil
  | [], b :: kvs, h => by have := h.len; simp at this
  | a :: acc, [], h => by have := h.len; simp at this
  | a :: acc, b :: kvs, h => by
    obtain ⟨h1, h2, h3⟩ := h.cons
    rw [List.map_cons, List.map_cons]
    by_cases e : b.1 = k
    · rw [if_pos (h1.trans e), if_pos e]
      exact KvD.mk h1 hd (KvD.repl k hd h3)
    · rw [if_neg (fun q => e (h1.symm.trans q)), if_neg e]
      exact KvD.mk h1 h2 (KvD.repl k hd h3)
theorem KvD.put {acc : List (Key × V)} {kvs : List (Key × D)} {k : Key} {v : V} {d : D} (h : KvD K F acc kvs) (hd : Dp K F v d) : KvD K F (putK acc k v) (putD kvs k d) := by
  unfold putK putD
  rw [h.any k]
  split
  · exact KvD.repl k hd h
  · exact KvD.app h rfl hd
theorem dk_inv {kvs : List (Key × D)} {v : V} {fp : List Addr} (h : OA K F H (dkO kvs) v fp) : ∃ p acc, v = .ref p ∧ H p = some (.dK acc) ∧ KvD K F acc kvs ∧ fp = [p] := by
  unfold dkO at h
  cases h with
  | dk e hk l =>
    rw [show (kvs.map fun p => (p.1, Own.dat p.2)).map (·.2) = (kvs.map (·.2)).map .dat by rw [List.map_map, List.map_map]; rfl] at l
    obtain ⟨d, rfl⟩ := dat_ol l
    rw [show (kvs.map fun p => (p.1, Own.dat p.2)).map (·.1) = kvs.map (·.1) by rw [List.map_map]; rfl] at hk
    exact ⟨_, _, rfl, e, ⟨hk, d⟩, rfl⟩
end
section
variable {K : PySem.W.Frag} {F0 H0 : Hp} {Γ : List S} {W : WX}
end
section
variable {X : Cx} {W : WX} {F0 H0 : Hp} {Γ : List S} {kx vx tg it : Expr} {pos : Pos} {scope : Scope} {α : Type} {xs : List α} {enc : α → D} {fk : α → Key} {fv : α → D} {own : List (Str × Nat)}
end
section
variable {K : PySem.W.Frag} {F0 H0 F H : Hp} {σ : L2.St} {Γ : List S}
theorem Ok.dict (ok : Ok K F0 H0 F σ H Γ) {i : Nat} {kvs : List (Key × D)} (g : Γ[i]? = some (.q (dkO kvs))) : ∃ p acc, σ[i]? = some (some (.ref p)) ∧ H p = some (.dK acc) ∧ F p = none ∧ H0 p = none ∧ KvD K F acc kvs := by
  obtain ⟨v, fp, e1, e2, e3, e4⟩ := ok.tree g
  obtain ⟨p, acc, rfl, h1, h2, rfl⟩ := dk_inv e2
  exact ⟨p, acc, e1, h1, (e4 p (by simp)).1, (e4 p (by simp)).2, h2⟩
end
section
variable {X : Cx} {W : WX} {F0 H0 : Hp} {Γ : List S} {b e : Expr} {pos : Pos} {kvs : List (Key × D)} {key : Key} {d x : D}
end
end TB

namespace TB
open PySem L2 PySem.Spec PyProof.Rows
/-! ### dicts from integers to integers -/
/-! ### roots modulo a prime -/
def smallP : List Int := [3, 5, 7, 11, 13, 17, 19, 23, 29, 31, 37, 41, 43]
end TB

namespace TB
open PySem L2 PySem.Spec PyProof.Rows
/-! ### tables modulo a prime -/
end TB

namespace TB
open PySem L2 PySem.Spec PyProof.Rows
section
variable {X : Cx} {W : WX} {F0 H0 : Hp} {Γ : List S} {a b c : Expr} {pos : Pos} {i j k : Int}
end
/-! ### promises about tables -/
theorem SeqAll.two {es : List D} {p q : List Int} (h : SeqAll es [p, q]) : ∃ d1 d2, es = [d1, d2] ∧ Seq d1 p ∧ Seq d2 q := by
  cases h with
  | cons h1 h =>
    cases h with
    | cons h2 h =>
      cases h
      exact ⟨_, _, rfl, h1, h2⟩
end TB

namespace TB
open PySem L2 PySem.Spec PyProof.Rows PySem.Calls
/-! ### x in range(a, b, c) -/
section
variable {X : Cx} {F0 H0 : Hp} {Γ : List S} {W : WX} {x e1 e2 e3 : Expr} {i a b c : Int} {pos rpos np : Pos}
end
end TB

namespace TB
open PySem L2 PySem.Spec PyProof.Rows
section
variable {X : Cx} {W : WX} {F0 H0 : Hp} {Γ : List S} {a : Expr} {ds : List D} {x : D} {pos : Pos} {n : Str}
end
/-! ### the law's own canonical numbers -/
def lcanL (x : List Int) : List Int := mxL (unitsL.map fun u => mulL x u)
def lpD (p a b c : Int) (F : List (List Int)) (d : Nat) : List (List Int) :=
  if (0 + (d : Int)) * (0 + (d : Int)) = p - a * a - b * b - c * c then (if (F.any fun z => decide (z = lcanL [2 * a, 2 * b, 2 * c, 2 * (0 + (d : Int))])) = true then F else F ++ [lcanL [2 * a, 2 * b, 2 * c, 2 * (0 + (d : Int))]]) else F
def lpC (p : Int) (m : Nat) (a b : Int) (F : List (List Int)) (j : Nat) : List (List Int) := (List.range (m + 1)).foldl (lpD p a b (-(m : Int) + (j : Int))) F
def lpB (p : Int) (m : Nat) (a : Int) (F : List (List Int)) (j : Nat) : List (List Int) := (List.range (2 * m + 1)).foldl (lpC p m a (-(m : Int) + (j : Int))) F
def lpA (p : Int) (m : Nat) (F : List (List Int)) (i : Nat) : List (List Int) := (List.range (2 * m + 1)).foldl (lpB p m (0 + (i : Int))) F
def msK (p : Int) : Nat → Nat
  | 0 => 0
  | k + 1 => if (0 + (k : Int) + 1) * (0 + (k : Int) + 1) ≤ p then k + 1 else msK p k
def lpAll (p : Int) : List (List Int) := (List.range (msK p 40 + 1)).foldl (lpA p (msK p 40)) []
def lprimes (p : Int) : List (List Int) := sortLL (lpAll p)
/-! ### the law's units, in another order -/
end TB

namespace TB
open PySem L2 PySem.Spec PyProof.Rows
/-! ### factors that are drawn -/
/-! sorting by insertion, which the kernel reckons -/
def insL (x : List Int) : List (List Int) → List (List Int)
  | [] => [x]
  | y :: ys => if x ≤ y then x :: y :: ys else y :: insL x ys
def isortL (xs : List (List Int)) : List (List Int) := xs.foldr insL []
theorem ins_perm (x : List Int) : ∀ ys, (insL x ys).Perm (x :: ys)
  | [] => List.Perm.refl _
  | y :: ys => by
    unfold insL
    split
    · exact List.Perm.refl _
    · exact ((ins_perm x ys).cons y).trans (List.Perm.swap x y ys)
theorem isort_perm : ∀ xs, (isortL xs).Perm xs
  | [] => List.Perm.refl _
  | x :: xs => (ins_perm x (isortL xs)).trans ((isort_perm xs).cons x)
theorem ins_asc (x : List Int) : ∀ ys, ys.Pairwise (fun a b => a ≤ b) → (insL x ys).Pairwise (fun a b => a ≤ b)
  | [], _ => List.pairwise_singleton _ _
  | y :: ys, h => by
    obtain ⟨h1, h2⟩ := List.pairwise_cons.mp h
    unfold insL
    split
    · rename_i c
      refine List.pairwise_cons.mpr ⟨fun z hz => ?_, h⟩
      rcases List.mem_cons.mp hz with rfl | hz
      · exact c
      · exact List.le_trans c (h1 z hz)
    · rename_i c
      have c' : y ≤ x := (List.le_total x y).resolve_left c
      refine List.pairwise_cons.mpr ⟨fun z hz => ?_, ins_asc x ys h2⟩
      rcases List.mem_cons.mp ((ins_perm x ys).mem_iff.mp hz) with rfl | hz
      · exact c'
      · exact h1 z hz
theorem isort_asc : ∀ xs, (isortL xs).Pairwise (fun a b => a ≤ b)
  | [] => List.Pairwise.nil
  | x :: xs => ins_asc x _ (isort_asc xs)
theorem sort_ins (xs : List (List Int)) : sortLL xs = isortL xs := sort_to (isort_perm xs) (isort_asc xs)
def lprV (p : Int) : List (List Int) := isortL (lpAll p)
theorem lpr_V (p : Int) : lprimes p = lprV p := sort_ins _
def prOk (p : Int) : Bool := decide (0 ≤ p) && decide (p ≤ 48) && decide ((lprV p).length ≠ 0) && (lprV p).all (fun x => isNum x && decide (normL x = p) && decide (lcanL x = x) && x.all fun z => decide (z.natAbs < 100))
theorem getD_memL {xs : List (List Int)} {k : Nat} (h : k < xs.length) : xs.getD k [] ∈ xs := by
  rw [List.getD_eq_getElem?_getD, List.getElem?_eq_getElem h]
  exact List.getElem_mem h
def prodL (xs : List (List Int)) : List Int := xs.foldl mulL [2, 0, 0, 0]
end TB

namespace TB
open PySem L2 PySem.Spec PyProof.Rows
/-! ### an own list goes to another name; an own list at the right of != -/
section
variable {K : PySem.W.Frag} {F0 H0 F H : Hp} {σ : L2.St} {Γ : List S}
end
section
variable {X : Cx} {W : WX} {F0 H0 : Hp} {Γ : List S} {b e : Expr} {ds : List D} {y : D} {pos np : Pos} {n : Str} {es : List Expr} {sp : Pos} {es2 : List D}
end
/-! ### numbers of the norms 2, 3, 5, 7 -/
theorem lcan_canon (x : List Int) : lcanL x = canonL x := canon_eq (mx_spec (ls := unitsL.map fun u => mulL x u) (by simp [unitsL])).1 (mx_spec (ls := unitsL.map fun u => mulL x u) (by simp [unitsL])).2
structure PF (x : List Int) : Prop where
  num : isNum x = true
  nrm : normL x = 2 ∨ normL x = 3 ∨ normL x = 5 ∨ normL x = 7
theorem PF.g {x : List Int} (h : PF x) : G 3 x := norm_G h.num (by rcases h.nrm with e | e | e | e <;> rw [e] <;> decide)
theorem PF.nz {x : List Int} (h : PF x) : zeroB x = false := by
  cases q : zeroB x with
  | false => rfl
  | true =>
    have e0 := zero_is h.num q
    have hn := h.nrm
    rw [e0, show normL [0, 0, 0, 0] = 0 from rfl] at hn
    omega
theorem PF.prime {x : List Int} (h : PF x) : isPrimeF (normL x) = true := by rcases h.nrm with e | e | e | e <;> rw [e] <;> decide
theorem PF.right {x u : List Int} (h : PF x) (hu : u ∈ unitsL) : PF (mulL x u) := ⟨num_mul h.num (u_num hu), by rw [norm_mul h.num (u_num hu), norm_unit hu, Int.mul_one]; exact h.nrm⟩
theorem PF.left {x u : List Int} (h : PF x) (hu : u ∈ unitsL) : PF (mulL u x) := ⟨num_mul (u_num hu) h.num, by rw [norm_mul (u_num hu) h.num, norm_unit hu, Int.one_mul]; exact h.nrm⟩
def ldivF (f n : List Int) : Option (List Int) :=
  let w := mulL (conjL f) n
  if (w.any fun z => decide (z % normL f ≠ 0)) = true then none
  else if ((quoL (normL f) w).any fun s => decide ((s - (quoL (normL f) w).getD 0 0) % 2 ≠ 0)) = true then none else some (quoL (normL f) w)
section
variable {X : Cx} {W : WX} {F0 H0 : Hp} {Γ : List S} {st : Stmt} {rest : List Stmt} {so : SO} {α : Type}
end
end TB

namespace TB
open PySem L2 PySem.Spec PyProof.Rows RZ
section
variable {X : Cx} {W : WX} {F0 H0 : Hp} {Γ : List S} {e it : Expr} {p2 p3 pos pos2 tp : Pos} {xs ys : List D} {kk : Nat} {elts : List Expr}
end
/-! ### lines modulo a prime -/
def sixP : List Int := [3, 5, 7, 11, 13, 17]
/-! ### the law's primes up to 17 -/
theorem six_small {p : Int} (h : p ∈ sixP) : p ∈ smallP ∧ 3 ≤ p ∧ p ≤ 17 := by
  have : sixP.all (fun q => decide (q ∈ smallP) && decide (3 ≤ q) && decide (q ≤ 17)) = true := by decide
  have := List.all_eq_true.mp this p h
  simp only [Bool.and_eq_true] at this
  exact ⟨of_decide_eq_true this.1.1, of_decide_eq_true this.1.2, of_decide_eq_true this.2⟩
/-! ### products of drawn factors -/
theorem norm_ne_zero {x : List Int} (hn : isNum x = true) (h : normL x ≠ 0) : zeroB x = false := by
  cases q : zeroB x with
  | false => rfl
  | true =>
    have e0 := zero_is hn q
    rw [e0] at h
    exact absurd (by decide) h
end TB

namespace TB
open PySem L2 PySem.Spec PyProof.Rows
/-! ### dividing by a number of odd prime norm, by its line -/
end TB

namespace TB
open PySem L2 PySem.Spec PyProof.Rows
/-! ### the prime of a line -/
end TB
namespace TB
open PySem L2 PySem.Spec PyProof.Rows
end TB

namespace TB
open PySem L2
/-! ### a slice as a target -/
/-! ### more of a list of one's own: pop(k), insert(k, x) -/
section
variable {X : Cx} {W : WX} {F0 H0 : Hp} {Γ : List S} {e b : Expr} {n : Str} {np apos cpos pos : Pos} {ds : List D} {x : D}
end
end TB

namespace TB
open PySem L2
/-! ### a list of one's own is lent: as data for one expression whose value is an int, a bool or a tuple of ints -/
section
variable {X : Cx} {W : WX} {F0 H0 : Hp} {Γ : List S} {e : Expr} {ds : List D}
end
end TB

namespace TB
open PySem L2 PySem.Spec PyProof.Rows
/-! ### factorings handed as lists of lists -/
end TB

namespace TB
open PySem L2 PySem.Spec PyProof.Rows
/-! ### k29: the norms that its factors may have -/
def nbase : List Int := [1, 2, 3, 5, 7]
def nlist : List Int := [4, 9] ++ (nbase.flatMap fun a => nbase.map fun b => a * b)
structure QF1 (x : List Int) : Prop where
  num : isNum x = true
  nrm : normL x ∈ nbase
structure QF (x : List Int) : Prop where
  num : isNum x = true
  nrm : normL x ∈ nlist
theorem nlist_lt {v : Int} (h : v ∈ nlist) : v < 64 := by
  have : nlist.all (fun v => decide (v < 64)) = true := by decide +kernel
  exact of_decide_eq_true (List.all_eq_true.mp this v h)
theorem QF.g {x : List Int} (h : QF x) : G 4 x := norm_G (n := 3) h.num (by have := nlist_lt h.nrm; exact this)
theorem QF1.q {x : List Int} (h : QF1 x) : QF x := ⟨h.num, by
  have : nbase.all (fun v => decide (v ∈ nlist)) = true := by decide +kernel
  exact of_decide_eq_true (List.all_eq_true.mp this _ h.nrm)⟩
theorem QF1.mul {x y : List Int} (hx : QF1 x) (hy : QF1 y) : QF (mulL x y) := ⟨num_mul hx.num hy.num, by
  rw [norm_mul hx.num hy.num]
  exact List.mem_append_right _ (List.mem_flatMap.mpr ⟨_, hx.nrm, List.mem_map.mpr ⟨_, hy.nrm, rfl⟩⟩)⟩
theorem PF.q1 {x : List Int} (h : PF x) : QF1 x := ⟨h.num, by
  rcases h.nrm with e | e | e | e <;> rw [e] <;> decide⟩
end TB

namespace TB
open PySem L2 PySem.Spec PyProof.Rows
/-! ### {elt for a in .. for b in .. for c in ..}, elt a tuple of ints -/
section
variable {X : Cx}
end

/-- the set at D has these -/
def SetSt (X : Cx) (F H : Hp) (D : Addr) (ls : List (List Int)) : Prop := ∃ L, H D = some (SetTO X.prog X.w D L) ∧ F D = none ∧ (∀ p ∈ L, SqT X.K F p.1 (p.2.map V.int)) ∧ (L.map (·.2)).Nodup ∧ L.length ≤ ls.length ∧ ∀ k, k ∈ L.map (·.2) ↔ k ∈ ls
theorem SetSt.mono {X : Cx} {F H F' H' : Hp} {D : Addr} {ls : List (List Int)} (h : SetSt X F H D ls) (z : Fz F H F' H') : SetSt X F' H' D ls := by
  obtain ⟨L, a1, a2, a3, a4⟩ := h
  exact ⟨L, z.h D _ a1, z.n D _ a2 a1, fun p hp => st_ex z.f (a3 p hp), a4⟩
section
variable {B : Cx} {F0 H0 F1 H1 : Hp} {D : Addr} {Γ : List S} {vs : List Nat}
end

/-! the three clauses -/
section
variable {prog : Program} {w : World} {A : Around} {R : Result → Shared → Prop} {s : Shared} {elt t0 i0 t1 i1 t2 i2 : Expr} {scope : Scope} {pos : Pos} {it acc : Value} {env : Env}
end
section
variable {X : Cx} {F0 H0 : Hp} {Γ : List S} {elt t0 i0 t1 i1 t2 i2 : Expr} {scope : Scope} {pos : Pos}
end
end TB

namespace TB
open PySem L2 PySem.Spec PyProof.Rows
/-! ### sorted of a set of tuples of any ints -/
def nubL : List (List Int) → List (List Int)
  | [] => []
  | x :: xs => if x ∈ xs then nubL xs else x :: nubL xs
/-- the set's tuples in order -/
def sortN (ls : List (List Int)) : List (List Int) := sortLL (nubL ls)
section
variable {P : Program} {w : World} {A : Around} {E : Value → Shared → Prop} {s : Shared}
end
section
variable {X : Cx}
end
end TB

namespace TB
open PySem L2 PySem.Spec PyProof.Rows
/-! ### range with the step 2; loops that break -/
def upN (i j : Int) : Nat := if i < j then ((j - i - 1) / 2 + 1).toNat else 0
section
variable {X : Cx} {W : WX} {F0 H0 : Hp} {Γ : List S} {a b c tg it : Expr} {pos np : Pos} {i j : Int} {body : List Stmt} {α β : Type}
end
/-! ### the numbers of a prime norm -/
def ldR (t a b c : Int) : Int := t - a * a - b * b - c * c
def ldC (t a b : Int) (F : List (List Int)) (l : Nat) : List (List Int) :=
  if rootI (ldR t a b (a % 2 + (l : Nat) * 2)) * rootI (ldR t a b (a % 2 + (l : Nat) * 2)) = ldR t a b (a % 2 + (l : Nat) * 2) ∧ b + (a % 2 + (l : Nat) * 2) + rootI (ldR t a b (a % 2 + (l : Nat) * 2)) ≤ a
  then F ++ [[a, b, a % 2 + (l : Nat) * 2, rootI (ldR t a b (a % 2 + (l : Nat) * 2))]] else F
def ldP (t a b : Int) (l : Nat) : Bool := !decide (ldR t a b (a % 2 + (l : Nat) * 2) < 0)
def ldB (t a : Int) (F : List (List Int)) (j : Nat) : List (List Int) :=
  ((List.range (upN (a % 2) (a - (a % 2 + (j : Nat) * 2) + 1))).takeWhile (ldP t a (a % 2 + (j : Nat) * 2))).foldl (ldC t a (a % 2 + (j : Nat) * 2)) F
def ldA (t : Int) (F : List (List Int)) (i : Nat) : List (List Int) := (List.range (upN ((0 + (i : Int)) % 2) (0 + (i : Int) + 1))).foldl (ldB t (0 + (i : Int))) F
def leadF (t : Int) : List (List Int) := (List.range (rootI t + 1).toNat).foldl (ldA t) []
def signF (a b c d : Int) : List (List Int) := [[a, b, c, d], [a, b, c, -d], [a, b, -c, d], [a, b, -c, -d], [a, -b, c, d], [a, -b, c, -d], [a, -b, -c, d], [a, -b, -c, -d]]
def signsQ (q : List Int) : List (List Int) := signF (q.getD 0 0) (q.getD 1 0) (q.getD 2 0) (q.getD 3 0)
def numsF (p : Int) : List (List Int) := (leadF (4 * p)).flatMap fun q => sortN (signsQ q)
def numsV (p : Int) : List (List Int) := (leadF (4 * p)).flatMap fun q => isortL (nubL (signsQ q))
theorem sortN_V (ls : List (List Int)) : sortN ls = isortL (nubL ls) := by unfold sortN; exact sort_ins (nubL ls)
theorem nums_V (p : Int) : numsF p = numsV p := by
  have e : (fun q => sortN (signsQ q)) = fun q => isortL (nubL (signsQ q)) := funext fun q => sortN_V (signsQ q)
  exact congrArg (fun f => (leadF (4 * p)).flatMap f) e
def primF (p : Int) : List (List Int) := sortLL ((numsF p).filter fun x => decide (canonL x = x))
def primV (p : Int) : List (List Int) := isortL ((numsV p).filter fun x => decide (lcanL x = x))
theorem prim_V (p : Int) : primF p = primV p := by
  have e : (fun x : List Int => decide (canonL x = x)) = fun x => decide (lcanL x = x) := funext fun x => by rw [lcan_canon]
  unfold primF primV
  rw [e, nums_V, sort_ins]
def elevP : List Int := [2, 3, 5, 7, 11, 13, 17, 19, 23, 29, 31]
def elevOk (p : Int) : Bool := isPrimeF p && decide (primV p = lprV p) && prOk p && decide ((lprV p).length = (if p = 2 then 1 else p + 1).toNat) && (leadF (4 * p)).all (fun q => decide (q.length = 4)) && decide ((leadF (4 * p)).length ≤ 100) && decide ((numsV p).length ≤ 1000) && (numsV p).all fun x => isNum x && !zeroB x && x.all fun z => decide (z.natAbs < 100)
theorem ev_2 : elevOk 2 = true := by decide +kernel
theorem ev_3 : elevOk 3 = true := by decide +kernel
theorem ev_5 : elevOk 5 = true := by decide +kernel
theorem ev_7 : elevOk 7 = true := by decide +kernel
theorem ev_11 : elevOk 11 = true := by decide +kernel
theorem ev_13 : elevOk 13 = true := by decide +kernel
theorem ev_17 : elevOk 17 = true := by decide +kernel
theorem ev_19 : elevOk 19 = true := by decide +kernel
theorem ev_23 : elevOk 23 = true := by decide +kernel
theorem ev_29 : elevOk 29 = true := by decide +kernel
theorem ev_31 : elevOk 31 = true := by decide +kernel
theorem elev_all : elevP.all elevOk = true := by
  simp only [elevP, List.all_cons, List.all_nil, ev_2, ev_3, ev_5, ev_7, ev_11, ev_13, ev_17, ev_19, ev_23, ev_29, ev_31, Bool.and_self]
theorem elev_ok {p : Int} (h : p ∈ elevP) : isPrimeF p = true ∧ primF p = lprimes p ∧ (lprimes p).length = (if p = 2 then 1 else p + 1).toNat ∧ (∀ q ∈ leadF (4 * p), q.length = 4) ∧ (leadF (4 * p)).length ≤ 100 ∧ (numsF p).length ≤ 1000 ∧ ∀ x ∈ numsF p, G 7 x ∧ zeroB x = false := by
  have := List.all_eq_true.mp elev_all p h
  unfold elevOk at this
  simp only [Bool.and_eq_true] at this
  obtain ⟨⟨⟨⟨⟨⟨⟨h1, h2⟩, h3⟩, h4⟩, h5⟩, h6⟩, h7⟩, h8⟩ := this
  refine ⟨h1, ?_, ?_, fun q hq => of_decide_eq_true (List.all_eq_true.mp h5 q hq), of_decide_eq_true h6, ?_, fun x hx => ?_⟩
  · rw [prim_V, lpr_V]; exact of_decide_eq_true h2
  · rw [lpr_V]; exact of_decide_eq_true h4
  · rw [nums_V]; exact of_decide_eq_true h7
  · rw [nums_V] at hx
    have := List.all_eq_true.mp h8 x hx
    simp only [Bool.and_eq_true] at this
    obtain ⟨⟨g1, g2⟩, g3⟩ := this
    refine ⟨⟨g1, fun z hz => ?_⟩, by simpa using g2⟩
    have := of_decide_eq_true (List.all_eq_true.mp g3 z hz)
    unfold Bt
    omega
theorem elev_pr {p : Int} (h : p ∈ elevP) : 2 ≤ p ∧ p ≤ 31 := by
  unfold elevP at h
  simp only [List.mem_cons, List.not_mem_nil, or_false] at h
  omega
theorem elev_lp {p : Int} (h : p ∈ elevP) : ∀ x ∈ lprimes p, G 7 x ∧ normL x = p ∧ lcanL x = x := by
  have := List.all_eq_true.mp elev_all p h
  unfold elevOk at this
  simp only [Bool.and_eq_true] at this
  obtain ⟨⟨⟨⟨⟨⟨⟨h1, h2⟩, h3⟩, h4⟩, h5⟩, h6⟩, h7⟩, h8⟩ := this
  unfold prOk at h3
  simp only [Bool.and_eq_true] at h3
  intro x hx
  rw [lpr_V] at hx
  have := List.all_eq_true.mp h3.2 x hx
  simp only [Bool.and_eq_true] at this
  obtain ⟨⟨⟨g1, g2⟩, g3⟩, g4⟩ := this
  refine ⟨⟨g1, fun z hz => ?_⟩, of_decide_eq_true g2, of_decide_eq_true g3⟩
  have := of_decide_eq_true (List.all_eq_true.mp g4 z hz)
  unfold Bt
  omega
end TB

namespace TB
open PySem L2 PySem.Spec PyProof.Rows
end TB

namespace TB
open PySem L2 PySem.Spec PyProof.Rows
/-! ### k23 -/
end TB

namespace TB
open PySem L2 PySem.Spec PyProof.Rows
/-! ### dividing by a number on the left -/
theorem ldivF_mul {f y : List Int} (hf : isNum f = true) (hy : isNum y = true) (hv : 0 < normL f) : ldivF f (mulL f y) = some y := by
  have ew : mulL (conjL f) (mulL f y) = timesL (normL f) y := by rw [← mul_asc (num_conj hf) hf hy, (mul_conj hf).2, (mul_int _ hy).1]
  unfold ldivF
  simp only [ew]
  generalize normL f = v at hv
  obtain ⟨a, b, c, d, e4⟩ := four (num_len hy)
  rw [e4] at hy ⊢
  have par := (isNum4 _ _ _ _).mp hy
  have m0 : ∀ z : Int, z * v % v = 0 := fun z => Int.mul_emod_left _ _
  have q0 : ∀ z : Int, z * v / v = z := fun z => Int.mul_ediv_cancel _ (by omega)
  simp only [timesL, quoL, List.map_cons, List.map_nil, List.any_cons, List.any_nil, m0, q0, List.getD_cons_zero]
  obtain ⟨p1, p2, p3⟩ := par
  have s0 : (a - a) % 2 = 0 := by omega
  have s1 : (b - a) % 2 = 0 := by omega
  have s2 : (c - a) % 2 = 0 := by omega
  have s3 : (d - a) % 2 = 0 := by omega
  simp [s1, s2, s3]
theorem ldivF_some {f n q : List Int} (hf : isNum f = true) (hn : isNum n = true) (hv : 0 < normL f) (h : ldivF f n = some q) : isNum q = true ∧ n = mulL f q := by
  have hw := num_mul (num_conj hf) hn
  have key : ∀ w : List Int, isNum w = true → (if (w.any fun z => decide (z % normL f ≠ 0)) = true then none else if ((quoL (normL f) w).any fun s => decide ((s - (quoL (normL f) w).getD 0 0) % 2 ≠ 0)) = true then none else some (quoL (normL f) w)) = some q → isNum q = true ∧ w = timesL (normL f) q := by
    intro w hw h
    generalize normL f = v at hv h
    split at h
    · cases h
    · rename_i c1
      split at h
      · cases h
      · rename_i c2
        have e := Option.some.inj h
        obtain ⟨a, b, c, d, rfl⟩ := four (num_len hw)
        simp only [quoL, List.map_cons, List.map_nil, List.any_cons, List.any_nil, List.getD_cons_zero, Bool.or_false, Bool.or_eq_true, decide_eq_true_eq, not_or, Classical.not_not] at c1 c2 e
        obtain ⟨a1, a2, a3, a4⟩ := c1
        obtain ⟨b0, b1, b2, b3⟩ := c2
        subst e
        refine ⟨(isNum4 _ _ _ _).mpr ⟨by omega, by omega, by omega⟩, ?_⟩
        show [a, b, c, d] = [a / v * v, b / v * v, c / v * v, d / v * v]
        rw [Int.ediv_mul_cancel (Int.dvd_of_emod_eq_zero a1), Int.ediv_mul_cancel (Int.dvd_of_emod_eq_zero a2), Int.ediv_mul_cancel (Int.dvd_of_emod_eq_zero a3), Int.ediv_mul_cancel (Int.dvd_of_emod_eq_zero a4)]
  obtain ⟨hq, e⟩ := key _ hw h
  refine ⟨hq, ?_⟩
  have e2 := congrArg (mulL f) e
  rw [← mul_asc hf (num_conj hf) hn, (mul_conj hf).1, (mul_int _ hn).1, ← (mul_int (normL f) hq).2, ← mul_asc hf hq (num_int _), (mul_int (normL f) (num_mul hf hq)).2] at e2
  exact times_inj (by omega) e2
theorem ldivF_iff {f n : List Int} (hf : isNum f = true) (hn : isNum n = true) (hv : 0 < normL f) : (ldivF f n).isSome = true ↔ LDiv f n := by
  constructor
  · intro h
    obtain ⟨q, e⟩ := Option.isSome_iff_exists.mp h
    obtain ⟨hq, en⟩ := ldivF_some hf hn hv e
    exact ⟨q, hq, en⟩
  · rintro ⟨y, hy, rfl⟩
    rw [ldivF_mul hf hy hv]
    rfl
/-! ### the greatest common left divisor with a prime, 2 among them -/
theorem wp_elev {p : Int} (hp : p ∈ elevP) : isNum (wp p) = true ∧ zeroB (wp p) = false ∧ normL (wp p) = p * p ∧ conjL (wp p) = wp p ∧ G 10 (wp p) := by
  revert p
  have h : ∀ p ∈ elevP, isNum (wp p) = true ∧ zeroB (wp p) = false ∧ normL (wp p) = p * p ∧ conjL (wp p) = wp p ∧ ∀ z ∈ wp p, z.natAbs < 2 ^ 10 := by decide +kernel
  intro p hp
  obtain ⟨h1, h2, h3, h4, h5⟩ := h p hp
  exact ⟨h1, h2, h3, h4, h1, h5⟩
/-! ### all canonical numbers of a small prime norm -/
def smP : List Int := [2, 3, 5, 7, 11, 13, 17]
def litP : Int → List (List Int)
  | 2 => [[2, 2, 0, 0]]
  | 3 => [[3, 1, -1, -1], [3, 1, -1, 1], [3, 1, 1, -1], [3, 1, 1, 1]]
  | 5 => [[4, -2, 0, 0], [4, 0, -2, 0], [4, 0, 0, -2], [4, 0, 0, 2], [4, 0, 2, 0], [4, 2, 0, 0]]
  | 7 => [[5, -1, -1, -1], [5, -1, -1, 1], [5, -1, 1, -1], [5, -1, 1, 1], [5, 1, -1, -1], [5, 1, -1, 1], [5, 1, 1, -1], [5, 1, 1, 1]]
  | 11 => [[6, -2, -2, 0], [6, -2, 0, -2], [6, -2, 0, 2], [6, -2, 2, 0], [6, 0, -2, -2], [6, 0, -2, 2], [6, 0, 2, -2], [6, 0, 2, 2], [6, 2, -2, 0], [6, 2, 0, -2], [6, 2, 0, 2], [6, 2, 2, 0]]
  | 13 => [[6, -4, 0, 0], [6, 0, -4, 0], [6, 0, 0, -4], [6, 0, 0, 4], [6, 0, 4, 0], [6, 4, 0, 0], [7, -1, -1, -1], [7, -1, -1, 1], [7, -1, 1, -1], [7, -1, 1, 1], [7, 1, -1, -1], [7, 1, -1, 1], [7, 1, 1, -1], [7, 1, 1, 1]]
  | 17 => [[7, 1, -3, -3], [7, 1, -3, 3], [7, 1, 3, -3], [7, 1, 3, 3], [7, 3, -3, -1], [7, 3, -3, 1], [7, 3, -1, -3], [7, 3, -1, 3], [7, 3, 1, -3], [7, 3, 1, 3], [7, 3, 3, -1], [7, 3, 3, 1], [8, -2, 0, 0], [8, 0, -2, 0], [8, 0, 0, -2], [8, 0, 0, 2], [8, 0, 2, 0], [8, 2, 0, 0]]
  | _ => []
def litOk (p : Int) : Bool := decide (lprV p = litP p) && decide ((litP p).Nodup)
theorem lit_2 : litOk 2 = true := by decide +kernel
theorem lit_3 : litOk 3 = true := by decide +kernel
theorem lit_5 : litOk 5 = true := by decide +kernel
theorem lit_7 : litOk 7 = true := by decide +kernel
theorem lit_11 : litOk 11 = true := by decide +kernel
theorem lit_13 : litOk 13 = true := by decide +kernel
theorem lit_17 : litOk 17 = true := by decide +kernel
theorem lit_at {p : Int} (h : p ∈ smP) : litOk p = true := by
  unfold smP at h
  simp only [List.mem_cons, List.not_mem_nil, or_false] at h
  rcases h with rfl | rfl | rfl | rfl | rfl | rfl | rfl
  · exact lit_2
  · exact lit_3
  · exact lit_5
  · exact lit_7
  · exact lit_11
  · exact lit_13
  · exact lit_17
def cok (p a b c d : Int) : Bool := !isNum [a, b, c, d] || !decide (lcanL [a, b, c, d] = [a, b, c, d]) || (litP p).any fun z => decide (z = [a, b, c, d])
def cmpl (p : Int) : Bool := (List.range 9).all fun (i : Nat) => (List.range 17).all fun (j : Nat) => decide (i < ((j : Int) - 8).natAbs) || decide (4 * p < (i : Int) * (i : Int) + ((j : Int) - 8) * ((j : Int) - 8)) || (List.range 17).all fun (k : Nat) =>
  decide (i < ((k : Int) - 8).natAbs) || decide (ldR (4 * p) (i : Int) ((j : Int) - 8) ((k : Int) - 8) < 0) || !decide (rootI (ldR (4 * p) (i : Int) ((j : Int) - 8) ((k : Int) - 8)) * rootI (ldR (4 * p) (i : Int) ((j : Int) - 8) ((k : Int) - 8)) = ldR (4 * p) (i : Int) ((j : Int) - 8) ((k : Int) - 8)) ||
    (cok p (i : Int) ((j : Int) - 8) ((k : Int) - 8) (rootI (ldR (4 * p) (i : Int) ((j : Int) - 8) ((k : Int) - 8))) && cok p (i : Int) ((j : Int) - 8) ((k : Int) - 8) (-rootI (ldR (4 * p) (i : Int) ((j : Int) - 8) ((k : Int) - 8))))
theorem cm_2 : cmpl 2 = true := by decide +kernel
theorem cm_3 : cmpl 3 = true := by decide +kernel
theorem cm_5 : cmpl 5 = true := by decide +kernel
theorem cm_7 : cmpl 7 = true := by decide +kernel
theorem cm_11 : cmpl 11 = true := by decide +kernel
theorem cm_13 : cmpl 13 = true := by decide +kernel
theorem cm_17 : cmpl 17 = true := by decide +kernel
theorem cmpl_at {p : Int} (h : p ∈ smP) : cmpl p = true := by
  unfold smP at h
  simp only [List.mem_cons, List.not_mem_nil, or_false] at h
  rcases h with rfl | rfl | rfl | rfl | rfl | rfl | rfl
  · exact cm_2
  · exact cm_3
  · exact cm_5
  · exact cm_7
  · exact cm_11
  · exact cm_13
  · exact cm_17
end TB

namespace TB
open PySem L2 PySem.Spec PyProof.Rows
theorem smP_lit {p : Int} (h : p ∈ smP) : lprimes p = litP p ∧ (lprimes p).Nodup := by
  have := lit_at h
  unfold litOk at this
  simp only [Bool.and_eq_true, decide_eq_true_eq] at this
  rw [lpr_V, this.1]
  exact ⟨rfl, this.2⟩
theorem sq_lt {a n : Int} (h : a * a ≤ n) (hn : n < 81) : -8 ≤ a ∧ a ≤ 8 := by
  constructor
  · refine Classical.byContradiction fun q => ?_
    have h2 : a ≤ -9 := by omega
    have := Int.mul_le_mul (show 9 ≤ -a by omega) (show 9 ≤ -a by omega) (by decide) (by omega)
    rw [Int.neg_mul_neg] at this
    omega
  · refine Classical.byContradiction fun q => ?_
    have h2 : 9 ≤ a := by omega
    have := Int.mul_le_mul h2 h2 (by decide) (by omega)
    omega
theorem root_sq {d n : Int} (h : d * d = n) (hn : n ≤ 4000) : d = rootI n ∨ d = -rootI n := by
  obtain ⟨a, b⟩ := isqrt_small (n := n.toNat) (by omega)
  have hnn : 0 ≤ d * d := by
    rcases Int.le_total 0 d with q | q
    · exact Int.mul_nonneg q q
    · exact Int.mul_nonneg_of_nonpos_of_nonpos q q
  have e : n.toNat = d.natAbs * d.natAbs := by
    have : ((d.natAbs * d.natAbs : Nat) : Int) = d * d := by rw [Int.natCast_mul]; exact Int.natAbs_mul_self' d
    omega
  unfold rootI
  rw [e] at a b ⊢
  generalize Float64.isqrt (d.natAbs * d.natAbs) = r at a b ⊢
  have h1 : r ≤ d.natAbs := by
    refine Classical.byContradiction fun q => ?_
    have := Nat.mul_le_mul (show d.natAbs + 1 ≤ r by omega) (show d.natAbs + 1 ≤ r by omega)
    have : d.natAbs * d.natAbs < (d.natAbs + 1) * (d.natAbs + 1) := Nat.mul_lt_mul_of_lt_of_le (by omega) (by omega) (by omega)
    omega
  have h2 : d.natAbs ≤ r := by
    refine Classical.byContradiction fun q => ?_
    have := Nat.mul_le_mul (show r + 1 ≤ d.natAbs by omega) (show r + 1 ≤ d.natAbs by omega)
    omega
  omega
theorem cok_in {p a b c d : Int} (h : cok p a b c d = true) (hn : isNum [a, b, c, d] = true) (hc : canonL [a, b, c, d] = [a, b, c, d]) : [a, b, c, d] ∈ litP p := by
  unfold cok at h
  rw [hn, lcan_canon, hc, decide_eq_true rfl] at h
  simp only [Bool.not_true, Bool.false_or] at h
  obtain ⟨z, hz, e⟩ := List.any_eq_true.mp h
  rw [← of_decide_eq_true e]
  exact hz
theorem sm_pr {p : Int} (h : p ∈ smP) : 2 ≤ p ∧ p ≤ 17 := by
  unfold smP at h
  simp only [List.mem_cons, List.not_mem_nil, or_false] at h
  omega
theorem canon_parts {a b c d : Int} (hc : canonL [a, b, c, d] = [a, b, c, d]) : 0 ≤ a ∧ b.natAbs ≤ a.natAbs ∧ c.natAbs ≤ a.natAbs := by
  have key : ∀ e f g h : Int, [e, f, g, h] ∈ unitsL → (a * e - b * f - c * g - d * h) / 2 ≤ a := fun e f g h hu => by
    have := canon_ge [a, b, c, d] (mulL [a, b, c, d] [e, f, g, h]) (List.mem_map_of_mem hu)
    rw [hc] at this
    have t : (a * e - b * f - c * g - d * h) / 2 :: _ ≤ a :: _ := this
    rw [List.cons_le_cons_iff] at t
    omega
  have k1 := key (-2) 0 0 0 (by decide)
  have k2 := key 0 2 0 0 (by decide)
  have k3 := key 0 (-2) 0 0 (by decide)
  have k4 := key 0 0 2 0 (by decide)
  have k5 := key 0 0 (-2) 0 (by decide)
  omega
/-- every canonical number of the norm p is there -/
theorem compl {p : Int} (hp : p ∈ smP) {f : List Int} (hf : isNum f = true) (hn : normL f = p) (hc : canonL f = f) : f ∈ lprimes p := by
  obtain ⟨p1, p2⟩ := sm_pr hp
  rw [(smP_lit hp).1]
  have h4 := norm_sum hf
  obtain ⟨a, b, c, d, rfl⟩ := four (num_len hf)
  rw [hn] at h4
  simp only [List.map_cons, List.map_nil, List.sum_cons, List.sum_nil] at h4
  have hsq : ∀ z : Int, 0 ≤ z * z := fun z => by
    rcases Int.le_total 0 z with q | q
    · exact Int.mul_nonneg q q
    · exact Int.mul_nonneg_of_nonpos_of_nonpos q q
  have qa := hsq a
  have qb := hsq b
  have qc := hsq c
  have qd := hsq d
  obtain ⟨a1, a2⟩ := sq_lt (a := a) (n := 4 * p) (by omega) (by omega)
  obtain ⟨b1, b2⟩ := sq_lt (a := b) (n := 4 * p) (by omega) (by omega)
  obtain ⟨c1, c2⟩ := sq_lt (a := c) (n := 4 * p) (by omega) (by omega)
  obtain ⟨m0, m1, m2⟩ := canon_parts hc
  have h := cmpl_at hp
  unfold cmpl at h
  have h1 := List.all_eq_true.mp h a.toNat (List.mem_range.mpr (by omega))
  have h2 := List.all_eq_true.mp h1 (b + 8).toNat (List.mem_range.mpr (by omega))
  have ea : ((a.toNat : Nat) : Int) = a := by omega
  have eb : (((b + 8).toNat : Nat) : Int) - 8 = b := by omega
  have ec : (((c + 8).toNat : Nat) : Int) - 8 = c := by omega
  rw [ea, eb, decide_eq_false (show ¬ a.toNat < b.natAbs by omega), decide_eq_false (show ¬ 4 * p < a * a + b * b by omega), Bool.false_or, Bool.false_or] at h2
  have h3 := List.all_eq_true.mp h2 (c + 8).toNat (List.mem_range.mpr (by omega))
  rw [ec, decide_eq_false (show ¬ a.toNat < c.natAbs by omega), Bool.false_or] at h3
  have hR : ldR (4 * p) a b c = d * d := by unfold ldR; omega
  rw [hR, decide_eq_false (by omega)] at h3
  rcases root_sq (d := d) rfl (n := d * d) (by omega) with e | e
  · have e2 : rootI (d * d) * rootI (d * d) = d * d := by rw [← e]
    rw [decide_eq_true e2] at h3
    simp only [Bool.false_or, Bool.not_true, Bool.and_eq_true] at h3
    rw [← e] at h3
    exact cok_in h3.1 hf hc
  · have e3 : rootI (d * d) = -d := by omega
    have e2 : rootI (d * d) * rootI (d * d) = d * d := by rw [e3]; exact Int.neg_mul_neg d d
    rw [decide_eq_true e2] at h3
    simp only [Bool.false_or, Bool.not_true, Bool.and_eq_true] at h3
    rw [e3, Int.neg_neg] at h3
    exact cok_in h3.2 hf hc
/-! ### k26 -/
theorem lp_canon {p : Int} (hp : p ∈ elevP) {f : List Int} (hf : f ∈ lprimes p) : isNum f = true ∧ normL f = p ∧ canonL f = f := by
  obtain ⟨h1, h2, h3⟩ := elev_lp hp f hf
  exact ⟨h1.num, h2, by rw [← lcan_canon]; exact h3⟩
end TB

namespace TB
open PySem L2 PySem.Spec PyProof.Rows
/-! ### while: a state that runs; xs.append(ys.pop(k)) -/
section
variable {X : Cx} {W : WX} {F0 H0 : Hp} {Γ : List S} {e b : Expr} {pos : Pos} {body : List Stmt} {β : Type}
end
section
variable {X : Cx} {W : WX} {F0 H0 : Hp} {Γ : List S} {b : Expr} {n l : Str} {np lp apos bpos cpos cpos2 pos : Pos} {ds es : List D} {x : D}
end
end TB

namespace TB
open PySem L2 PySem.Spec PyProof.Rows
/-! ### sorted(ints) -/
section
variable {X : Cx} {W : WX} {F0 H0 : Hp} {Γ : List S} {e : Expr} {pos np : Pos} {ns : List Int}
end
/-! ### the primes of an integer -/
def prI (L : List Int) : Int := L.foldr (· * ·) 1
end TB

namespace TB
open PySem L2 PySem.Spec PyProof.Rows
end TB

namespace TB
open PySem L2 PySem.Spec PyProof.Rows
/-! ### rows -/
/-- a primitive number with these primes in its norm -/
structure RestOk (x : List Int) (ps : List Int) : Prop where
  num : isNum x = true
  nz : zeroB x = false
  pr : contL x = 1
  nrm : normL x = prI ps
  sm : ∀ p ∈ ps, p ∈ smP
  len : ps.length ≤ 6
theorem prI_bd : ∀ {ps : List Int}, (∀ p ∈ ps, p ∈ smP) → 1 ≤ prI ps ∧ prI ps ≤ 17 ^ ps.length
  | [], _ => ⟨Int.le_refl _, Int.le_refl _⟩
  | p :: ps, h => by
    obtain ⟨h1, h2⟩ := prI_bd fun q hq => h q (List.mem_cons_of_mem _ hq)
    obtain ⟨p1, p2⟩ := sm_pr (h p List.mem_cons_self)
    show 1 ≤ p * prI ps ∧ p * prI ps ≤ 17 ^ (ps.length + 1)
    have m1 : 1 * 1 ≤ p * prI ps := Int.mul_le_mul (by omega) h1 (by decide) (by omega)
    have m2 : p * prI ps ≤ 17 * 17 ^ ps.length := Int.mul_le_mul p2 h2 (by omega) (by decide)
    rw [Int.pow_succ, Int.mul_comm _ 17]
    exact ⟨by omega, m2⟩
theorem prI_hi {ps : List Int} (h : ∀ p ∈ ps, p ∈ smP) (hl : ps.length ≤ 6) : prI ps ≤ 24137569 := by
  have h1 := (prI_bd h).2
  have h2 : ∀ n ∈ List.range 7, (17 : Int) ^ n ≤ 24137569 := by decide
  have := h2 ps.length (List.mem_range.mpr (by omega))
  omega
theorem RestOk.g {x ps : List Int} (h : RestOk x ps) : G 14 x := norm_G (n := 13) h.num (by rw [h.nrm]; have := prI_hi h.sm h.len; omega)
theorem prod_cons {f : List Int} {fs : List (List Int)} (hf : isNum f = true) (hfs : ∀ g ∈ fs, isNum g = true) : prodL (f :: fs) = mulL f (prodL fs) := by
  have key : ∀ (fs : List (List Int)) (a : List Int), isNum a = true → (∀ g ∈ fs, isNum g = true) → isNum (prodL fs) = true ∧ fs.foldl mulL a = mulL a (prodL fs) := by
    intro fs
    induction fs with
    | nil => intro a ha _; exact ⟨by decide, (mul_oneR ha).symm⟩
    | cons g fs ih =>
      intro a ha h
      have hg := h g List.mem_cons_self
      have h' := fun q hq => h q (List.mem_cons_of_mem _ hq)
      obtain ⟨n1, e1⟩ := ih (mulL a g) (num_mul ha hg) h'
      obtain ⟨_, e2⟩ := ih (mulL [2, 0, 0, 0] g) (num_mul (by decide) hg) h'
      have e3 : prodL (g :: fs) = mulL g (prodL fs) := by
        show (g :: fs).foldl mulL [2, 0, 0, 0] = _
        rw [List.foldl_cons, e2, mul_one' hg]
      refine ⟨by rw [e3]; exact num_mul hg n1, ?_⟩
      rw [List.foldl_cons, e1, e3, mul_asc ha hg n1]
  obtain ⟨_, e⟩ := key fs (mulL [2, 0, 0, 0] f) (num_mul (by decide) hf) hfs
  show (f :: fs).foldl mulL [2, 0, 0, 0] = _
  rw [List.foldl_cons, e, mul_one' hf]
theorem prod_num {fs : List (List Int)} (h : ∀ g ∈ fs, isNum g = true) : isNum (prodL fs) = true := by
  induction fs with
  | nil => decide
  | cons g fs ih =>
    rw [prod_cons (h g List.mem_cons_self) fun q hq => h q (List.mem_cons_of_mem _ hq)]
    exact num_mul (h g List.mem_cons_self) (ih fun q hq => h q (List.mem_cons_of_mem _ hq))
end TB

namespace TB
open PySem L2 PySem.Spec PyProof.Rows
section
variable {X : Cx} {W : WX} {F0 H0 : Hp} {Γ : List S} {tg it : Expr} {pos : Pos} {body rest : List Stmt} {so : SO} {α : Type}
end
/-! ### the law's side of rows -/
def lp6 : List Int := [2, 3, 5, 7, 11, 13]
theorem lp6_elev : ∀ p ∈ lp6, p ∈ elevP := by decide
def lprimB (x : List Int) : Bool := lp6.all fun p => (ldivF (wp p) x).isNone
/-! a product of numbers of the norms 2, 3, 5, 7 -/
def PN (fs : List (List Int)) : Prop := ∀ x ∈ fs, PF x
end TB

namespace TB
open PySem L2 PySem.Spec PyProof.Rows
theorem map_same {α : Type} {f : α → α} : ∀ {xs : List α}, (∀ x ∈ xs, f x = x) → xs.map f = xs
  | [], _ => rfl
  | x :: xs, h => by rw [List.map_cons, h x List.mem_cons_self, map_same fun y hy => h y (List.mem_cons_of_mem _ hy)]
end TB

namespace TB
open PySem L2 PySem.Spec PyProof.Rows
/-! ### k84 -/
theorem six_sm : ∀ p ∈ sixP, p ∈ smP := by decide
/-- coprime to all small primes -/
theorem cop_pr {q m : Nat} (hq : q ∈ [2, 3, 5, 7, 11, 13, 17]) (h : ¬ q ∣ m) : Nat.Coprime m q := by
  have h1 : ∀ q ∈ [2, 3, 5, 7, 11, 13, 17], ∀ g ∈ List.range 18, q % g = 0 → g = 1 ∨ g = q := by decide
  have hd := Nat.gcd_dvd_right m q
  have hq0 : 0 < q ∧ q < 18 := by
    have : ∀ q ∈ [2, 3, 5, 7, 11, 13, 17], 0 < q ∧ q < 18 := by decide
    exact this q hq
  have hle := Nat.le_of_dvd hq0.1 hd
  rcases h1 q hq (Nat.gcd m q) (List.mem_range.mpr (by omega)) (Nat.mod_eq_zero_of_dvd hd) with e | e
  · exact e
  · exact absurd (by have := Nat.gcd_dvd_left m q; rwa [e] at this) h
theorem big_dvd : ∀ {ps : List Int}, (∀ p ∈ ps, p ∈ smP) → prI ps ∣ 510510 ^ ps.length
  | [], _ => Int.dvd_refl _
  | p :: ps, h => by
    have ih := big_dvd fun q hq => h q (List.mem_cons_of_mem _ hq)
    have hp : p ∣ 510510 := by
      have : ∀ p ∈ smP, p ∣ 510510 := by decide
      exact this p (h p List.mem_cons_self)
    show p * prI ps ∣ 510510 ^ (ps.length + 1)
    rw [Int.pow_succ, Int.mul_comm _ 510510]
    exact Int.mul_dvd_mul hp ih
theorem prim_gen {x ps : List Int} (hx : isNum x = true) (hz : zeroB x = false) (hn : normL x = prI ps) (hp : ∀ p ∈ ps, p ∈ smP) (hno : ∀ q ∈ smP, ¬ q ∣ contL x) : contL x = 1 := by
  have cp := cont_pos hx hz
  obtain ⟨y, hy, ey⟩ := cont_div hx hz
  have en := congrArg normL ey
  rw [norm_timesL _ hy, hn] at en
  have hd : contL x ∣ 510510 ^ ps.length := Int.dvd_trans ⟨contL x * normL y, by rw [en, Int.mul_assoc]⟩ (big_dvd hp)
  have e1 : (((contL x).toNat : Nat) : Int) = contL x := by omega
  have hdn : (contL x).toNat ∣ 510510 ^ ps.length := by
    have : (((contL x).toNat : Nat) : Int) ∣ ((510510 ^ ps.length : Nat) : Int) := by rw [e1, Int.natCast_pow]; exact hd
    exact Int.natCast_dvd_natCast.mp this
  have nd : ∀ k : Nat, (k : Int) ∈ smP → ¬ k ∣ (contL x).toNat := fun k hk q => hno _ hk (by rw [← e1]; exact Int.natCast_dvd_natCast.mpr q)
  have c := fun (k : Nat) (h1 : k ∈ [2, 3, 5, 7, 11, 13, 17]) (h2 : (k : Int) ∈ smP) => cop_pr h1 (nd k h2)
  have cc : Nat.Coprime (contL x).toNat (2 * 3 * 5 * 7 * 11 * 13 * 17) :=
    (((((( (c 2 (by decide) (by decide)).mul_right (c 3 (by decide) (by decide))).mul_right (c 5 (by decide) (by decide))).mul_right (c 7 (by decide) (by decide))).mul_right (c 11 (by decide) (by decide))).mul_right (c 13 (by decide) (by decide))).mul_right (c 17 (by decide) (by decide)))
  have := Nat.Coprime.eq_one_of_dvd (Nat.Coprime.pow_right ps.length cc) hdn
  omega
end TB

namespace TB
open PySem L2 PySem.Spec PyProof.Rows
structure K84 (p : Int) (f s : List Int) (fs : List (List Int)) : Prop where
  six : p ∈ sixP
  inf : f ∈ lprimes p
  ins : s ∈ lprimes p
  pn : PN fs
  len : fs.length ≤ 2
theorem K84.four {p : Int} {f s : List Int} {fs : List (List Int)} (h : K84 p f s fs) : ∀ q ∈ fs.map normL, q = 2 ∨ q = 3 ∨ q = 5 ∨ q = 7 := fun q hq => by
  obtain ⟨g, hg, e⟩ := List.mem_map.mp hq
  rw [← e]
  exact (h.pn g hg).nrm
theorem K84.sm {p : Int} {f s : List Int} {fs : List (List Int)} (h : K84 p f s fs) {O : List Int} (hO : O.Perm (fs.map normL)) : ∀ q ∈ p :: p :: O, q ∈ smP := fun q hq => by
  have hp := six_sm p h.six
  rcases List.mem_cons.mp hq with rfl | hq
  · exact hp
  · rcases List.mem_cons.mp hq with rfl | hq
    · exact hp
    · rcases h.four q (hO.mem_iff.mp hq) with e | e | e | e <;> (subst e; decide)
/-- no prime divides the product, if the law finds none -/
theorem K84.prim {p : Int} {x ps : List Int} (hp : p ∈ sixP) (hx : isNum x = true) (hz : zeroB x = false) (hn : normL x = prI ps) (hs : ∀ q ∈ ps, q = p ∨ q = 2 ∨ q = 3 ∨ q = 5 ∨ q = 7) (hc : contL x % p ≠ 0) (hl : lprimB x = true) : contL x = 1 := by
  have cp := cont_pos hx hz
  have dv : ∀ q ∈ lp6, ¬ q ∣ contL x := fun q hq d => by
    have he := lp6_elev q hq
    obtain ⟨w1, w2, w3, _⟩ := wp_elev he
    obtain ⟨p1, _⟩ := elev_pr he
    have hv : 0 < normL (wp q) := by rw [w3]; exact Int.mul_pos (by omega) (by omega)
    have hnone := List.all_eq_true.mp hl q hq
    obtain ⟨y, hy, e⟩ := (div_iff hx hz (show 0 < q by omega)).2.mpr d
    have := (ldivF_iff w1 hx hv).mpr ⟨y, hy, by rw [e]; exact (mul_int q hy).1.symm⟩
    cases q2 : ldivF (wp q) x with
    | none => rw [q2] at this; cases this
    | some z => rw [q2] at hnone; cases hnone
  have hsm : ∀ q ∈ ps, q ∈ smP := fun q hq => by
    rcases hs q hq with e | e | e | e | e
    · subst e; exact six_sm _ hp
    all_goals (subst e; decide)
  have h17 : (17 : Int) ∣ contL x → False := fun d => by
    by_cases e : p = 17
    · subst e
      exact hc (Int.emod_eq_zero_of_dvd d)
    · -- 17 * 17 divides the norm, which has no 17
      obtain ⟨y, hy, ey⟩ := cont_div hx hz
      have en := congrArg normL ey
      rw [norm_timesL _ hy, hn] at en
      have d2 : (17 : Int) ∣ prI ps := Int.dvd_trans d ⟨contL x * normL y, by rw [en, Int.mul_assoc]⟩
      have key : ∀ {qs : List Int}, (∀ q ∈ qs, q = p ∨ q = 2 ∨ q = 3 ∨ q = 5 ∨ q = 7) → (17 : Int) ∣ prI qs → False := by
        intro qs
        induction qs with
        | nil => intro _ hd; exact absurd hd (by decide)
        | cons q qs ih =>
          intro h hd
          have hq := h q List.mem_cons_self
          have hq6 : q % 17 ≠ 0 ∧ 0 < q ∧ q < 17 := by
            have : ∀ p ∈ sixP, p ≠ 17 → 0 < p ∧ p < 17 := by decide
            have h6 := this p hp e
            rcases hq with e | e | e | e | e <;> omega
          have hd' : (17 : Int) ∣ q * prI qs := hd
          have cq : Nat.Coprime 17 q.natAbs := by
            have : ∀ k ∈ List.range 17, k ≠ 0 → Nat.gcd 17 k = 1 := by decide
            exact this q.natAbs (List.mem_range.mpr (by omega)) (by omega)
          have hn : 17 ∣ q.natAbs * (prI qs).natAbs := by
            rw [← Int.natAbs_mul]
            exact Int.natAbs_dvd_natAbs.mpr hd'
          have h3 := Nat.Coprime.dvd_of_dvd_mul_left cq hn
          exact ih (fun r hr => h r (List.mem_cons_of_mem _ hr)) (Int.natAbs_dvd_natAbs.mp h3)
      exact key hs d2
  refine prim_gen hx hz hn hsm fun q hq d => ?_
  have : q ∈ lp6 ∨ q = 17 := by
    have : ∀ q ∈ smP, q ∈ lp6 ∨ q = 17 := by decide
    exact this q hq
  rcases this with h | h
  · exact dv q h d
  · subst h; exact h17 d
end TB
namespace TB
open PySem L2 PySem.Spec PyProof.Rows
end TB

namespace TB
open PySem L2 PySem.Spec PyProof.Rows
end TB

namespace TB
open PySem L2 PySem.Spec PyProof.Rows
/-! ### factorial; xs.count(k) -/
section
variable {X : Cx} {W : WX} {F0 H0 : Hp} {Γ : List S} {e b : Expr} {a : Int} {pos np apos cpos : Pos} {ns : List Int} {k : Int}
end
/-! ### k25 -/
end TB

namespace TB
open PySem L2 PySem.Spec PyProof.Rows
/-! ### rows by orders that begin alike; a unit behind -/
end TB
namespace TB
end TB

namespace TB
open PySem L2 PySem.Spec PyProof.Rows
/-! ### xs.count(d), xs.index(d) of data -/
section
variable {X : Cx} {W : WX} {F0 H0 : Hp} {Γ : List S} {e b : Expr} {apos cpos : Pos} {ds : List D} {d z : D} {j : Nat}
end
/-! ### k85: what each deed comes to -/
end TB

namespace TB
open PySem L2 PySem.Spec PyProof.Rows
/-! what is due, step by step -/
def e1 (o : Bool) : List Nat := if o then List.replicate 10 0 else List.replicate 9 2 ++ [0]
def e2 (o t : Bool) : List Nat := if t then e1 o else (e1 o).take 3 ++ [2, 2, 2] ++ (e1 o).drop 6
def e3 (o t l : Bool) : List Nat := if l then e2 o t else (e2 o t).set 8 2
def e4 (o t l f : Bool) : List Nat := if f then e3 o t l else (e3 o t l).set 9 2
def e5 (o t l f z : Bool) : List Nat := if z then e4 o t l f else ((e4 o t l f).set 7 2).set 9 2
def e6 (o t l f z n : Bool) : List Nat := if n then e5 o t l f z else (((e5 o t l f z).set 2 1).set 7 1).set 9 1
end TB

namespace TB
open PySem L2 PySem.Spec PyProof.Rows
/-! ### what k85 draws -/
end TB

namespace TB
open PySem L2 PySem.Spec PyProof.Rows
/-! ### rows of canonical primes: what cancels (k28) -/
structure CF (x : List Int) : Prop where
  pf : PF x
  cn : canonL x = x
theorem CF.pn {fs : List (List Int)} (h : ∀ x ∈ fs, CF x) : PN fs := fun x hx => (h x hx).pf
end TB

namespace TB
open PySem L2 PySem.Spec PyProof.Rows
/-! ### dicts of one's own whose keys are tuples of ints, every value True -/
section
variable {X : Cx}
end
end TB

namespace TB
open PySem L2 PySem.Spec PyProof.Rows
/-! ### dicts with tuples of ints as keys, as a slot -/
section
variable {K : PySem.W.Frag} {F0 H0 F H : Hp} {σ : L2.St} {Γ : List S} {P : Program} {w : World}
end
section
variable {X : Cx} {W : WX} {F0 H0 : Hp} {Γ : List S} {b e : Expr} {pos : Pos} {ks : List (List Int)} {key : List Int}
end
end TB

namespace TB
open PySem L2 PySem.Spec PyProof.Rows
/-! ### the letters of a prime as the laws draw them up -/
/-! what is known -/
/-! what is drawn up, cut down to what there is -/
end TB

namespace TB
open PySem L2 PySem.Spec PyProof.Rows
end TB

namespace TB
open PySem L2 PySem.Spec PyProof.Rows
section
variable {X : Cx} {W : WX} {F0 H0 : Hp} {Γ : List S} {a b c : Expr} {pos : Pos} {i j k : Int}
end
section
variable {X : Cx} {W : WX} {F0 H0 : Hp} {Γ : List S} {e : Expr} {ds : List D}
end
/-! ### letters, partners -/
theorem six_elev : ∀ p ∈ sixP, p ∈ elevP := by decide
def parF (p z : Int) : Int := (((lprimes p).idxOf (canonL (conjL ((lprimes p).getD (z - 1).toNat []))) : Nat) : Int) + 1
theorem six_len {p : Int} (h : p ∈ sixP) : ((lprimes p).length : Int) = p + 1 := by
  have := (elev_ok (six_elev p h)).2.2.1
  have := (six_small h).2.1
  rw [if_neg (by omega)] at *
  omega
/-- the partner's letter is there -/
theorem par_in {p z : Int} (h : p ∈ sixP) (h1 : 1 ≤ z) (h2 : z ≤ p + 1) : G 7 ((lprimes p).getD (z - 1).toNat []) ∧ zeroB ((lprimes p).getD (z - 1).toNat []) = false ∧ canonL (conjL ((lprimes p).getD (z - 1).toNat [])) ∈ lprimes p := by
  have hl := six_len h
  have hm := getD_memL (xs := lprimes p) (k := (z - 1).toNat) (by omega)
  have he := six_elev p h
  have g := (elev_lp he _ hm).1
  obtain ⟨f1, f2, f3⟩ := lp_canon he hm
  have p3 := (six_small h).2.1
  have nc := num_conj f1
  refine ⟨g, norm_ne_zero f1 (by omega), compl (six_sm p h) ?_ (by rw [canon_norm nc, norm_conj f1, f2]) (canon_canon nc)⟩
  obtain ⟨v1, v2⟩ := lead_ok (conjL ((lprimes p).getD (z - 1).toNat []))
  rw [← v2]
  exact num_mul nc (u_num v1)
end TB

namespace TB
open PySem L2 PySem.Spec PyProof.Rows
/-! ### letters of one prime: what a number of a power of p as norm is -/
theorem six_pr {p : Int} (h : p ∈ sixP) : 3 ≤ p ∧ p ≤ 17 := ⟨(six_small h).2.1, (six_small h).2.2⟩
theorem div_odd : ∀ q ∈ ([3, 5, 7, 11, 13, 17] : List Nat), ∀ g ∈ List.range 18, g ≠ 0 → q % g = 0 → g = 1 ∨ g = q := by decide
theorem six_gcd (k : Nat) {p : Int} (h : p ∈ sixP) : Nat.gcd p.toNat k = 1 ∨ Nat.gcd p.toNat k = p.toNat := by
  have hq : p.toNat ∈ ([3, 5, 7, 11, 13, 17] : List Nat) := by
    have : ∀ p ∈ sixP, p.toNat ∈ ([3, 5, 7, 11, 13, 17] : List Nat) := by decide
    exact this p h
  have d : Nat.gcd p.toNat k ∣ p.toNat := Nat.gcd_dvd_left _ _
  have p17 := (six_pr h).2
  have p3 := (six_pr h).1
  have l := Nat.le_of_dvd (by omega) d
  exact div_odd _ hq _ (List.mem_range.mpr (by omega)) (fun e => by
    have := Nat.eq_zero_of_gcd_eq_zero_left e
    omega) (Nat.mod_eq_zero_of_dvd d)
/-- c divides a power of p, and p does not divide c: then c is 1 -/
theorem cop_pone {p c : Int} (h : p ∈ sixP) (h0 : 0 < c) (hn : ¬ p ∣ c) (n : Nat) (d : c ∣ p ^ n) : c = 1 := by
  have p3 := (six_pr h).1
  obtain ⟨m, rfl⟩ : ∃ m : Nat, c = (m : Int) := ⟨c.toNat, by omega⟩
  obtain ⟨q, rfl⟩ : ∃ q : Nat, p = (q : Int) := ⟨p.toNat, by omega⟩
  have g := six_gcd m h
  rw [Int.toNat_natCast] at g
  have d2 : m ∣ q ^ n := by
    rw [← Int.natCast_pow] at d
    exact Int.ofNat_dvd.mp d
  have c1 : Nat.gcd m q = 1 := by
    rcases g with g | g
    · rw [Nat.gcd_comm]; exact g
    · exact absurd (Int.ofNat_dvd.mpr (Nat.gcd_eq_left_iff_dvd.mp g)) hn
  have := Nat.Coprime.eq_one_of_dvd (Nat.Coprime.pow_right n c1) d2
  rw [this]
  rfl
/-- numbers of the norm p -/
def NP (p : Int) (fs : List (List Int)) : Prop := ∀ f ∈ fs, isNum f = true ∧ normL f = p
theorem NP.tl {p : Int} {f : List Int} {fs : List (List Int)} (h : NP p (f :: fs)) : NP p fs := fun g hg => h g (List.mem_cons_of_mem _ hg)
theorem np_nrm {p : Int} : ∀ {fs : List (List Int)}, NP p fs → isNum (prodL fs) = true ∧ normL (prodL fs) = p ^ fs.length
  | [], _ => ⟨by decide, by rw [List.length_nil, Int.pow_zero]; decide⟩
  | f :: fs, h => by
    obtain ⟨n1, n2⟩ := np_nrm h.tl
    obtain ⟨f1, f2⟩ := h f List.mem_cons_self
    rw [prod_cons f1 fun g hg => (h.tl g hg).1]
    refine ⟨num_mul f1 n1, ?_⟩
    rw [norm_mul f1 n1, n2, f2, List.length_cons, Int.pow_succ, Int.mul_comm]
theorem pow_pos {p : Int} (h : 0 < p) : ∀ n : Nat, 0 < p ^ n
  | 0 => by rw [Int.pow_zero]; decide
  | n + 1 => by rw [Int.pow_succ]; exact Int.mul_pos (pow_pos h n) h
theorem np_nz {p : Int} (hp : 0 < p) {x : List Int} {n : Nat} (hx : isNum x = true) (h : normL x = p ^ n) : zeroB x = false := norm_ne_zero hx (by rw [h]; have := pow_pos hp n; omega)
/-- none beside another is divided -/
def chainP (p : Int) : List (List Int) → Prop
  | [] => True
  | [_] => True
  | a :: b :: t => ¬ Div p (mulL a b) ∧ chainP p (b :: t)
theorem chainP.tl {p : Int} {a : List Int} : ∀ {t : List (List Int)}, chainP p (a :: t) → chainP p t
  | [], _ => trivial
  | b :: t, h => h.2
/-! #### letters by their numbers -/
def letF (p z : Int) : List Int := (lprimes p).getD (z - 1).toNat []
def idxF (p : Int) (f : List Int) : Int := ((lprimes p).idxOf f : Nat) + 1
def idxs (p : Int) (fs : List (List Int)) : List Int := fs.map (idxF p)
def lets (p : Int) (zs : List Int) : List (List Int) := zs.map (letF p)
/-- numbers of letters -/
def WZ (p : Int) (zs : List Int) : Prop := ∀ z ∈ zs, 1 ≤ z ∧ z ≤ p + 1
/-- letters -/
def WL (p : Int) (fs : List (List Int)) : Prop := ∀ f ∈ fs, f ∈ lprimes p
theorem let_in {p z : Int} (h : p ∈ sixP) (h1 : 1 ≤ z) (h2 : z ≤ p + 1) : letF p z ∈ lprimes p := by
  have hl := six_len h
  exact getD_memL (by omega)
theorem let_ok {p : Int} {f : List Int} (h : p ∈ sixP) (hf : f ∈ lprimes p) : isNum f = true ∧ normL f = p ∧ canonL f = f := lp_canon (six_elev p h) hf
theorem idx_let {p z : Int} (h : p ∈ sixP) (h1 : 1 ≤ z) (h2 : z ≤ p + 1) : idxF p (letF p z) = z := by
  have hl := six_len h
  have nd := (smP_lit (six_sm p h)).2
  have hk : (z - 1).toNat < (lprimes p).length := by omega
  unfold idxF letF
  rw [List.getD_eq_getElem?_getD, List.getElem?_eq_getElem hk, Option.getD_some, List.Nodup.idxOf_getElem nd _ hk]
  omega
theorem let_idx {p : Int} {f : List Int} (hf : f ∈ lprimes p) : letF p (idxF p f) = f := by
  have hl := List.idxOf_lt_length_of_mem hf
  unfold idxF letF
  rw [show (((lprimes p).idxOf f : Nat) + 1 - 1 : Int).toNat = (lprimes p).idxOf f by omega, List.getD_eq_getElem?_getD, List.getElem?_eq_getElem hl, Option.getD_some, List.getElem_idxOf hl]
theorem idx_bt {p : Int} {f : List Int} (h : p ∈ sixP) (hf : f ∈ lprimes p) : 1 ≤ idxF p f ∧ idxF p f ≤ p + 1 := by
  have hl := six_len h
  have := List.idxOf_lt_length_of_mem hf
  unfold idxF
  omega
theorem idxs_WZ {p : Int} {fs : List (List Int)} (h : p ∈ sixP) (hf : WL p fs) : WZ p (idxs p fs) := fun z hz => by
  obtain ⟨f, hf', rfl⟩ := List.mem_map.mp hz
  exact idx_bt h (hf f hf')
theorem idxs_lets {p : Int} {zs : List Int} (h : p ∈ sixP) (hz : WZ p zs) : idxs p (lets p zs) = zs := by
  unfold idxs lets
  rw [List.map_map]
  exact map_same fun z hz' => idx_let h (hz z hz').1 (hz z hz').2
theorem lets_idxs {p : Int} {fs : List (List Int)} (hf : WL p fs) : lets p (idxs p fs) = fs := by
  unfold idxs lets
  rw [List.map_map]
  exact map_same fun f hf' => let_idx (hf f hf')
theorem WL.np {p : Int} {fs : List (List Int)} (h : p ∈ sixP) (hf : WL p fs) : NP p fs := fun f hf' => ⟨(let_ok h (hf f hf')).1, (let_ok h (hf f hf')).2.1⟩
/-- partners stand for what is divided -/
theorem par_iff {p z w : Int} (h : p ∈ sixP) (h1 : 1 ≤ z) (h2 : z ≤ p + 1) (h3 : 1 ≤ w) (h4 : w ≤ p + 1) : parF p z = w ↔ Div p (mulL (letF p z) (letF p w)) := by
  have p3 := six_pr h
  obtain ⟨f1, f2, f3⟩ := let_ok h (let_in h h1 h2)
  obtain ⟨g1, g2, g3⟩ := let_ok h (let_in h h3 h4)
  have hpi := (par_in h h1 h2).2.2
  have ep : parF p z = idxF p (canonL (conjL (letF p z))) := rfl
  have c1 := num_conj f1
  rw [ep]
  constructor
  · intro e
    have e2 : letF p w = canonL (conjL (letF p z)) := by rw [← e]; exact let_idx hpi
    obtain ⟨v1, v2⟩ := lead_ok (conjL (letF p z))
    refine ⟨leadU (conjL (letF p z)), u_num v1, ?_⟩
    rw [e2, ← v2, ← mul_asc f1 c1 (u_num v1), (mul_conj f1).1, f2, (mul_int p (u_num v1)).1]
  · rintro ⟨y, hy, e⟩
    have k := congrArg (mulL (conjL (letF p z))) e
    rw [← mul_asc c1 f1 g1, (mul_conj f1).2, f2, (mul_int p g1).1, ← (mul_int p hy).2, ← mul_asc c1 hy (num_int _), (mul_int p (num_mul c1 hy)).2] at k
    have k2 : letF p w = mulL (conjL (letF p z)) y := times_inj (by omega) k
    have n := congrArg normL k2
    rw [norm_mul c1 hy, norm_conj f1, f2, g2] at n
    have ny : normL y = 1 := (Int.eq_of_mul_eq_mul_left (a := p) (by omega) (by rw [Int.mul_one]; exact n)).symm
    have yu : y ∈ unitsL := by
      have := unit_iff hy
      rw [decide_eq_true ny] at this
      exact of_decide_eq_true this.symm
    have ec : canonL (conjL (letF p z)) = letF p w := by rw [← g3, k2, canon_asso c1 yu]
    rw [ec]
    exact idx_let h h3 h4
/-- no letter is followed by its partner -/
def apartB (p : Int) : List Int → Bool
  | [] => true
  | [_] => true
  | a :: b :: t => !decide (parF p a = b) && apartB p (b :: t)
theorem apart_chain {p : Int} (h : p ∈ sixP) : ∀ {zs : List Int}, WZ p zs → (apartB p zs = true ↔ chainP p (lets p zs))
  | [], _ => ⟨fun _ => trivial, fun _ => rfl⟩
  | [_], _ => ⟨fun _ => trivial, fun _ => rfl⟩
  | a :: b :: t, hz => by
    obtain ⟨a1, a2⟩ := hz a List.mem_cons_self
    obtain ⟨b1, b2⟩ := hz b (List.mem_cons_of_mem _ List.mem_cons_self)
    have ih := apart_chain h (zs := b :: t) fun z hz' => hz z (List.mem_cons_of_mem _ hz')
    show ((!decide (parF p a = b) && apartB p (b :: t)) = true ↔ (¬ Div p (mulL (letF p a) (letF p b)) ∧ chainP p (lets p (b :: t))))
    rw [Bool.and_eq_true, ih, ← par_iff h a1 a2 b1 b2, Bool.not_eq_true', decide_eq_false_iff_not]
/-- what is not divided as a whole is not divided in parts -/
theorem div_left {p : Int} {g y : List Int} (hg : isNum g = true) (h : Div p y) : Div p (mulL g y) := by
  obtain ⟨z, hz, e⟩ := h
  refine ⟨mulL g z, num_mul hg hz, ?_⟩
  rw [e, ← (mul_int p hz).2, ← mul_asc hg hz (num_int _), (mul_int p (num_mul hg hz)).2]
theorem nd_chain {p : Int} : ∀ {fs : List (List Int)}, (∀ f ∈ fs, isNum f = true) → ¬ Div p (prodL fs) → chainP p fs
  | [], _, _ => trivial
  | [_], _, _ => trivial
  | a :: b :: t, h, hd => by
    have ha := h a List.mem_cons_self
    have ht := fun f hf => h f (List.mem_cons_of_mem _ hf)
    have hb := ht b List.mem_cons_self
    have hn : ∀ f ∈ t, isNum f = true := fun f hf => ht f (List.mem_cons_of_mem _ hf)
    rw [prod_cons ha ht] at hd
    refine ⟨fun q => hd ?_, nd_chain ht fun q => hd (div_left ha q)⟩
    rw [prod_cons hb hn, ← mul_asc ha hb (prod_num hn)]
    exact div_mul (prod_num hn) q
/-! #### what a number is made of -/
structure Dec (p : Int) (x : List Int) (t : Nat) (fs : List (List Int)) (u : List Int) : Prop where
  eq : x = timesL (p ^ t) (mulL (prodL fs) u)
  mem : WL p fs
  nd : ¬ Div p (prodL fs)
  un : u ∈ unitsL
theorem Dec.np {p : Int} {x : List Int} {t : Nat} {fs : List (List Int)} {u : List Int} (h : Dec p x t fs u) (hp : p ∈ sixP) : isNum (prodL fs) = true ∧ normL (prodL fs) = p ^ fs.length := np_nrm (h.mem.np hp)
theorem Dec.yn {p : Int} {x : List Int} {t : Nat} {fs : List (List Int)} {u : List Int} (h : Dec p x t fs u) (hp : p ∈ sixP) : isNum (mulL (prodL fs) u) = true ∧ normL (mulL (prodL fs) u) = p ^ fs.length ∧ ¬ Div p (mulL (prodL fs) u) := by
  obtain ⟨n1, n2⟩ := h.np hp
  have nu := u_num h.un
  refine ⟨num_mul n1 nu, by rw [norm_mul n1 nu, norm_unit h.un, Int.mul_one, n2], fun q => h.nd ?_⟩
  have := div_mul (u_num (units_cj u h.un).1) q
  rw [mul_asc n1 nu (u_num (units_cj u h.un).1), (units_cj u h.un).2.1, mul_oneR n1] at this
  exact this
theorem Dec.num {p : Int} {x : List Int} {t : Nat} {fs : List (List Int)} {u : List Int} (h : Dec p x t fs u) (hp : p ∈ sixP) : isNum x = true := by rw [h.eq]; exact num_times _ (h.yn hp).1
theorem Dec.nrm {p : Int} {x : List Int} {t : Nat} {fs : List (List Int)} {u : List Int} (h : Dec p x t fs u) (hp : p ∈ sixP) : normL x = p ^ (2 * t + fs.length) := by
  rw [h.eq, norm_timesL _ (h.yn hp).1, (h.yn hp).2.1, ← Int.pow_add, ← Int.pow_add, Nat.two_mul]
theorem Dec.nz {p : Int} {x : List Int} {t : Nat} {fs : List (List Int)} {u : List Int} (h : Dec p x t fs u) (hp : p ∈ sixP) : zeroB x = false := np_nz (by have := six_pr hp; omega) (h.num hp) (h.nrm hp)
/-- its content -/
theorem Dec.prim {p : Int} {x : List Int} {t : Nat} {fs : List (List Int)} {u : List Int} (h : Dec p x t fs u) (hp : p ∈ sixP) : contL (mulL (prodL fs) u) = 1 := by
  have p3 := six_pr hp
  obtain ⟨y1, y2, y3⟩ := h.yn hp
  have yz := np_nz (by omega) y1 y2
  have cp := cont_pos y1 yz
  obtain ⟨w, hw, ew⟩ := cont_div y1 yz
  have en := congrArg normL ew
  rw [norm_timesL _ hw, y2, Int.mul_assoc] at en
  exact cop_pone hp cp (fun q => y3 ((div_iff y1 yz (by omega)).2.mpr q)) _ ⟨_, en⟩
theorem Dec.cont {p : Int} {x : List Int} {t : Nat} {fs : List (List Int)} {u : List Int} (h : Dec p x t fs u) (hp : p ∈ sixP) : contL x = p ^ t := by
  have p3 := six_pr hp
  obtain ⟨y1, y2, y3⟩ := h.yn hp
  conv => lhs; rw [h.eq]
  rw [cont_times y1 (np_nz (by omega) y1 y2) (pow_pos (by omega) t), h.prim hp, Int.mul_one]
theorem Dec.part {p : Int} {x : List Int} {t : Nat} {fs : List (List Int)} {u : List Int} (h : Dec p x t fs u) (hp : p ∈ sixP) : x.map (fun q => q / contL x) = mulL (prodL fs) u := by
  have p3 := six_pr hp
  rw [h.cont hp]
  conv => lhs; rw [h.eq]
  exact quo_of_times (pow_pos (by omega) t) _
end TB

namespace TB
open PySem L2 PySem.Spec PyProof.Rows
section
variable {X : Cx} {W : WX} {F0 H0 : Hp} {Γ : List S} {a b : Expr} {x : D} {pos : Pos} {n : Nat}
end
/-- the letter ahead: its conjugate ahead gives the prime -/
theorem ahead {p : Int} (hp : p ∈ sixP) {f y : List Int} (hf : isNum f = true) (fn : normL f = p) (hy : isNum y = true) : mulL (conjL f) (mulL f y) = timesL p y := by
  rw [← mul_asc (num_conj hf) hf hy, (mul_conj hf).2, fn, (mul_int p hy).1]
/-! relations -/
def wordD (p : Int) (t : Nat) (fs : List (List Int)) (u : List Int) : D := .tuple [.int (t : Int), ti (idxs p fs), ti u]
/-- a number of the words' laws -/
structure DecB (p : Int) (x : List Int) (t : Nat) (fs : List (List Int)) (u : List Int) : Prop where
  pr : p ∈ sixP
  dec : Dec p x t fs u
  bd : 2 * t + fs.length ≤ 12
end TB
namespace TB
open PySem L2 PySem.Spec PyProof.Rows
end TB

namespace TB
open PySem L2 PySem.Spec PyProof.Rows
/-! ### x in a tuple of data -/
section
variable {X : Cx} {W : WX} {F0 H0 : Hp} {Γ : List S} {a b : Expr} {x : D} {ds : List D} {pos : Pos}
end
/-! ### reduced words -/
/-- what a word is made of -/
structure RedB (p : Int) (zs : List Int) (t : Nat) (fs : List (List Int)) (u : List Int) : Prop where
  wz : WZ p zs
  zl : zs.length ≤ 10
  db : DecB p (prodL (lets p zs)) t fs u
  bd : 2 * t + fs.length = zs.length
  ap : apartB p zs = true → t = 0 ∧ fs = lets p zs ∧ u = [2, 0, 0, 0]
theorem RedB.out {p : Int} {zs : List Int} {t : Nat} {fs : List (List Int)} {u : List Int} (h : RedB p zs t fs u) : WZ p (idxs p fs) ∧ (idxs p fs).length ≤ 10 ∧ apartB p (idxs p fs) = true := by
  have hp := h.db.pr
  have hb := h.bd
  have hz := h.zl
  have hw := idxs_WZ hp h.db.dec.mem
  refine ⟨hw, by unfold idxs; rw [List.length_map]; omega, ?_⟩
  rw [apart_chain hp hw, lets_idxs h.db.dec.mem]
  exact nd_chain (fun f hf => (let_ok hp (h.db.dec.mem f hf)).1) h.db.dec.nd
/-- a reduced word is itself -/
theorem RedB.self {p : Int} {zs : List Int} {t : Nat} {fs : List (List Int)} {u : List Int} (h : RedB p zs t fs u) (ha : apartB p zs = true) : wordD p t fs u = .tuple [.int 0, ti zs, ti [2, 0, 0, 0]] := by
  obtain ⟨rfl, rfl, rfl⟩ := h.ap ha
  unfold wordD
  rw [idxs_lets h.db.pr h.wz]
  rfl
end TB
namespace TB
open PySem L2 PySem.Spec PyProof.Rows
end TB
namespace TB
open PySem L2 PySem.Spec PyProof.Rows
end TB

namespace TB
open PySem L2 PySem.Spec PyProof.Rows PySem.Calls
/-! ### max(xs, key=len) of a list of tuples -/
section
variable {X : Cx} {W : WX} {F0 H0 : Hp} {Γ : List S} {e : Expr} {pos np kp kpos : Pos}
end
end TB

namespace TB
open PySem L2 PySem.Spec PyProof.Rows
/-! ### places, ways -/
def RedR (p : Int) (zs : List Int) (r : Nat × List (List Int) × List Int) : Prop := RedB p zs r.1 r.2.1 r.2.2
theorem RedR.len {p : Int} {zs : List Int} {r : Nat × List (List Int) × List Int} (h : RedR p zs r) : (idxs p r.2.1).length ≤ 10 := h.out.2.1
end TB
namespace TB
open PySem L2 PySem.Spec PyProof.Rows
end TB
namespace TB
open PySem L2 PySem.Spec PyProof.Rows
end TB
namespace TB
open PySem L2 PySem.Spec PyProof.Rows
end TB

namespace TB
open PySem L2 PySem.Spec PyProof.Rows
/-! ### the distance of two places -/
/-! #### ways -/
end TB
namespace TB
open PySem L2 PySem.Spec PyProof.Rows
end TB

namespace TB
open PySem L2 PySem.Spec PyProof.Rows
/-! ### k75: what words of one prime raise -/
/-- no power of p -/
def NoPow (p : Int) (x : List Int) : Prop := isNum x = true ∧ ∃ (k : Nat) (r : Int), normL x = p ^ k * r ∧ r % p ≠ 0 ∧ 1 < r ∧ r ≤ 1000 ∧ k ≤ 12
theorem NoPow.nz {p : Int} (hp : p ∈ sixP) {x : List Int} (h : NoPow p x) : zeroB x = false := by
  obtain ⟨hx, k, r, e, _, h1, _⟩ := h
  refine norm_ne_zero hx ?_
  rw [e]
  have := pow_pos (show 0 < p by have := six_pr hp; omega) k
  have := Int.mul_pos this (show 0 < r by omega)
  omega
/-! codes: 0 told, 1 number, 2 question, 3 word -/
end TB
namespace TB
open PySem L2 PySem.Spec PyProof.Rows
section
variable {X : Cx} {W : WX} {F0 H0 : Hp} {Γ : List S} {a b c : Expr} {pos : Pos} {i j k : Int}
end
end TB
namespace TB
open PySem L2 PySem.Spec PyProof.Rows
end TB
namespace TB
open PySem L2 PySem.Spec PyProof.Rows
end TB

namespace TB
open PySem L2 PySem.Spec PyProof.Rows PySem.Calls
/-! ### enumerate(xs), xs a tuple or a list -/
section
variable {X : Cx} {F0 H0 : Hp} {Γ : List S} {a : Expr} {es : List Expr} {np pos tp : Pos} {kk : Nat} {xs : List D}
end
end TB
namespace TB
open PySem L2 PySem.Spec PyProof.Rows
section
variable {X : Cx} {W : WX} {F0 H0 : Hp} {Γ : List S} {a b e tg : Expr} {np pos : Pos} {i j : Int} {ds : List D}
end
end TB

namespace TB
open PySem L2 PySem.Spec PyProof.Rows
/-! ### k73: the numbers of words -/
end TB
namespace TB
open PySem L2 PySem.Spec PyProof.Rows
theorem fm_filter {α β : Type} (q : α → Bool) (f : α → β) : ∀ xs : List α, (xs.flatMap fun k => if q k = true then [f k] else []) = (xs.filter q).map f
  | [] => rfl
  | x :: xs => by
    rw [List.flatMap_cons, List.filter_cons, fm_filter q f xs]
    split <;> rfl
end TB

namespace TB
open PySem L2 PySem.Spec PyProof.Rows
section
variable {X : Cx} {W : WX} {F0 H0 : Hp} {Γ Γ1 : List S} {body su1 : List Stmt} {b1 : Stmt} {n x1 : Str} {i : Nat} {p1 q1 pos : Pos} {C1 c : Addr} {so : SO} {y : D}
end
/-! ### k73: relations -/
end TB
namespace TB
open PySem L2 PySem.Spec PyProof.Rows
end TB
namespace TB
open PySem L2 PySem.Spec PyProof.Rows
section
variable {X : Cx} {W : WX} {F0 H0 : Hp} {Γ : List S} {e : Expr} {pos : Pos}
end
end TB
namespace TB
open PySem L2 PySem.Spec PyProof.Rows
theorem fold_fm {α β : Type} (f : α → List β) : ∀ (xs : List α) (F : List β), xs.foldl (fun F x => F ++ f x) F = F ++ xs.flatMap f
  | [], F => by simp
  | x :: xs, F => by
    rw [List.foldl_cons, fold_fm f xs, List.flatMap_cons, List.append_assoc]
end TB
namespace TB
open PySem L2 PySem.Spec PyProof.Rows
end TB
namespace TB
open PySem L2 PySem.Spec PyProof.Rows
end TB

namespace TB
open PySem L2 PySem.Spec PyProof.Rows
/-! ### defs with one keyword-only parameter that has an int as its default -/
/-- a def of the text: its last parameter m is keyword-only, d its default -/
structure FnAtK (K : PySem.W.Frag) (mg : Str → Option Value) (n : Str) (st : Stmt) (ps : List Str) (m : Str) (d : Int) : Prop where
  ex : ∃ f fd, Fun K n n st f fd ∧ mg n = some (.ref f) ∧ (∃ u, Binds K fd ps [.int d u]) ∧ KBn K fd ps (ps.length - 1) [m] (fun us ws => us ++ ws) (fun vs zs => vs ++ zs)
structure CalK (P : Program) (w : World) (K : PySem.W.Frag) (mg : Str → Option Value) (base : Heap) (k : Nat) (n : Str) (ps : List Str) (m : Str) (d : Int) (R : List D → Out → Prop) : Prop where
  ex : ∃ f fd, FnOk P w K mg base (L2.CX P w) k f fd ps (spD K R) ∧ mg n = some (.ref f) ∧ PySem.W.keepIn K (.ref f) = true ∧ (∃ u, Binds K fd ps [.int d u]) ∧ KBn K fd ps (ps.length - 1) [m] (fun us ws => us ++ ws) (fun vs zs => vs ++ zs)
theorem cal_mkK {P : Program} {w : World} {K : PySem.W.Frag} {mg : Str → Option Value} {base : Heap} {n m : Str} {dv : Int} {st : Stmt} {N ps : List Str} {k : Nat} {R : List D → Out → Prop} (A0 : FnAtK K mg n st ps m dv) (Sc : FnScope N ps (defScope st)) (hlen : ∀ ds o, R ds o → ds.length = ps.length)
    (hb : ∀ (f : Addr) (cdv : Value) (A : Around) (outer : List Env) (s : Shared) (H : Hp) (E : XK) (F : Hp) (ds : List D) (o : Out), Room k (A.deeper (PyProof.Rows.envOfC n (defScope st) s.heap.objs.size f cdv)) →
      L2.Takes (XO P w K mg base N n st f cdv A outer s H E) (fun cls d _ H => E cls d H) → PassesOwn (model P w) (XO P w K mg base N n st f cdv A outer s H E).A (XO P w K mg base N n st f cdv A outer s H E).env (XO P w K mg base N n st f cdv A outer s H E).xe → R ds o →
      ∃ so, JSs (XO P w K mg base N n st f cdv A outer s H E) (fun cls d _ H => E cls d H) F H (begin_ N ds) (defBody st) so ∧ Fits o so) : CalK P w K mg base (k + 1) n ps m dv R := by
  obtain ⟨f, fd, Fn, hm, hb', hk⟩ := A0.ex
  exact ⟨f, fd, fn_ok Fn Sc hlen (hb f), hm, Fn.kp, hb', hk⟩
section
variable {X : Cx} {CX : CXT} {k n : Nat} {f : Addr} {fd : FuncData} {ps ks : List Str} {sp : Sp} {E : L2.St → XK} {x : Str} {p pos : Pos} {e : Expr} {es : List Expr} {kws : List Keyword} {t tk : TA} {g : List Value → List Value → List Value} {gV : List V → List V → List V}
theorem run_fnNS {pins : List (Addr × Obj)} {σ : L2.St} {H : Hp} {s : Shared} {Q : VK} {us ws : List Value} {vs zs : List V} (F : FnOk X.prog X.w X.K X.mg X.base CX k f fd ps sp) (hr : Room k X.A) (hb : KBn X.K fd ps n ks g gV) (hx : PassesAt CX X σ (E σ))
    (I : Inv X pins σ H s) (r : Vals vs us) (rz : Vals zs ws) (l1 : vs.length = n) (l2 : zs.length = ks.length) (h : sp (gV vs zs) H Q (E σ)) : wpAny (model X.prog X.w) X.A (call (.ref f) us (ks.zip ws)) (EP X pins σ Q) X.xe s := by
  have r2 := hb.rel r rz
  refine wpAny_call (codeAny_mono (F.run X.A X.stack s H ⟨us, ks.zip ws⟩ (g us ws) (gV vs zs) Q (E σ) hr I.env0 (hb.to s us ws I.kIn (r.length.symm.trans l1) (rz.length.symm.trans l2)) r2 h) fun r s' hq => ?_)
  cases r with
  | error e => exact hx pins H s e s' I hq
  | ok fl =>
    cases fl with
    | ret u => exact I.after hq
    | next => exact False.elim hq
    | brk => exact False.elim hq
    | cont => exact False.elim hq
theorem pe_callNS (F : FnOk X.prog X.w X.K X.mg X.base CX k f fd ps sp) (hr : Room k X.A) (hg : Gl X x) (hm : X.mg x = some (.ref f)) (hk : PySem.W.keepIn X.K (.ref f) = true) (hb : KBn X.K fd ps n ks g gV) (hx : ∀ σ, PassesAt CX X σ (E σ))
    (ha : PA X (e :: es) t) (hkw : PK X kws tk) (hall : (backToKw pos (keywordEach kws X.env)).all (·.1.isSome) = true := by rfl) (hks : (backToKw pos (keywordEach kws X.env)).filterMap (·.1) = ks := by rfl)
    (hdb : (x == ("__debug__" : Str)) = false := by decide) (he : starEach (e :: es) X.env = (false, eval e X.env) :: starEach es X.env := by rfl)
    (hpl : ((backTo pos (starEach (e :: es) X.env)).any (·.1) || (backToKw pos (keywordEach kws X.env)).any (·.1.isNone)) = false := by rfl) :
    PE X (.Call (.Name x p) (e :: es) kws pos) (fun σ H Q => t σ H fun vs H1 => tk σ H1 fun zs H2 => vs.length = n ∧ zs.length = ks.length ∧ sp (gV vs zs) H2 Q (E σ)) := by
  refine ⟨fun pins s σ H Q I h => ?_⟩
  refine wpAny_Call_Name_kw (ld_glob I hg hm ?_ hdb)
  refine PySem.W.callWith_KW (h₀ := X.base) I.ok.mod.kin hk hall (thn (ha.run pos pins s σ H _ I h) fun us s1 ⟨vs, H1, I1, r, q⟩ => ?_) hpl he
  refine thn (hkw.run pos pins s1 σ H1 _ I1 q) fun ws s2 ⟨zs, H2, I2, rz, l1, l2, q2⟩ => ⟨I2.kIn, ?_⟩
  rw [hks]
  exact run_fnNS F hr hb (hx σ) I2 r rz l1 l2 q2
end
section
variable {X : Cx} {W : WX} {F0 H0 : Hp} {Γ : List S} {e e2 : Expr} {es : List Expr} {pos np kpos : Pos} {n m : Str} {dv : Int} {ds : List D} {y : D} {o : Out} {k : Nat} {ps : List Str} {R : List D → Out → Prop}
/-- the keyword is left out -/
theorem je_callKD (C : CalK X.prog X.w X.K X.mg X.base k n ps m dv R) (hR : R (ds ++ [.int dv]) o) (hr : Room k X.A) (tk : L2.Takes X W) (ha : JA X F0 H0 Γ (e :: es) ds)
    (hg : Gl X n := by rfl) (hdb : (n == ("__debug__" : Str)) = false := by decide) (he : starEach (e :: es) X.env = (false, eval e X.env) :: starEach es X.env := by rfl) (hpl : (backTo pos (starEach es X.env)).any (·.1) = false := by rfl) : JE X W F0 H0 Γ (.Call (.Name n np) (e :: es) [] pos) o := by
  obtain ⟨f, fd, G, hm, hk, ⟨u, hb⟩, _⟩ := C.ex
  exact pe_imp (pe_callSD G hr hg hm hk hb (dvs := [.int dv]) (.cons ⟨u, rfl⟩ .nil) (fun σ => passAt tk σ) ha hdb he hpl) fun σ H Q ⟨F, ok, q⟩ => ⟨F, ok, fun vs F1 H1 z1 d1 => ⟨F1, ds ++ [.int dv], _, z1.s, da_app d1 (.cons (.int _) .nil), hR, po_mono z1 q⟩⟩
/-- f(.., m = e2) -/
theorem je_callKW (C : CalK X.prog X.w X.K X.mg X.base k n ps m dv R) (hR : R (ds ++ [y]) o) (hr : Room k X.A) (tk : L2.Takes X W) (ha : JA X F0 H0 Γ (e :: es) ds) (hy : JE X WF F0 H0 Γ e2 (.v y)) (hl : ds.length = ps.length - 1)
    (hg : Gl X n := by rfl) (hdb : (n == ("__debug__" : Str)) = false := by decide) (he : starEach (e :: es) X.env = (false, eval e X.env) :: starEach es X.env := by rfl)
    (hall : (backToKw pos (keywordEach [⟨some m, e2, kpos⟩] X.env)).all (·.1.isSome) = true := by rfl) (hks : (backToKw pos (keywordEach [⟨some m, e2, kpos⟩] X.env)).filterMap (·.1) = [m] := by rfl)
    (hpl : ((backTo pos (starEach (e :: es) X.env)).any (·.1) || (backToKw pos (keywordEach [⟨some m, e2, kpos⟩] X.env)).any (·.1.isNone)) = false := by rfl) : JE X W F0 H0 Γ (.Call (.Name n np) (e :: es) [⟨some m, e2, kpos⟩] pos) o := by
  obtain ⟨f, fd, G, hm, hk, _, hb⟩ := C.ex
  exact pe_imp (pe_callNS G hr hg hm hk hb (fun σ => passAt tk σ) ha (pk_cons hy pk_nil) hall hks hdb he hpl) fun σ H Q ⟨F, ok, q⟩ => ⟨F, ok, fun vs F1 H1 z1 d1 => ⟨F1, ok.mono z1, fun v F2 H2 z2 d2 => ⟨by rw [da_len d1, hl], rfl, F2, ds ++ [y], _, (z1.trans z2).s, da_app (da_ex z2.f _ _ d1) (.cons d2 .nil), hR, po_mono (z1.trans z2) q⟩⟩⟩
end
end TB

namespace TB
open PySem L2 PySem.Spec PyProof.Rows
/-! ### own exceptions with a field: raise C(x), C's __init__ calls B.__init__ of an own class B over ValueError -/
section
variable {X : Cx} {e : Expr} {es : List Expr} {ta : TA} {p1 p2 pos : Pos} {B : Addr} {b : Str}
/-- B.__init__(self, ..), B an own class that inherits ValueError's -/
theorem pe_binit {pl : Sem Bool} (hg : Gl X b) (hm : X.mg b = some (.ref B)) (r : ClX.CRead X.K B (.type "type")) (vV : PySem.W.findCls X.K (.ref B) (.type "type") "__init__" = some (.val (.builtin "ValueError.__init__"))) (ha : PA X (e :: es) ta) (hdb : (b == ("__debug__" : Str)) = false := by decide)
    (hc : eval (.Call (.Attribute (.Name b p1) "__init__" p2) (e :: es) [] pos) X.env = (do
      let ov ← eval (.Name b p1) X.env
      standAt p2.atName
      let (f, first) ← holding [ov] (getMethod ov "__init__" pl)
      callWith pos f first (backTo pos (starEach (e :: es) X.env)) (backToKw pos (keywordEach [] X.env))) := by rfl)
    (he : starEach (e :: es) X.env = (false, eval e X.env) :: starEach es X.env := by rfl) (hpl : (backTo pos (starEach es X.env)).any (·.1) = false := by rfl) :
    PE X (.Call (.Attribute (.Name b p1) "__init__" p2) (e :: es) [] pos) (tVeI X.K ta) := by
  refine ⟨fun pins s σ H Q I h => ?_⟩
  refine PySem.W.methodCall_KW (ld_glob I hg hm ?_ hdb) hc
  refine PySem.W.method_cls I.kIn r.ga (PySem.W.cls_value I.kIn r.rd vV (by decide +kernel) ?_)
  show wpAny _ _ (callWith pos (Value.builtin "ValueError.__init__") [] (backTo pos (starEach (e :: es) X.env)) []) _ _ _
  refine PyProof.Rows.callWith_method1 (thn (ha.run pos pins _ σ H _ (I.tok _) h) fun us s1 ⟨vs, H1, I1, r1, a, C, ws, ev, hl, T, ea, q⟩ => ?_) he hpl
  subst ev
  cases r1 with
  | @cons _ u0 _ ur ra rw' =>
    obtain rfl : u0 = Value.ref a := ra
    have hlen : ur.length ≤ sizeLine := by
      rw [← Paired.length rw', sizeLine_eq]
      omega
    exact oinit_ok T I1 ea hlen fun s' J => ⟨.non, H1, J, rfl, q⟩
end
/-- what an __init__ does that keeps an int in the field f -/
def spInit (K : PySem.W.Frag) (C : Addr) (f : Str) : Sp := fun vs H Q E => ∃ (a : Addr) (z : Int), vs = [.ref a, .int z] ∧ z.natAbs.log2 < 1920 ∧ OexC K C ∧ PySem.W.findIn K (.ref C) f = some none ∧ H a = some (exo a C none) ∧
  ∀ dx, H dx = none → dx ≠ a → Q .non (upd (upd H dx (exd dx [(f, .int z)])) a (exo a C (some dx)))
/-- the class C of the name n, its __init__ keeping that -/
structure ExI (P : Program) (w : World) (K : PySem.W.Frag) (mg : Str → Option Value) (base : Heap) (n : Str) (C : Addr) (f : Str) : Prop where
  g : mg n = some (.ref C)
  T : OexC K C
  no : PySem.W.findIn K (.ref C) f = some none
  ini : ∃ fI fd, PySem.W.findIn K (.ref C) "__init__" = some (some (.ref fI)) ∧ PySem.W.typeIn K (.ref fI) = some (.type "function") ∧ FnOk P w K mg base (L2.CX P w) 1 fI fd ["self", f] (spInit K C f) ∧ Binds K fd ["self", f] []
section
variable {X : Cx} {W : WX} {F0 H0 : Hp} {Γ : List S} {n f : Str} {C : Addr} {p pos pos2 : Pos} {e : Expr} {z : Int}
/-- raise C(e) -/
theorem js_raiseF (T : ExI X.prog X.w X.K X.mg X.base n C f) (hr : Room 2 X.A) (hc : X.calm = true) (tk : L2.Takes X W) (hz : z.natAbs.log2 < 1920) (he : JE X WF F0 H0 Γ e (.v (.int z))) (hg : Gl X n := by rfl) (hdb : (n == ("__debug__" : Str)) = false := by decide)
    (hs : starEach [e] X.env = (false, eval e X.env) :: starEach [] X.env := by rfl) (hpl : (backTo pos (starEach [] X.env)).any (·.1) = false := by rfl) :
    JS X W F0 H0 Γ (.Raise (some (.Call (.Name n p) [e] [] pos)) none pos2) (.xf C f (.int z) Γ) := by
  obtain ⟨fI, fd, iC, tI, F1, hb⟩ := T.ini
  refine ps_imp (ps_raise hc tk (pmk_oex T.T iC tI F1 hr hb .nil passL hg T.g (ja_cons he ja_nil hs) hdb hs hpl)) fun D' σ H ⟨F, ok, q⟩ => ⟨F, ok, fun vs F1 H1 z1 d1 => ?_⟩
  cases d1 with
  | cons k1 k2 =>
    cases k2
    cases k1
    refine ⟨by show 1 ≤ 1000; decide, fun a ha => ⟨a, z, rfl, hz, T.T, T.no, upd_same, fun dx hdx hne => ⟨rfl, dx, [(f, .int z)], upd_same, ?_, ?_, ?_⟩⟩⟩
    · rw [upd_ne hne, upd_same]
    · rwa [upd_ne hne] at hdx
    · rw [upd_ne hne] at hdx
      have eH : upd (del (upd (upd (upd H1 a (exo a C none)) dx (exd dx [(f, V.int z)])) a (exo a C (some dx))) a) dx (.xd [(f, V.int z)]) = upd H1 dx (.xd [(f, V.int z)]) := by
        funext c
        by_cases h1 : c = dx
        · rw [h1, upd_same, upd_same]
        · rw [upd_ne h1, upd_ne h1]
          by_cases h2 : c = a
          · rw [h2, del_same, ha]
          · rw [del_ne h2, upd_ne h2, upd_ne h1, upd_ne h2]
      rw [eH]
      have zn := Fz.new (o := .xd [(f, V.int z)]) z1.s hdx
      exact q dx (.int z) σ (upd F1 dx (.xd [(f, V.int z)])) _ (z1.f.trans zn.f) (ok.mono (z1.trans zn)) ((ok.base.h.trans z1.h).none hdx) upd_same (.int _)
end
end TB
namespace TB
open PySem L2 PySem.Spec PyProof.Rows
/-! ### such an exception caught, its field read -/
def dataS : S → Bool
  | .d _ => true
  | .u => true
  | _ => false
/-- slots of data alone: the state counts as a beginning -/
theorem Ok.rebase {K : PySem.W.Frag} {F0 H0 F : Hp} {σ : L2.St} {H : Hp} {Γ : List S} (h : Ok K F0 H0 F σ H Γ) (hd : Γ.all dataS = true) : Ok K F H F σ H Γ := by
  obtain ⟨fps, h⟩ := h
  refine ⟨fps, Fz.refl h.base.s, h.len, h.fl, fun i s fp e1 e2 => ?_, h.dj⟩
  have hs := List.all_eq_true.mp hd s (List.mem_of_getElem? e1)
  have q := h.sl i s fp e1 e2
  cases s with
  | d x =>
    revert q
    cases σ[i]? with
    | none => exact id
    | some o => cases o <;> exact id
  | u =>
    revert q
    cases σ[i]? with
    | none => exact id
    | some o => cases o <;> exact id
  | own ds => cases hs
  | r v => cases hs
  | q o => cases hs
section
variable {X : Cx} {W : WX} {F0 H0 : Hp} {Γ Γ1 : List S} {body suite : List Stmt} {b₀ : Stmt} {n x f : Str} {i : Nat} {np pos' pos : Pos} {C c : Addr} {xv y : D}
end
section
variable {X : Cx} {W : WX} {F0 H0 : Hp} {Γ : List S} {n f : Str} {i : Nat} {np pos : Pos} {c a dd : Addr} {oe : Obj} {pn : List (Addr × Obj)} {v : V} {xv : D}
/-- e.f, e what the suite holds -/
theorem je_xf (T : XfC X.K c) (hno : PySem.W.findIn X.K (.ref c) f = some none) (hz : Zc (.ref c) (some dd) oe) (hfl : ∃ vs, oe.data = .fields vs) (hxd : H0 dd = some (.xd [(f, v)])) (hdp : Dp X.K F0 v xv) (g : Γ[i]? = some (.r (.ref a)))
    (hN : X.N[i]? = some n := by rfl) (hv : Vis X.env.scope n := by first | exact Or.inl rfl | exact Or.inr (Or.inl rfl) | exact Or.inr (Or.inr rfl)) (hd : (n == ("__debug__" : Str)) = false := by decide) (hcd : (n == ("__classdict__" : Str)) = false := by decide)
    (hb : attributeBase (.Name n np) f X.env (eval (.Name n np) X.env) = eval (.Name n np) X.env := by rfl) :
    JE (X.suite a ((a, oe) :: pn)) W F0 H0 Γ (.Attribute (.Name n np) f pos) (.v xv) :=
  pe_imp (pe_xf T hno hz hfl (pe_var (X := X.suite a ((a, oe) :: pn)) hN hv hd hcd) hb) fun σ H Q ⟨F, ok, q⟩ => by
    obtain ⟨fps, h⟩ := ok
    obtain ⟨fp, e1⟩ := h.fp g
    have q1 := h.sl i _ fp g e1
    have q2 : σ[i]? = some (some (.ref a)) := by
      cases q3 : σ[i]? with
      | none => rw [q3] at q1; exact absurd q1.1 (by intro z; cases z)
      | some o => rw [q3] at q1; exact q1.1
    refine ⟨_, q2, rfl, rfl, dd, [(f, v)], v, rfl, h.base.h _ _ hxd, ?_, ?_⟩
    · show ((f, v) :: []).lookup f = some v
      rw [List.lookup_cons_self]
    · exact q v F H (Fz.refl h.base.s) (dp_ex h.base.f _ _ hdp)
end
end TB
namespace TB
open PySem L2 PySem.Spec PyProof.Rows
/-! ### what the top has left of such classes and defs -/
def clsBody (s : Stmt) : List Stmt := match s with
  | .ClassDef _ _ _ b _ _ _ _ _ _ _ => b
  | _ => []
structure IniF (K : PySem.W.Frag) (mg : Str → Option Value) (n : Str) (C : Addr) (f qual : Str) (st : Stmt) : Prop where
  g : mg n = some (.ref C)
  T : OexC K C
  no : PySem.W.findIn K (.ref C) f = some none
  xf : XfC K C
  ini : ∃ fI fd, PySem.W.findIn K (.ref C) "__init__" = some (some (.ref fI)) ∧ PySem.W.typeIn K (.ref fI) = some (.type "function") ∧ Fun K "__init__" qual st fI fd ∧ Binds K fd ["self", f] []
structure BasF (K : PySem.W.Frag) (mg : Str → Option Value) (b : Str) (B : Addr) : Prop where
  g : mg b = some (.ref B)
  rd : ClX.CRead K B (.type "type")
  vV : PySem.W.findCls K (.ref B) (.type "type") "__init__" = some (.val (.builtin "ValueError.__init__"))
theorem bindsK {K : PySem.W.Frag} {fd : FuncData} {ps : List Str} {m : Str} {d : Int} {u : Tok} {D : Addr} (hD : PySem.W.nsIn K D m = some (some (.int d u))) (hp : 1 ≤ ps.length)
    (h : ∀ us : List Value, us.length = ps.length - 1 → KwChain D [(m, .int d u)] (bindArgs fd ⟨us, []⟩) (ps.zip (us ++ [.int d u]))) : Binds K fd ps [.int d u] := fun s us X hlen =>
  L2.BindsTo.of_looks fun M => KwChain.looks X (fun q hq => by rw [List.mem_singleton.mp hq]; exact hD) (h us (by rw [List.length_append] at hlen; have : ([Value.int d u]).length = 1 := rfl; omega))
theorem kbnK {K : PySem.W.Frag} {fd : FuncData} {ps : List Str} {m : Str} (h : ∀ us ws : List Value, us.length = ps.length - 1 → ws.length = 1 → bindArgs fd ⟨us, [m].zip ws⟩ = pure (ps.zip (us ++ ws))) : KBn K fd ps (ps.length - 1) [m] (fun us ws => us ++ ws) (fun vs zs => vs ++ zs) :=
  ⟨fun s us ws X l1 l2 => .of_eq (h us ws l1 l2), fun r1 r2 => r1.append r2⟩
end TB

namespace TB
open PySem L2 PySem.Spec PyProof.Rows
/-! ### k66: all falling rows of squares -/
def descI (m : Int) : List Int := (List.range (m + 1).toNat).reverse.map fun i : Nat => (i : Int)
def brute : Nat → Int → Int → List (List Int)
  | 0, v, _ => if v = 0 then [[]] else []
  | n + 1, v, m => (descI m).flatMap fun a => (brute n (v - a * a) a).map fun r => a :: r
theorem desc_mem {m a : Int} (h : a ∈ descI m) : 0 ≤ a ∧ a ≤ m := by
  obtain ⟨i, hi, rfl⟩ := List.mem_map.mp h
  have := List.mem_range.mp (List.mem_reverse.mp hi)
  omega
theorem fm_nil {α β : Type} {f : α → List β} : ∀ {xs : List α}, (∀ x ∈ xs, f x = []) → xs.flatMap f = []
  | [], _ => rfl
  | x :: xs, h => by rw [List.flatMap_cons, h x List.mem_cons_self, fm_nil fun y hy => h y (List.mem_cons_of_mem _ hy)]; rfl
theorem brute_neg : ∀ (n : Nat) (v m : Int), v < 0 → brute n v m = []
  | 0, v, m, h => by unfold brute; rw [if_neg (by omega)]
  | n + 1, v, m, h => by
    unfold brute
    exact fm_nil fun a ha => by
      have : 0 ≤ a * a := Int.mul_nonneg (desc_mem ha).1 (desc_mem ha).1
      rw [brute_neg n _ a (by omega)]
      rfl
theorem sq_mono {a b : Int} (h0 : 0 ≤ a) (h : a ≤ b) : a * a ≤ b * b := Int.mul_le_mul h h h0 (by omega)
theorem brute_big : ∀ (n : Nat) (v m : Int), 0 ≤ m → (n : Int) * (m * m) < v → brute n v m = []
  | 0, v, m, h0, h => by unfold brute; rw [if_neg (by rw [Int.natCast_zero, Int.zero_mul] at h; omega)]
  | n + 1, v, m, h0, h => by
    unfold brute
    exact fm_nil fun a ha => by
      obtain ⟨a0, a1⟩ := desc_mem ha
      have e1 := sq_mono a0 a1
      have e2 : (n : Int) * (a * a) ≤ (n : Int) * (m * m) := Int.mul_le_mul_of_nonneg_left e1 (Int.natCast_nonneg n)
      have e3 : ((n + 1 : Nat) : Int) * (m * m) = (n : Int) * (m * m) + m * m := by rw [Int.natCast_add, Int.add_mul]; show _ + 1 * _ = _; rw [Int.one_mul]
      rw [brute_big n _ a a0 (by omega)]
      rfl
theorem fm_congr {α β : Type} {f g : α → List β} : ∀ {xs : List α}, (∀ x ∈ xs, f x = g x) → xs.flatMap f = xs.flatMap g
  | [], _ => rfl
  | x :: xs, h => by rw [List.flatMap_cons, List.flatMap_cons, h x List.mem_cons_self, fm_congr fun y hy => h y (List.mem_cons_of_mem _ hy)]
/-- an interval of what a falling list holds -/
theorem desc_cut {β : Type} {f : Int → List β} {m hi lo : Int} (h0 : 0 ≤ lo) (hm : hi ≤ m) (h1 : ∀ a, hi < a → a ≤ m → f a = []) (h2 : ∀ a, 0 ≤ a → a < lo → f a = []) :
    (descI m).flatMap f = ((List.range (hi - (lo - 1)).toNat).map fun i : Nat => hi + (i : Nat) * (-1)).flatMap f := by
  have key : ∀ k : Nat, (k : Int) ≤ m + 1 → ((List.range k).reverse.map fun i : Nat => (i : Int)).flatMap f = ((List.range (min ((k : Int) - 1) hi - (lo - 1)).toNat).map fun i : Nat => min ((k : Int) - 1) hi + (i : Nat) * (-1)).flatMap f := by
    intro k
    induction k with
    | zero =>
      intro _
      rw [show (min (((0 : Nat) : Int) - 1) hi - (lo - 1)).toNat = 0 by omega]
      rfl
    | succ k ih =>
      intro hk
      rw [List.range_succ, List.reverse_append, List.map_append, List.flatMap_append, ih (by omega)]
      show List.flatMap f [(k : Int)] ++ _ = _
      rw [List.flatMap_cons, List.flatMap_nil, List.append_nil]
      by_cases hkh : hi < (k : Int)
      · rw [h1 k hkh (by omega), List.nil_append, show min (((k + 1 : Nat) : Int) - 1) hi = hi by omega, show min ((k : Int) - 1) hi = hi by omega]
      · have em : min (((k + 1 : Nat) : Int) - 1) hi = (k : Int) := by omega
        have em2 : min ((k : Int) - 1) hi = (k : Int) - 1 := by omega
        rw [em, em2]
        by_cases hkl : (k : Int) < lo
        · rw [h2 k (by omega) hkl, show ((k : Int) - (lo - 1)).toNat = 0 by omega, show ((k : Int) - 1 - (lo - 1)).toNat = 0 by omega]
          rfl
        · rw [show ((k : Int) - (lo - 1)).toNat = ((k : Int) - 1 - (lo - 1)).toNat + 1 by omega, List.range_succ_eq_map, List.map_cons, List.flatMap_cons, List.map_map]
          congr 1
          congr 1
          refine List.map_congr_left fun i _ => ?_
          show (k : Int) - 1 + (i : Nat) * (-1) = (k : Int) + ((i + 1 : Nat) : Int) * (-1)
          omega
  by_cases hm0 : 0 ≤ m + 1
  · have := key (m + 1).toNat (by omega)
    unfold descI
    rw [this, show min (((m + 1).toNat : Int) - 1) hi = hi by omega]
  · unfold descI
    rw [show (m + 1).toNat = 0 by omega, show (hi - (lo - 1)).toNat = 0 by omega]
    rfl
theorem root_lt {v a : Int} (h0 : 0 ≤ v) (h1 : v ≤ 10001) (ha : rootI v < a) : v < a * a := by
  obtain ⟨p, q⟩ := isqrt_small (n := v.toNat) (by omega)
  have e : rootI v + 1 ≤ a := by omega
  have := sq_mono (show 0 ≤ rootI v + 1 by unfold rootI; omega) e
  have q' : ((v.toNat : Nat) : Int) < (((Float64.isqrt v.toNat + 1) * (Float64.isqrt v.toNat + 1) : Nat) : Int) := by exact_mod_cast q
  rw [Int.natCast_mul, Int.natCast_add] at q'
  unfold rootI at this
  have : (v : Int) = ((v.toNat : Nat) : Int) := by omega
  have e1 : ((1 : Nat) : Int) = 1 := rfl
  rw [e1] at q'
  omega
theorem least_lt {v k a : Int} (h0 : 0 ≤ v) (h1 : v ≤ 10001) (hk : 1 ≤ k) (ha0 : 0 ≤ a) (ha : a < leastF v k) : k * (a * a) < v := by
  have d0 := Int.ediv_nonneg h0 (show 0 ≤ k by omega)
  have d1 := Int.ediv_le_self k h0
  obtain ⟨r0, r1, r2⟩ := root_le d0 (by omega)
  have hm : v / k * k ≤ v := Int.ediv_mul_le v (by omega)
  have ar : a ≤ rootI (v / k) := by unfold leastF at ha; split at ha <;> omega
  have s1 := sq_mono ha0 ar
  have s2 : rootI (v / k) * rootI (v / k) * k ≤ v / k * k := Int.mul_le_mul_of_nonneg_right r2 (by omega)
  have s3 : a * a * k ≤ rootI (v / k) * rootI (v / k) * k := Int.mul_le_mul_of_nonneg_right s1 (by omega)
  rw [Int.mul_comm k]
  by_cases hq : rootI (v / k) * rootI (v / k) * k < v
  · omega
  · have ha2 : a < rootI (v / k) := by unfold leastF at ha; rw [if_neg hq] at ha; exact ha
    have s4 := sq_mono (show 0 ≤ a + 1 by omega) (show a + 1 ≤ rootI (v / k) by omega)
    have e4 : (a + 1) * (a + 1) = a * a + 2 * a + 1 := by rw [Int.add_mul, Int.mul_add]; omega
    have s5 : a * a < rootI (v / k) * rootI (v / k) := by omega
    have s6 : a * a * k < rootI (v / k) * rootI (v / k) * k := Int.mul_lt_mul_of_pos_right s5 (by omega)
    omega
theorem least_ge {v a : Int} (h0 : 0 ≤ v) (h1 : v ≤ 10001) (ha : leastF v 1 ≤ a) : v ≤ a * a := by
  rw [show leastF v 1 = if rootI v * rootI v < v then rootI v + 1 else rootI v by unfold leastF; rw [Int.ediv_one, Int.mul_one]] at ha
  obtain ⟨r0, r1, r2⟩ := root_le h0 h1
  by_cases hq : rootI v * rootI v < v
  · rw [if_pos hq] at ha
    have := root_lt h0 h1 (show rootI v < a by omega)
    omega
  · rw [if_neg hq] at ha
    have := sq_mono r0 ha
    omega
theorem all_brute : ∀ (n : Nat) (v m : Int), 0 ≤ v → v ≤ 10001 → 0 ≤ m → allF (n + 1) v m = brute (n + 1) v m
  | n, v, m, h0, h1, hm => by
    have l0 := leastF_nn h0 h1 (show 1 ≤ ((n + 1 : Nat) : Int) by omega)
    have hmo : mostF v m ≤ m := by unfold mostF; split <;> omega
    show (firstsF v m ((n + 1 : Nat) : Int)).flatMap _ = (descI m).flatMap _
    rw [desc_cut (f := fun a => (brute n (v - a * a) a).map fun r => a :: r) (hi := mostF v m) (lo := leastF v ((n + 1 : Nat) : Int)) l0.1 hmo (fun a h2 h3 => ?_) (fun a h2 h3 => ?_)]
    · show (firstsF v m ((n + 1 : Nat) : Int)).flatMap _ = (firstsF v m ((n + 1 : Nat) : Int)).flatMap _
      refine fm_congr fun a ha => ?_
      obtain ⟨a0, a1, a2⟩ := firsts_mem h0 h1 (show 1 ≤ ((n + 1 : Nat) : Int) by omega) ha
      cases n with
      | zero =>
        have lo : leastF v 1 ≤ a := by
          obtain ⟨i, hi, rfl⟩ := List.mem_map.mp ha
          have := List.mem_range.mp hi
          have e : ((0 + 1 : Nat) : Int) = 1 := rfl
          rw [e] at this
          omega
        have := least_ge h0 h1 lo
        show (([[]] : List (List Int)).map fun r => a :: r) = ((brute 0 (v - a * a) a).map fun r => a :: r)
        unfold brute
        rw [if_pos (by omega)]
      | succ n => 
        have hn := Int.mul_nonneg a0 a0
        rw [all_brute n (v - a * a) a (by omega) (by omega) a0]
    · have : v < a * a := root_lt h0 h1 (by unfold mostF at h2; split at h2 <;> omega)
      show ((brute n (v - a * a) a).map fun r => a :: r) = []
      rw [brute_neg n _ a (by omega)]
      rfl
    · have := least_lt h0 h1 (show 1 ≤ ((n + 1 : Nat) : Int) by omega) h2 h3
      have e3 : ((n + 1 : Nat) : Int) * (a * a) = (n : Int) * (a * a) + a * a := by rw [Int.natCast_add, Int.add_mul]; show _ + 1 * _ = _; rw [Int.one_mul]
      show ((brute n (v - a * a) a).map fun r => a :: r) = []
      rw [brute_big n _ a h2 (by omega)]
      rfl
end TB
namespace TB
open PySem L2 PySem.Spec PyProof.Rows
/-- the law's own list -/
def dF66 (r : Int) (c : Nat) : List Nat := (List.range (c + 1)).filter fun d : Nat => decide ((0 + (d : Int)) * (0 + (d : Int)) = r)
def blkC66 (v : Int) (a b c : Nat) : List (List Int) := (dF66 (v - (0 + (a : Int)) * (0 + (a : Int)) - (0 + (b : Int)) * (0 + (b : Int)) - (0 + (c : Int)) * (0 + (c : Int))) c).map fun d : Nat => [0 + (a : Int), 0 + (b : Int), 0 + (c : Int), 0 + (d : Int)]
def blkB66 (v : Int) (a b : Nat) : List (List Int) := (List.range (b + 1)).flatMap (blkC66 v a b)
def blkA66 (v : Int) (a : Nat) : List (List Int) := (List.range (a + 1)).flatMap (blkB66 v a)
def rows66 (v : Int) : List (List Int) := (List.range 18).flatMap (blkA66 v)
theorem filt1 (r : Int) : ∀ n : Nat, ((List.range n).filter fun d : Nat => decide ((0 + (d : Int)) * (0 + (d : Int)) = r)).length ≤ 1
  | 0 => Nat.zero_le _
  | n + 1 => by
    rw [List.range_succ, List.filter_append, List.length_append]
    by_cases h : (0 + (n : Int)) * (0 + (n : Int)) = r
    · have e : (List.range n).filter (fun d : Nat => decide ((0 + (d : Int)) * (0 + (d : Int)) = r)) = [] := List.filter_eq_nil_iff.mpr fun d hd q => by
        have hd := List.mem_range.mp hd
        have q := of_decide_eq_true q
        rw [Int.zero_add] at h q
        have s := sq_mono (show 0 ≤ (d : Int) + 1 by omega) (show (d : Int) + 1 ≤ n by omega)
        have e4 : ((d : Int) + 1) * ((d : Int) + 1) = (d : Int) * d + 2 * d + 1 := by rw [Int.add_mul, Int.mul_add]; omega
        omega
      rw [e]
      have := List.length_filter_le (fun d : Nat => decide ((0 + (d : Int)) * (0 + (d : Int)) = r)) [n]
      show 0 + _ ≤ 1
      have e1 : [n].length = 1 := rfl
      omega
    · have e : [n].filter (fun d : Nat => decide ((0 + (d : Int)) * (0 + (d : Int)) = r)) = [] := List.filter_eq_nil_iff.mpr fun d hd q => by
        rw [List.mem_singleton.mp hd] at q
        exact h (of_decide_eq_true q)
      rw [e]
      exact filt1 r n
theorem dF_len (r : Int) (c : Nat) : (dF66 r c).length ≤ 1 := filt1 r (c + 1)
theorem blkC_len (v : Int) (a b c : Nat) : (blkC66 v a b c).length ≤ 1 := by unfold blkC66; rw [List.length_map]; exact dF_len _ c
theorem fm_le66 {α β : Type} {f : α → List β} {m : Nat} : ∀ {xs : List α}, (∀ x ∈ xs, (f x).length ≤ m) → (xs.flatMap f).length ≤ xs.length * m
  | [], _ => Nat.zero_le _
  | x :: xs, h => by
    rw [List.flatMap_cons, List.length_append, List.length_cons, Nat.succ_mul]
    have := h x List.mem_cons_self
    have := fm_le66 fun y hy => h y (List.mem_cons_of_mem x hy)
    omega
theorem blkB_len (v : Int) (a b : Nat) : (blkB66 v a b).length ≤ b + 1 := by
  have := fm_le66 (f := blkC66 v a b) (m := 1) (xs := List.range (b + 1)) fun c _ => blkC_len v a b c
  rw [List.length_range] at this
  unfold blkB66
  omega
theorem blkA_len {v : Int} {a : Nat} (ha : a ≤ 17) : (blkA66 v a).length ≤ 324 := by
  have := fm_le66 (f := blkB66 v a) (m := 18) (xs := List.range (a + 1)) fun b hb => by have := blkB_len v a b; have := List.mem_range.mp hb; omega
  rw [List.length_range] at this
  unfold blkA66
  omega
theorem fm_filt {α β : Type} (q : α → Bool) (f : α → β) (xs : List α) : (xs.flatMap fun k => if q k = true then [f k] else []) = (xs.filter q).map f := fm_filter q f xs
/-- ascending -/
def ascB : Nat → Int → Nat → List (List Int)
  | 0, v, _ => if v = 0 then [[]] else []
  | n + 1, v, m => (List.range (m + 1)).flatMap fun i : Nat => (ascB n (v - (i : Int) * i) i).map fun r => (i : Int) :: r
theorem asc_rev : ∀ (n : Nat) (v : Int) (m : Nat), (ascB n v m).reverse = brute n v (m : Int)
  | 0, v, m => by
    unfold ascB brute
    split <;> rfl
  | n + 1, v, m => by
    unfold ascB brute descI
    rw [List.reverse_flatMap, List.flatMap_map, show ((m : Int) + 1).toNat = m + 1 by omega]
    refine fm_congr fun i _ => ?_
    show ((ascB n (v - (i : Int) * i) i).map fun r => (i : Int) :: r).reverse = _
    rw [← List.map_reverse, asc_rev n]
theorem map_nilC {α β : Type} (f : α → β) (b : Prop) [Decidable b] (x : α) : (if b then [x] else []).map f = if b then [f x] else [] := by split <;> rfl
theorem rows_asc (v : Int) : rows66 v = ascB 4 v 17 := by
  unfold rows66
  show _ = (List.range 18).flatMap _
  refine fm_congr fun a _ => ?_
  show blkA66 v a = ((List.range (a + 1)).flatMap _).map _
  rw [List.map_flatMap]
  unfold blkA66
  refine fm_congr fun b _ => ?_
  show blkB66 v a b = (((List.range (b + 1)).flatMap _).map _).map _
  rw [List.map_flatMap, List.map_flatMap]
  unfold blkB66
  refine fm_congr fun c _ => ?_
  show blkC66 v a b c = ((((List.range (c + 1)).flatMap _).map _).map _).map _
  rw [List.map_flatMap, List.map_flatMap, List.map_flatMap]
  unfold blkC66 dF66
  rw [← fm_filt]
  refine fm_congr fun d _ => ?_
  show _ = ((((ascB 0 _ d).map _).map _).map _).map _
  unfold ascB
  rw [map_nilC, map_nilC, map_nilC, map_nilC]
  simp only [Int.zero_add, decide_eq_true_eq]
  by_cases h : (d : Int) * d = v - (a : Int) * a - (b : Int) * b - (c : Int) * c
  · rw [if_pos h, if_pos (by omega)]
  · rw [if_neg h, if_neg (by omega)]
theorem all_rows {v : Int} (h0 : 0 ≤ v) (h1 : v ≤ 300) : (rows66 v).reverse = allF 4 v (rootI v) := by
  rw [rows_asc, asc_rev, show brute 4 v ((17 : Nat) : Int) = allF 4 v ((17 : Nat) : Int) from (all_brute 3 v ((17 : Nat) : Int) h0 (by omega) (by decide)).symm]
  obtain ⟨r0, r1, r2⟩ := root_le h0 (by omega)
  have hr : rootI v ≤ 17 := by
    rcases (show 17 < rootI v ∨ rootI v ≤ 17 by omega) with h | h
    · have := sq_mono (show (0 : Int) ≤ 18 by decide) (show (18 : Int) ≤ rootI v by omega)
      omega
    · exact h
  have e : mostF v ((17 : Nat) : Int) = mostF v (rootI v) := by
    unfold mostF
    rw [if_neg (show ¬ rootI v < rootI v by omega)]
    rw [if_neg (show ¬ (((17 : Nat) : Int)) < rootI v by show ¬ (17 : Int) < rootI v; omega)]
  show (firstsF v ((17 : Nat) : Int) _).flatMap _ = (firstsF v (rootI v) _).flatMap _
  unfold firstsF
  rw [e]
/-- what is asked -/
def R_asq (c q : Addr) : List D → Out → Prop := fun ds o => ∃ v l : Int, ds = [.int v, .int l] ∧ l.natAbs.log2 < 1920 ∧ ((¬ (0 ≤ v ∧ v ≤ 10000) ∧ o = .x q) ∨ (0 ≤ v ∧ v ≤ 300 ∧ ((allF 4 v (rootI v)).length : Int) ≤ l ∧ o = .o ((allF 4 v (rootI v)).map ti)) ∨ (0 ≤ v ∧ v ≤ 300 ∧ l < ((allF 4 v (rootI v)).length : Int) ∧ o = .xf c "limit" (.int l)))
def R_all66 : List D → Out → Prop := fun ds o => ∃ v : Int, ds = [.int v] ∧ 0 ≤ v ∧ v ≤ 300 ∧ o = .o ((allF 4 v (rootI v)).map ti)
def told66 (v l : Int) : D := if ¬ (0 ≤ v ∧ v ≤ 10000) then .str "question" else if l < ((allF 4 v (rootI v)).length : Int) then .str "many" else .list ((allF 4 v (rootI v)).map ti)
def R_told66 : List D → Out → Prop := fun ds o => ∃ v l : Int, ds = [.int v, .int l] ∧ l.natAbs.log2 < 1920 ∧ (0 ≤ v → v ≤ 10000 → v ≤ 300) ∧ o = .v (told66 v l)
end TB

namespace TB
open PySem L2 PySem.Spec PyProof.Rows
/-! ### isinstance(e, C) of an error with a field -/
def rIsED (K : PySem.W.Frag) (D a dd : Addr) : List V → Hp → VK → Prop := fun xs H Q => ∃ (c : V) (cv : Value) (b : Bool) (fs : List (Str × V)), xs = [.ref a, c] ∧ (∀ u, RelV c u → u = cv) ∧ PySem.W.kitOne K (.ref D) cv = some b ∧ H dd = some (.xd fs) ∧ Q (.bl b) H
theorem call_isED {X : Cx} {a D dd : Addr} {oe : Obj} {pn : List (Addr × Obj)} (C : ExcC X.K D) (hz : Zc (.ref D) (some dd) oe) (hf : ∃ vs, oe.data = .fields vs) : CallR (X.suite a ((a, oe) :: pn)) (.builtin "isinstance") (rIsED X.K D a dd) := by
  intro pins s σ H xs us Q I r ⟨c, cv, b, fs, ex, hcv, hk, hxd, q⟩
  subst ex
  cases r with
  | cons r1 r2 =>
    cases r2 with
    | cons r3 r4 =>
      cases r4
      cases r1
      have ec := hcv _ r3
      subst ec
      have at_ := (I.pin (a, oe) (List.mem_append_left _ List.mem_cons_self)).1
      obtain ⟨vs, hv⟩ := hf
      obtain ⟨mA, hns, _⟩ : ObjOk X.prog X.w H s.heap dd (.xd fs) := I.hok dd _ hxd
      obtain ⟨od, ho, _⟩ := lookIn_ns hns
      have J : PySem.W.InstAt s.heap a oe D (some od) := ⟨at_, hz.1, by unfold PySem.W.notCls; rw [hv] <;> rfl, by rw [hz.2]; exact ho⟩
      have hcl : (PySem.W.clsIn X.K D).isSome = true := by
        obtain ⟨cd, h1, _⟩ := PySem.W.any_some C.hd
        rw [h1]
        rfl
      exact PySem.W.kia_one (PySem.W.kitx_exc hcl C.hg C.hk C.hs C.ha C.hn C.ht C.hm) I.kIn J hk (fun z => nomatch z) fun tk => ⟨.bl b, H, I.kept (t' := tk) fun _ _ z => z, rfl, q⟩
section
variable {X : Cx} {W : WX} {F0 H0 : Hp} {Γ : List S} {n : Str} {i : Nat} {np : Pos} {c dd : Addr}
theorem je_isED {a : Addr} {oe : Obj} {pn : List (Addr × Obj)} {cv : Value} {cx : V} {fs : List (Str × V)} {b : Bool} {ipos np2 : Pos} {e2 : Expr} (E0' : ExcC X.K c) (hz : Zc (.ref c) (some dd) oe) (hfl : ∃ vs, oe.data = .fields vs) (hxd : H0 dd = some (.xd fs)) (hm : X.mg "isinstance" = none)
    (g : Γ[i]? = some (.r (.ref a))) (hcv : ∀ u, RelV cx u → u = cv) (hk : PySem.W.kitOne X.K (.ref c) cv = some b) (he2 : PE (X.suite a ((a, oe) :: pn)) e2 (tC cx))
    (hN : X.N[i]? = some n := by rfl) (hv : Vis X.env.scope n := by first | exact Or.inl rfl | exact Or.inr (Or.inl rfl) | exact Or.inr (Or.inr rfl)) (hg : Gl X "isinstance" := by rfl) (hd : (n == ("__debug__" : Str)) = false := by decide) (hcd : (n == ("__classdict__" : Str)) = false := by decide)
    (s2 : starEach [.Name n np, e2] X.env = (false, eval (.Name n np) X.env) :: starEach [e2] X.env := by rfl) (s1 : starEach [e2] X.env = (false, eval e2 X.env) :: starEach [] X.env := by rfl) (hpl : (backTo ipos (starEach [e2] X.env)).any (·.1) = false := by rfl) :
    JE (X.suite a ((a, oe) :: pn)) W F0 H0 Γ (.Call (.Name "isinstance" np2) [.Name n np, e2] [] ipos) (.v (.bool b)) :=
  pe_imp (pe_callB (X := X.suite a ((a, oe) :: pn)) (call_isED E0' hz hfl) hg hm (by decide +kernel) (pa_cons (pe_var (X := X.suite a ((a, oe) :: pn)) hN hv hd hcd) (pa_cons he2 pa_nil s1) s2) (by decide) (by decide) s2 hpl) fun σ H Q ⟨F, ok, q⟩ =>
    ⟨_, ok.raw g, cx, cv, b, fs, rfl, hcv, hk, ok.base.h _ _ hxd, q _ F H (Fz.refl ok.fh) (.bl b)⟩
end
section
variable {X : Cx} {W : WX} {F0 H0 : Hp} {Γ Γ1 : List S} {body su1 su2 : List Stmt} {b1 b2 : Stmt} {n x1 x2 f : Str} {i : Nat} {p1 p2 q1 q2 pos : Pos} {C1 C2 c : Addr} {y xv : D}
/-- two clauses, the first takes an error with a field -/
theorem js_twoF1 (c1 : Names X x1 (.ref C1)) (c2 : Names X x2 (.ref C2)) (tk : L2.Takes X W) (hN : X.N.Nodup) (ex : PySem.W.exmOne X.K (.ref c) (.ref C1) = some true) (hd : Γ1.all dataS = true)
    (hb : ∀ (W' : WX) (pn : List (Addr × Obj)) (xe : Value → Shared → Prop), L2.Takes (X.tr pn xe) W' → PassesOwn (model X.prog X.w) X.A X.env xe → JSs (X.tr pn xe) W' F0 H0 Γ body (.xf c f xv Γ1))
    (hsu : ∀ (a dd : Addr) (v : V) (F1 H1 : Hp) (oe : Obj) (pn : List (Addr × Obj)), Zc (.ref c) (some dd) oe → (∃ vs, oe.data = .fields vs) → H1 dd = some (.xd [(f, v)]) → Dp X.K F1 v xv → JSs (X.suite a ((a, oe) :: pn)) WF F1 H1 (Γ1.set i (.r (.ref a))) (b1 :: su1) (.rt y))
    (hi : X.N[i]? = some n := by rfl) (hs : X.stack = X.env :: X.outer := by rfl) (hf : X.env.frame = some X.env.locals := by rfl) (hln : X.env.kindOf n = some .local := by rfl) :
    JS X W F0 H0 Γ (.Try body [.ExceptHandler (some (.Name x1 p1)) (some n) (b1 :: su1) q1, .ExceptHandler (some (.Name x2 p2)) (some n) (b2 :: su2) q2] [] [] pos) (.rt y) :=
  ps_imp (ps_clauses (i := i) (tb := fun W' => tS X.K W' F0 H0 Γ (.xf c f xv Γ1)) hs hf hN hi hln tk hb (.cons (q := (.ref C1, fun a cls d D' σ H => ∃ (dd : Addr) (v : V) (F1 : Hp), cls = .ref c ∧ d = some dd ∧ H dd = some (.xd [(f, v)]) ∧ Dp X.K F1 v xv ∧ tS X.K WF F1 H (Γ1.set i (.r (.ref a))) (.rt y) D' σ H)) c1 (fun a oe cls d pn hz hfl => ⟨fun pins s σ H D' I ⟨dd, v, F1, e1, e2, e3, e4, t⟩ => by
    subst e1 e2
    exact (hsu a dd v F1 H oe pn hz hfl e3 e4).run pins s σ H D' I t⟩) (.cons (q := (.ref C2, fun _ _ _ => tNever)) c2 (fun _ _ _ _ _ _ _ => pss_never) .nil)))
    fun D' σ H ⟨F, ok, q⟩ => ⟨F, ok, fun d v σ' F' H' e ok' _ hxd hdp => ⟨true, ex, fun _ a _ => ⟨d, v, F', rfl, rfl, hxd, hdp, F', (ok'.rebase hd).setR i _, fun u F2 H2 e2 z dv => q u F2 H2 (e.trans e2) (ok'.base.trans z) dv⟩, fun z => Bool.noConfusion z⟩⟩
end
end TB

namespace TB
open PySem L2 PySem.Spec PyProof.Rows
def wit66 : List (Nat × Nat × Nat × Nat) := [(0, 0, 0, 0), (1, 0, 0, 0), (1, 1, 0, 0), (1, 1, 1, 0), (1, 1, 1, 1), (2, 1, 0, 0), (2, 1, 1, 0), (2, 1, 1, 1), (2, 2, 0, 0), (2, 2, 1, 0), (2, 2, 1, 1), (3, 1, 1, 0), (2, 2, 2, 0), (2, 2, 2, 1), (3, 2, 1, 0), (3, 2, 1, 1), (2, 2, 2, 2), (3, 2, 2, 0), (3, 2, 2, 1), (3, 3, 1, 0), (3, 3, 1, 1), (3, 2, 2, 2), (3, 3, 2, 0), (3, 3, 2, 1), (4, 2, 2, 0), (4, 2, 2, 1), (3, 3, 2, 2), (3, 3, 3, 0), (3, 3, 3, 1), (4, 3, 2, 0), (4, 3, 2, 1), (3, 3, 3, 2), (4, 4, 0, 0), (4, 3, 2, 2), (4, 3, 3, 0), (4, 3, 3, 1), (3, 3, 3, 3), (4, 4, 2, 1), (4, 3, 3, 2), (5, 3, 2, 1), (4, 4, 2, 2), (4, 4, 3, 0), (4, 4, 3, 1), (4, 3, 3, 3), (5, 3, 3, 1), (4, 4, 3, 2), (5, 4, 2, 1), (5, 3, 3, 2), (4, 4, 4, 0), (4, 4, 4, 1), (4, 4, 3, 3), (5, 4, 3, 1), (4, 4, 4, 2), (6, 3, 2, 2), (5, 4, 3, 2), (5, 5, 2, 1), (6, 4, 2, 0), (4, 4, 4, 3), (5, 4, 4, 1), (5, 4, 3, 3), (5, 5, 3, 1), (5, 4, 4, 2), (6, 4, 3, 1), (5, 5, 3, 2), (4, 4, 4, 4), (6, 4, 3, 2), (5, 4, 4, 3), (5, 5, 4, 1), (5, 5, 3, 3), (6, 4, 4, 1), (5, 5, 4, 2), (6, 5, 3, 1), (6, 4, 4, 2), (5, 4, 4, 4), (6, 5, 3, 2), (5, 5, 4, 3), (5, 5, 5, 1), (6, 4, 4, 3), (6, 5, 4, 1), (5, 5, 5, 2), (6, 6, 2, 2), (6, 5, 4, 2), (5, 5, 4, 4), (7, 4, 3, 3), (5, 5, 5, 3), (6, 6, 3, 2), (6, 5, 4, 3), (6, 5, 5, 1), (6, 6, 4, 0), (6, 6, 4, 1), (6, 5, 5, 2), (5, 5, 5, 4), (6, 6, 4, 2), (6, 5, 4, 4), (7, 5, 4, 2), (6, 5, 5, 3), (8, 4, 4, 0), (6, 6, 4, 3), (6, 6, 5, 1), (7, 5, 4, 3), (5, 5, 5, 5), (6, 6, 5, 2), (6, 5, 5, 4), (7, 5, 5, 2), (6, 6, 4, 4), (7, 6, 4, 2), (6, 6, 5, 3), (7, 7, 3, 0), (6, 6, 6, 0), (6, 6, 6, 1), (7, 6, 4, 3), (6, 5, 5, 5), (6, 6, 6, 2), (6, 6, 5, 4), (7, 6, 5, 2), (7, 5, 5, 4), (7, 7, 3, 3), (6, 6, 6, 3), (7, 7, 4, 2), (7, 6, 5, 3), (8, 6, 4, 2), (7, 6, 6, 0), (6, 6, 5, 5), (7, 7, 4, 3), (6, 6, 6, 4), (7, 6, 6, 2), (7, 6, 5, 4), (7, 7, 5, 2), (8, 8, 0, 0), (8, 6, 5, 2), (7, 6, 6, 3), (8, 7, 3, 3), (7, 7, 5, 3), (6, 6, 6, 5), (7, 7, 6, 0), (7, 6, 5, 5), (8, 6, 6, 0), (7, 6, 6, 4), (7, 7, 6, 2), (7, 7, 5, 4), (8, 6, 6, 2), (8, 6, 5, 4), (8, 7, 5, 2), (7, 7, 6, 3), (6, 6, 6, 6), (8, 6, 6, 3), (7, 6, 6, 5), (7, 7, 7, 0), (7, 7, 5, 5), (8, 7, 6, 0), (7, 7, 6, 4), (7, 7, 7, 2), (8, 6, 6, 4), (8, 7, 6, 2), (8, 7, 5, 4), (9, 7, 4, 3), (7, 7, 7, 3), (7, 6, 6, 6), (8, 7, 6, 3), (7, 7, 6, 5), (8, 8, 4, 4), (8, 6, 6, 5), (8, 7, 7, 0), (7, 7, 7, 4), (8, 8, 6, 0), (8, 7, 6, 4), (8, 7, 7, 2), (9, 6, 5, 5), (8, 8, 6, 2), (8, 8, 5, 4), (7, 7, 6, 6), (8, 7, 7, 3), (7, 7, 7, 5), (8, 8, 6, 3), (8, 7, 6, 5), (9, 7, 6, 3), (10, 6, 6, 2), (8, 8, 7, 0), (8, 7, 7, 4), (9, 7, 7, 0), (8, 8, 6, 4), (8, 8, 7, 2), (9, 7, 6, 4), (7, 7, 7, 6), (10, 8, 4, 2), (8, 7, 6, 6), (8, 8, 7, 3), (8, 7, 7, 5), (9, 7, 7, 3), (8, 8, 6, 5), (9, 8, 6, 3), (9, 7, 6, 5), (8, 8, 8, 0), (8, 8, 7, 4), (9, 8, 7, 0), (9, 7, 7, 4), (7, 7, 7, 7), (9, 8, 6, 4), (8, 7, 7, 6), (9, 9, 6, 1), (8, 8, 6, 6), (8, 8, 8, 3), (8, 8, 7, 5), (9, 8, 7, 3), (9, 7, 7, 5), (10, 8, 5, 4), (9, 8, 6, 5), (9, 9, 6, 3), (8, 8, 8, 4), (9, 8, 8, 0), (9, 8, 7, 4), (8, 7, 7, 7), (9, 9, 5, 5), (8, 8, 7, 6), (9, 9, 6, 4), (9, 7, 7, 6), (10, 8, 6, 4), (8, 8, 8, 5), (9, 8, 8, 3), (9, 8, 7, 5), (9, 9, 7, 3), (10, 7, 6, 6), (10, 8, 7, 3), (9, 9, 6, 5), (12, 8, 4, 0), (9, 8, 8, 4), (8, 8, 7, 7), (9, 9, 7, 4), (8, 8, 8, 6), (10, 8, 7, 4), (9, 8, 7, 6), (10, 9, 5, 5), (10, 8, 8, 2), (10, 9, 6, 4), (9, 8, 8, 5), (9, 9, 8, 3), (9, 9, 7, 5), (10, 8, 8, 3), (10, 8, 7, 5), (10, 9, 7, 3), (10, 10, 6, 2), (8, 8, 8, 7), (9, 9, 8, 4), (9, 8, 7, 7), (9, 9, 9, 1), (9, 8, 8, 6), (10, 9, 7, 4), (9, 9, 7, 6), (12, 8, 6, 2), (10, 8, 7, 6), (10, 10, 5, 5), (9, 9, 8, 5), (9, 9, 9, 3), (10, 8, 8, 5), (10, 9, 8, 3), (10, 9, 7, 5), (8, 8, 8, 8), (11, 8, 6, 6), (9, 8, 8, 7), (9, 9, 9, 4), (9, 9, 7, 7), (10, 9, 8, 4), (9, 9, 8, 6), (10, 9, 9, 1), (10, 8, 8, 6), (10, 10, 7, 4), (10, 9, 7, 6), (11, 9, 7, 4), (9, 9, 9, 5), (12, 8, 6, 5), (10, 9, 8, 5), (10, 9, 9, 3), (10, 10, 6, 6), (9, 8, 8, 8), (10, 10, 7, 5), (9, 9, 8, 7), (11, 9, 7, 5), (10, 8, 8, 7), (10, 9, 9, 4), (9, 9, 9, 6), (10, 10, 8, 4), (10, 9, 8, 6), (10, 10, 9, 1), (11, 8, 7, 7), (11, 9, 9, 1), (10, 10, 7, 6), (11, 10, 7, 4), (10, 9, 9, 5), (12, 8, 8, 4), (10, 10, 8, 5), (9, 9, 8, 8), (11, 9, 8, 5), (9, 9, 9, 7), (11, 10, 6, 6), (10, 9, 8, 7), (11, 10, 7, 5), (12, 10, 6, 4), (10, 10, 9, 4), (10, 9, 9, 6), (11, 9, 9, 4), (10, 10, 8, 6)]
theorem wit66_ok : (List.range 301).all (fun v => let w := wit66.getD v (0, 0, 0, 0); decide (w.1 < 18) && decide (w.2.1 ≤ w.1) && decide (w.2.2.1 ≤ w.2.1) && decide (w.2.2.2 ≤ w.2.2.1) && decide (w.1 * w.1 + w.2.1 * w.2.1 + w.2.2.1 * w.2.2.1 + w.2.2.2 * w.2.2.2 = v)) = true := by decide +kernel
theorem rows_ne {v : Int} (h0 : 0 ≤ v) (h1 : v ≤ 300) : (allF 4 v (rootI v)) ≠ [] := by
  rw [← all_rows h0 h1]
  have h := List.all_eq_true.mp wit66_ok v.toNat (List.mem_range.mpr (by omega))
  simp only [Bool.and_eq_true, decide_eq_true_eq] at h
  obtain ⟨⟨⟨⟨h2, h3⟩, h4⟩, h5⟩, h6⟩ := h
  generalize wit66.getD v.toNat (0, 0, 0, 0) = w at h2 h3 h4 h5 h6
  obtain ⟨a, b, c, d⟩ := w
  intro q
  have q2 : rows66 v = [] := List.reverse_eq_nil_iff.mp q
  have e : ((a * a + b * b + c * c + d * d : Nat) : Int) = v := by have : a * a + b * b + c * c + d * d = v.toNat := h6; omega
  have m : [0 + (a : Int), 0 + (b : Int), 0 + (c : Int), 0 + (d : Int)] ∈ rows66 v := by
    refine List.mem_flatMap.mpr ⟨a, List.mem_range.mpr h2, List.mem_flatMap.mpr ⟨b, List.mem_range.mpr (Nat.lt_succ_of_le h3), List.mem_flatMap.mpr ⟨c, List.mem_range.mpr (Nat.lt_succ_of_le h4), List.mem_map.mpr ⟨d, List.mem_filter.mpr ⟨List.mem_range.mpr (Nat.lt_succ_of_le h5), decide_eq_true ?_⟩, rfl⟩⟩⟩⟩
    rw [Int.natCast_add, Int.natCast_add, Int.natCast_add, Int.natCast_mul, Int.natCast_mul, Int.natCast_mul, Int.natCast_mul] at e
    rw [Int.zero_add, Int.zero_add, Int.zero_add, Int.zero_add]
    omega
  rw [q2] at m
  cases m
theorem zero66 : (allF 4 0 (rootI 0)).map ti = [ti [0, 0, 0, 0]] := congrArg (List.map ti) (show allF 4 0 (rootI 0) = [[0, 0, 0, 0]] by decide +kernel)
end TB
namespace TB
open PySem L2 PySem.Spec PyProof.Rows
theorem fm_sum {α β : Type} {f : α → List β} {g : α → Nat} : ∀ {xs : List α}, (∀ x ∈ xs, (f x).length ≤ g x) → (xs.flatMap f).length ≤ (xs.map g).sum
  | [], _ => Nat.zero_le _
  | x :: xs, h => by
    rw [List.flatMap_cons, List.length_append, List.map_cons, List.sum_cons]
    have := h x List.mem_cons_self
    have := fm_sum fun y hy => h y (List.mem_cons_of_mem x hy)
    omega
theorem len66 {v : Int} (h0 : 0 ≤ v) (h1 : v ≤ 300) : ((allF 4 v (rootI v)).length : Int) ≤ 2000 := by
  rw [← all_rows h0 h1, List.length_reverse]
  have h : (rows66 v).length ≤ ((List.range 18).map fun a => ((List.range (a + 1)).map fun b => b + 1).sum).sum := fm_sum fun a _ => fm_sum fun b _ => blkB_len v a b
  have e : ((List.range 18).map fun a => ((List.range (a + 1)).map fun b => b + 1).sum).sum = 1140 := by decide
  omega
end TB
namespace TB
theorem log66 {q : Int} (h0 : -1 ≤ q) (h1 : q ≤ 2000) : q.natAbs.log2 < 1920 := by
  have h : q.natAbs ≤ 2000 := by omega
  by_cases hz : q.natAbs = 0
  · rw [hz]; decide
  · exact (Nat.log2_lt hz).mpr (Nat.lt_of_le_of_lt h (Nat.lt_of_lt_of_le (show 2000 < 2 ^ 11 by decide) (Nat.pow_le_pow_right (by decide) (by decide))))
end TB

namespace KK
open PySem L2 TB
def topS (i : Nat) : Stmt := PySem.Challenge.pw_turnprimes_k66_all_squares.main.body.getD i (.Pass ⟨0, 0, 0, 0⟩)
abbrev s_all_squares : Stmt := topS 7
abbrev N_all_squares : List Str := ["value", "limit", "found"]
theorem sc_all_squares : FnScope N_all_squares ["value", "limit"] (defScope s_all_squares) := ⟨rfl, rfl, rfl, by decide +kernel, rfl, by decide +kernel, by decide +kernel⟩
abbrev s_p_check_bounds : Stmt := topS 8
abbrev N_p_check_bounds : List Str := ["value", "most"]
theorem sc_p_check_bounds : FnScope N_p_check_bounds ["value", "most"] (defScope s_p_check_bounds) := ⟨rfl, rfl, rfl, by decide +kernel, rfl, by decide +kernel, by decide +kernel⟩
abbrev s_p_all : Stmt := topS 9
abbrev N_p_all : List Str := ["value", "most", "many", "firsts", "first", "rest"]
theorem sc_p_all : FnScope N_p_all ["value", "most", "many"] (defScope s_p_all) := ⟨rfl, rfl, rfl, by decide +kernel, rfl, by decide +kernel, by decide +kernel⟩
abbrev s_p_firsts : Stmt := topS 10
abbrev N_p_firsts : List Str := ["value", "most", "many", "least"]
theorem sc_p_firsts : FnScope N_p_firsts ["value", "most", "many"] (defScope s_p_firsts) := ⟨rfl, rfl, rfl, by decide +kernel, rfl, by decide +kernel, by decide +kernel⟩
abbrev s_law_row : Stmt := topS 12
abbrev N_law_row : List Str := ["cell", "many", "row", "rest", "mixed", "k"]
theorem sc_law_row : FnScope N_law_row ["cell", "many"] (defScope s_law_row) := ⟨rfl, rfl, rfl, by decide +kernel, rfl, by decide +kernel, by decide +kernel⟩
abbrev s_law_numbers : Stmt := topS 13
abbrev N_law_numbers : List Str := ["script", "many", "cells", "each", "numbers", "cell", "number"]
theorem sc_law_numbers : FnScope N_law_numbers ["script", "many"] (defScope s_law_numbers) := ⟨rfl, rfl, rfl, by decide +kernel, rfl, by decide +kernel, by decide +kernel⟩
abbrev s_law_all : Stmt := topS 14
abbrev N_law_all : List Str := ["value", "found", "a", "b", "c", "rest", "d"]
theorem sc_law_all : FnScope N_law_all ["value"] (defScope s_law_all) := ⟨rfl, rfl, rfl, by decide +kernel, rfl, by decide +kernel, by decide +kernel⟩
abbrev s_law_told : Stmt := topS 15
abbrev N_law_told : List Str := ["value", "limit", "e"]
theorem sc_law_told : FnScope N_law_told ["value", "limit"] (defScope s_law_told) := ⟨rfl, rfl, rfl, by decide +kernel, rfl, by decide +kernel, by decide +kernel⟩
abbrev s_law : Stmt := topS 16
abbrev N_law : List Str := ["script", "numbers", "value", "due", "told", "bad"]
theorem sc_law : FnScope N_law ["script"] (defScope s_law) := ⟨rfl, rfl, rfl, by decide +kernel, rfl, by decide +kernel, by decide +kernel⟩
abbrev s_ini_TooMany : Stmt := (clsBody (topS 4)).getD 0 (.Pass ⟨0, 0, 0, 0⟩)
theorem sc_ini_TooMany : FnScope ["self", "limit"] ["self", "limit"] (defScope s_ini_TooMany) := ⟨rfl, rfl, rfl, by decide +kernel, rfl, by decide +kernel, by decide +kernel⟩
/-- what the top has left -/
structure TT (K : PySem.W.Frag) (mg : Str → Option Value) (c_TurnprimesError : Addr) (c_InvalidQuestion : Addr) (c_TooMany : Addr) : Prop where
  z_ValueError : mg "ValueError" = none
  z_abs : mg "abs" = none
  z_int : mg "int" = none
  z_isinstance : mg "isinstance" = none
  z_len : mg "len" = none
  z_list : mg "list" = none
  z_max : mg "max" = none
  z_min : mg "min" = none
  z_range : mg "range" = none
  e_TurnprimesError : ExF K mg "TurnprimesError" c_TurnprimesError
  e_InvalidQuestion : ExF K mg "InvalidQuestion" c_InvalidQuestion
  e_TooMany : IniF K mg "TooMany" c_TooMany "limit" "TooMany.__init__" s_ini_TooMany
  b_TurnprimesError : BasF K mg "TurnprimesError" c_TurnprimesError
  x_TooMany : ExcC K c_TooMany
  m_TooMany_TooMany : PySem.W.exmOne K (.ref c_TooMany) (.ref c_TooMany) = some true
  m_TooMany_InvalidQuestion : PySem.W.exmOne K (.ref c_TooMany) (.ref c_InvalidQuestion) = some false
  k_TooMany_TurnprimesError : PySem.W.kitOne K (.ref c_TooMany) (.ref c_TurnprimesError) = some true
  k_TooMany_ValueError : PySem.W.kitOne K (.ref c_TooMany) (.type "ValueError") = some true
  x_InvalidQuestion : ExcC K c_InvalidQuestion
  m_InvalidQuestion_TooMany : PySem.W.exmOne K (.ref c_InvalidQuestion) (.ref c_TooMany) = some false
  m_InvalidQuestion_InvalidQuestion : PySem.W.exmOne K (.ref c_InvalidQuestion) (.ref c_InvalidQuestion) = some true
  k_InvalidQuestion_TurnprimesError : PySem.W.kitOne K (.ref c_InvalidQuestion) (.ref c_TurnprimesError) = some true
  k_InvalidQuestion_ValueError : PySem.W.kitOne K (.ref c_InvalidQuestion) (.type "ValueError") = some true
  i_isqrt : mg "isqrt" = some (.builtin "math.isqrt")
  gi__MOST_ALL : ∃ t, mg "_MOST_ALL" = some (.int 10000 t)
  fn_all_squares : FnAtK K mg "all_squares" s_all_squares ["value", "limit"] "limit" 2000
  fn_p_check_bounds : FnAt K mg "_check_bounds" s_p_check_bounds ["value", "most"]
  fn_p_all : FnAt K mg "_all" s_p_all ["value", "most", "many"]
  fn_p_firsts : FnAt K mg "_firsts" s_p_firsts ["value", "most", "many"]
  fn_law_row : FnAt K mg "_law_row" s_law_row ["cell", "many"]
  fn_law_numbers : FnAt K mg "_law_numbers" s_law_numbers ["script", "many"]
  fn_law_all : FnAt K mg "_law_all" s_law_all ["value"]
  fn_law_told : FnAt K mg "_law_told" s_law_told ["value", "limit"]
section
variable {P : Program} {w : World} {K : PySem.W.Frag} {mg : Str → Option Value} {base : Heap} {c_TurnprimesError c_InvalidQuestion c_TooMany : Addr} (T : TT K mg c_TurnprimesError c_InvalidQuestion c_TooMany)
include T

def R_law_row : List D → Out → Prop := fun ds o => ∃ (c : Int) (m : Nat), ds = [.int c, .int m] ∧ m < 1000 ∧ o = .o ((lawRow c m).map .int)
theorem c_law_row : Cal P w K mg base 1 "_law_row" ["cell", "many"] R_law_row := by
  refine cal_mk T.fn_law_row sc_law_row (fun ds o ⟨c, m, h, _⟩ => by subst h; rfl) fun f cdv A outer s H E F ds o hr tk pn ⟨c, m, hd, hm, ho⟩ => ?_
  subst hd ho
  refine ⟨.rto ((lawRow c m).map .int), ?_, rfl⟩
  refine jss_cons (js_setO 2 sc_law_row.nd (je_lst ja_nil)) ?_
  refine jss_cons (js_set 3 sc_law_row.nd (je_abs T.z_abs (je_var 0 rfl))) ?_
  refine jss_cons (js_set 4 sc_law_row.nd (je_mod (by decide) (je_intI T.z_int (je_add (je_mul (.inr ⟨by decide, by decide⟩) (je_var 3 rfl) je_int) je_int)) je_int)) ?_
  have em : ((m : Int)).toNat = m := Int.toNat_natCast m
  refine jss_cons (js_is (js_forAll (fun k => [.d (.int c), .d (.int m), .own (((List.range k).map (rowV c)).map .int), .d (.int (restS c k)), .d (.int (mixS c k)), .u])
    (fun k => [.d (.int c), .d (.int m), .own (((List.range k).map (rowV c)).map .int), .d (.int (restS c k)), .d (.int (mixS c k)), .d (.int (0 + (k : Nat)))])
    pn rfl (ji_range1 T.z_range (by omega) (by omega) (je_var 1 rfl)) (jg_name 5 sc_law_row.nd) (.keep (.keep (.keep (.keep (.keep (.drop .nil)))))) (fun k d e => by
      obtain ⟨_, rfl⟩ := rngD_get e
      rfl) fun k d e => ?_) rfl) ?_
  · obtain ⟨hk, _⟩ := rngD_get e
    rw [em] at hk
    refine jss_cons (js_set 4 sc_law_row.nd (je_mod (by decide) (je_intI T.z_int (je_add (je_mul (.inr ⟨by decide, by decide⟩) (je_var 4 rfl) je_int) (je_mul (.inl ⟨by decide, by decide⟩) je_int (je_add (je_var 5 rfl) je_int)))) je_int)) ?_
    refine jss_one (js_if (jt_ge (je_abs T.z_abs (je_var 0 rfl)) (je_pow ⟨by decide, by decide, by decide⟩ je_int je_int)) (fun hb => ?_) fun hb => ?_)
    · have hb' : bigC c = true := hb
      have e1 : rowV c k = restS c k % 1009 := by unfold rowV; rw [if_pos hb']
      have e2 : restS c (k + 1) = restS c k / 1009 := by show (if bigC c = true then _ else _) = _; rw [if_pos hb']
      refine jss_cons (js_append 2 rfl (by simp; omega) (je_mod (by decide) (je_intI T.z_int (je_var 3 rfl)) je_int)) ?_
      refine jss_nx (jss_one (js_set 3 sc_law_row.nd (je_fdiv ⟨by decide, by decide⟩ (je_var 3 rfl) je_int))) ?_
      rw [List.range_succ, List.map_append, List.map_append, ← e1, ← e2]
      exact .keep (.keep (.keep (.keep (.keep (.drop .nil)))))
    · have hb' : ¬ bigC c = true := by have h2 : bigC c = false := hb; rw [h2]; exact Bool.false_ne_true
      have e1 : rowV c k = mixS c (k + 1) / 7 % 1009 := by unfold rowV; rw [if_neg hb']
      have e2 : restS c (k + 1) = restS c k := by show (if bigC c = true then _ else _) = _; rw [if_neg hb']
      refine jss_nx (jss_one (js_append 2 rfl (by simp; omega) (je_mod (by decide) (je_intI T.z_int (je_fdiv ⟨by decide, by decide⟩ (je_var 4 rfl) je_int)) je_int))) ?_
      rw [List.range_succ, List.map_append, List.map_append, e2]
      have e3 : rowV c k = (mixS c k * 16807 + 271 * (0 + (k : Nat) + 3)) % 2147483629 / 7 % 1009 := e1
      show Le [_, _, S.own (_ ++ [PyData.int ((mixS c k * 16807 + 271 * (0 + (k : Nat) + 3)) % 2147483629 / 7 % 1009)]), _, _, _] _
      rw [← e3]
      exact .keep (.keep (.keep (.keep (.keep (.drop .nil)))))
  · rw [rngD_len, em]
    exact jss_one (js_retOwn 2 rfl)

def R_law_numbers : List D → Out → Prop := fun ds o => ∃ (cs : List Int) (m : Nat), ds = [li cs, .int m] ∧ cs.length ≤ 63 ∧ m ≤ 800 ∧ o = .v (li (lawNums cs m))
theorem c_law_numbers : Cal P w K mg base 2 "_law_numbers" ["script", "many"] R_law_numbers := by
  have CR : Cal P w K mg base 1 "_law_row" ["cell", "many"] R_law_row := c_law_row T
  refine cal_mk T.fn_law_numbers sc_law_numbers (fun ds o ⟨c, m, h, _⟩ => by subst h; rfl) fun f cdv A outer s H E F ds o hr tk pn ⟨cs, m, hd, hcs, hm, ho⟩ => ?_
  subst hd ho
  let ech : Nat := 1 + m / (max 1 cs.length)
  have hech : ech ≤ 801 := by
    have := Nat.div_le_self m (max 1 cs.length)
    show 1 + _ ≤ _
    omega
  let row : Int → List Int := fun c => lawRow c ech
  have hrow : ∀ c, (row c).length = ech := fun c => by show (lawRow c ech).length = ech; unfold lawRow; simp
  let flat : Nat → List Int := fun k => (cs.take k).flatMap row
  have hflat : ∀ k, (flat k).length ≤ k * ech := fun k => by
    show ((cs.take k).flatMap row).length ≤ _
    rw [List.length_flatMap]
    have : ∀ l : List Int, (l.map fun c => (row c).length).sum = l.length * ech := fun l => by
      induction l with
      | nil => simp
      | cons x l ih => rw [List.map_cons, List.sum_cons, ih, hrow, List.length_cons, Nat.succ_mul]; omega
    rw [this, List.length_take]
    exact Nat.mul_le_mul_right _ (Nat.min_le_left _ _)
  refine ⟨.rto ((lawNums cs m).map .int), ?_, rfl⟩
  -- cells = script[:63]
  have e0 : cutD (cs.map PyData.int) none (some 63) = cs.map .int := by
    unfold cutD
    have h1 : HT.sIx (cs.map PyData.int).length 0 none = 0 := rfl
    rw [h1, List.drop_zero, Nat.sub_zero]
    refine List.take_of_length_le ?_
    rw [List.length_map]
    show cs.length ≤ HT.sIx cs.length cs.length (some 63)
    unfold HT.sIx
    simp
    omega
  refine jss_cons (js_setO 2 sc_law_numbers.nd (je_slL (je_var 0 rfl) jo_none (jo_some je_int))) ?_
  refine jss_frz 2 rfl ?_
  -- each = 1 + many // max(1, len(cells))
  have e1 : (1 : Int) + (m : Int) / (if ((cs.map PyData.int).length : Int) > 1 then ((cs.map PyData.int).length : Int) else 1) = (ech : Int) := by
    rw [List.length_map]
    show _ = (((1 + m / (max 1 cs.length) : Nat)) : Int)
    have e2 : (if (cs.length : Int) > 1 then (cs.length : Int) else 1) = ((max 1 cs.length : Nat) : Int) := by split <;> omega
    rw [e2]
    omega
  refine jss_cons (js_set 3 sc_law_numbers.nd (je_is (je_add je_int (je_fdiv (j := (if ((cs.map PyData.int).length : Int) > 1 then ((cs.map PyData.int).length : Int) else 1)) (by rw [List.length_map]; constructor <;> (split <;> omega)) (je_var 1 rfl) (je_max2 rfl T.z_max je_int (je_lenL T.z_len (je_is (je_var 2 rfl) (by rw [e0])))))) (by rw [e1]))) ?_
  refine jss_cons (js_setO 4 sc_law_numbers.nd (je_lst ja_nil)) ?_
  -- for cell in cells: for number in _law_row(cell, each): numbers.append(number)
  refine jss_cons (js_is (js_forAll (fun k => [.d (li cs), .d (.int m), .d (li cs), .d (.int ech), .own ((flat k).map .int), .u, .u])
    (fun k => [.d (li cs), .d (.int m), .d (li cs), .d (.int ech), .own ((flat k).map .int), .d (((cs.map PyData.int)[k]?).getD .none), .u])
    pn rfl (ji_list (je_is (je_var 2 rfl) (by rw [e0]))) (jg_name 5 sc_law_numbers.nd) ?_ (fun k d e => by rw [e]; rfl) fun k d e => ?_) rfl) ?_
  · show Le ([.d (li cs), .d (.int m), .d (.list (cutD (cs.map PyData.int) none (some 63))), .d (.int ech), .own [], .u, .u]) _
    rw [e0]
    exact .keep (.keep (.keep (.keep (.keep (.keep (.keep .nil))))))
  · rw [e]
    have hk := (List.getElem?_eq_some_iff.mp e).1
    rw [List.length_map] at hk
    obtain ⟨c, hc, hdc⟩ : ∃ c, cs[k]? = some c ∧ PyData.int c = d := by
      rw [List.getElem?_map, List.getElem?_eq_getElem hk] at e
      exact ⟨cs[k], List.getElem?_eq_getElem hk, Option.some.inj e⟩
    subst hdc
    have hfk := hflat k
    have hbnd : k * ech ≤ 62 * 801 := Nat.mul_le_mul (by omega) hech
    refine jss_nx (jss_one (js_forAll (fun j => [.d (li cs), .d (.int m), .d (li cs), .d (.int ech), .own ((flat k ++ (row c).take j).map .int), .d (.int c), .u])
      (fun j => [.d (li cs), .d (.int m), .d (li cs), .d (.int ech), .own ((flat k ++ (row c).take j).map .int), .d (.int c), .d ((((row c).map PyData.int)[j]?).getD .none)])
      pn rfl (ji_list (je_o2v (je_callC CR ⟨c, ech, rfl, by omega, rfl⟩ (hr.mono (by decide)) takes0 (ja_cons (je_var 5 rfl) (ja_cons (je_var 3 rfl) ja_nil))))) (jg_name 6 sc_law_numbers.nd) ?_ (fun j d e => by rw [e]; rfl) fun j d e => ?_)) ?_
    · show Le ([_, _, _, _, .own ((flat k).map .int), _, _]) ([_, _, _, _, .own ((flat k ++ (row c).take 0).map .int), _, _])
      rw [List.take_zero, List.append_nil]
      exact .keep (.keep (.keep (.keep (.keep (.keep (.keep .nil))))))
    · have e' : ((row c).map PyData.int)[j]? = some d := e
      rw [e']
      have hj := (List.getElem?_eq_some_iff.mp e').1
      rw [List.length_map, hrow] at hj
      have ht : (row c).take (j + 1) = (row c).take j ++ [(row c)[j]'(by rw [hrow]; exact hj)] := by rw [List.take_succ, List.getElem?_eq_getElem (by rw [hrow]; exact hj)]; rfl
      have hd : d = .int ((row c)[j]'(by rw [hrow]; exact hj)) := by
        rw [List.getElem?_map, List.getElem?_eq_getElem (by rw [hrow]; exact hj)] at e'
        exact (Option.some.inj e').symm
      subst hd
      refine jss_nx (jss_one (js_append 4 rfl ?_ (je_var 6 rfl))) ?_
      · rw [List.length_map, List.length_append, List.length_take, hrow]
        omega
      · show Le [_, _, _, _, .own ((flat k ++ (row c).take j).map .int ++ [PyData.int _]), _, _] [_, _, _, _, .own ((flat k ++ (row c).take (j + 1)).map .int), _, _]
        rw [ht, ← List.append_assoc, List.map_append (l₂ := [_])]
        exact .keep (.keep (.keep (.keep (.keep (.keep (.drop .nil))))))
    · have hl : ((lawRow c ech).map PyData.int).length = (row c).length := by rw [List.length_map]
      show Le [_, _, _, _, .own ((flat k ++ (row c).take ((lawRow c ech).map PyData.int).length).map .int), _, _] [_, _, _, _, .own ((flat (k + 1)).map .int), _, _]
      have hf : flat (k + 1) = flat k ++ row c := by
        show (cs.take (k + 1)).flatMap row = (cs.take k).flatMap row ++ row c
        rw [List.take_succ, hc, List.flatMap_append]
        simp
      rw [hl, List.take_length, hf]
      exact .keep (.keep (.keep (.keep (.keep (.drop (.keep .nil))))))
  -- while len(numbers) < many: numbers.append(0)
  have hlen : (cs.map PyData.int).length = cs.length := List.length_map ..
  rw [hlen]
  have hfl := hflat cs.length
  have hb2 : cs.length * ech ≤ 63 * 801 := Nat.mul_le_mul hcs hech
  refine jss_cons (js_while (fun k => [.d (li cs), .d (.int m), .d (li cs), .d (.int ech), .own ((flat cs.length ++ List.replicate k 0).map .int), .u, .u]) (m - (flat cs.length).length) pn ?_ (fun k hk => ?_) (fun k hk => ?_) ?_) ?_
  · show Le _ [_, _, _, _, .own ((flat cs.length ++ List.replicate 0 0).map .int), _, _]
    rw [List.replicate_zero, List.append_nil]
    exact Le.refl _
  · refine jt_is (jt_lt (je_own_len 4 rfl T.z_len) (je_var 1 rfl)) (decide_eq_true ?_)
    simp
    omega
  · refine jss_nx (jss_one (js_append 4 rfl ?_ je_int)) ?_
    · simp
      omega
    · show Le [_, _, _, _, .own ((flat cs.length ++ List.replicate k 0).map .int ++ [PyData.int 0]), _, _] [_, _, _, _, .own ((flat cs.length ++ List.replicate (k + 1) 0).map .int), _, _]
      rw [List.replicate_succ', ← List.append_assoc, List.map_append (l₂ := [_])]
      exact Le.refl _
  · refine jt_is (jt_lt (je_own_len 4 rfl T.z_len) (je_var 1 rfl)) (decide_eq_false ?_)
    simp
    omega
  refine jss_is (jss_one (js_retO (je_own_sl 4 rfl jo_none (jo_some (je_var 1 rfl))))) ?_
  have hcut : ∀ l : List Int, m ≤ l.length → cutD (l.map PyData.int) none (some (m : Int)) = (l.take m).map .int := fun l hl => by
    unfold cutD
    have h1 : HT.sIx (l.map PyData.int).length 0 none = 0 := rfl
    rw [h1, List.drop_zero, Nat.sub_zero, ← List.map_take]
    congr 1
    congr 1
    rw [List.length_map]
    unfold HT.sIx
    simp
    split <;> omega
  rw [hcut _ (by simp; omega)]
  have hfin : (flat cs.length ++ List.replicate (m - (flat cs.length).length) 0).take m = lawNums cs m := by
    show _ = ((cs.flatMap row) ++ List.replicate m 0).take m
    have hf : flat cs.length = cs.flatMap row := by show (cs.take cs.length).flatMap row = _; rw [List.take_length]
    rw [hf, List.take_append, List.take_append, List.take_replicate, List.take_replicate]
    congr 2
    omega
  rw [hfin]

def R_firsts : List D → Out → Prop := fun ds o => ∃ v m k : Int, ds = [.int v, .int m, .int k] ∧ 0 ≤ v ∧ v ≤ 10001 ∧ 0 ≤ m ∧ m ≤ 10001 ∧ 1 ≤ k ∧ k ≤ 4 ∧ o = .o ((firstsF v m k).map .int)
theorem cp_firsts : Cal P w K mg base 1 "_firsts" ["value", "most", "many"] R_firsts := by
  refine cal_mk T.fn_p_firsts sc_p_firsts (fun ds o ⟨v, m, k, h, _⟩ => by subst h; rfl) fun f cdv A outer s H E F ds o hr tk pn ⟨v, m, k, hd, h0, h1, hm, hm1, hk, hk4, ho⟩ => ?_
  subst hd ho
  have e0 := Int.ediv_nonneg h0 (show 0 ≤ k by omega)
  have e1 := Int.ediv_le_self k h0
  obtain ⟨r1, r2, r3⟩ := root_le h0 h1
  obtain ⟨q1, q2, q3⟩ := root_le e0 (by omega)
  obtain ⟨l1, l2⟩ := leastF_nn h0 h1 hk
  have hmo : 0 ≤ mostF v m ∧ mostF v m ≤ rootI v := by unfold mostF; split <;> omega
  refine ⟨.rto ((firstsF v m k).map .int), ?_, rfl⟩
  refine jss_cons (js_is (js_set 3 sc_p_firsts.nd (je_isqrt e0 (by omega) T.i_isqrt (je_fdiv ⟨by omega, by omega⟩ (je_var 0 rfl) (je_var 2 rfl)))) (show _ = SO.nx [.d (.int v), .d (.int m), .d (.int k), .d (.int (rootI (v / k)))] from rfl)) ?_
  refine jss_cons (js_if (so := SO.nx [.d (.int v), .d (.int m), .d (.int k), .d (.int (leastF v k))]) (jt_lt (je_mulW (cm (a := 20) (b := 3) (by have := Int.mul_le_mul q2 q2 q1 (by decide : (0 : Int) ≤ 101); have := Int.mul_nonneg q1 q1; unfold Bt; omega) (by unfold Bt; omega)) (je_mulW (cm (a := 10) (b := 10) (by unfold Bt; omega) (by unfold Bt; omega)) (je_var 3 rfl) (je_var 3 rfl)) (je_var 2 rfl)) (je_var 0 rfl)) (fun h => ?_) (fun h => ?_)) ?_
  · refine jss_is (jss_one (js_augAdd 3 rfl sc_p_firsts.nd je_int)) ?_
    have : leastF v k = rootI (v / k) + 1 := by unfold leastF; rw [if_pos (of_decide_eq_true h)]
    rw [this]
    rfl
  · refine jss_is jss_nil ?_
    have : leastF v k = rootI (v / k) := by unfold leastF; rw [if_neg (of_decide_eq_false h)]
    rw [this]
  refine jss_is (jss_one (js_retO (je_listDn rfl T.z_list T.z_range (i := mostF v m) (j := leastF v k - 1) ⟨by omega, by omega, by omega, by omega⟩ (by omega) (je_is (je_min2 rfl T.z_min (je_isqrt h0 (by omega) T.i_isqrt (je_var 0 rfl)) (je_var 1 rfl)) rfl) (je_sub (je_var 3 rfl) je_int) (je_is (je_neg je_int) rfl)))) ?_
  unfold firstsF rngC
  rw [List.map_map]
  rfl

def R_all (n : Nat) : List D → Out → Prop := fun ds o => ∃ v m k : Int, ds = [.int v, .int m, .int k] ∧ k = (n : Int) ∧ 0 ≤ v ∧ v ≤ 300 ∧ 0 ≤ m ∧ m ≤ 10001 ∧ o = .o ((allF n v m).map ti)
theorem cp_all : ∀ n : Nat, n ≤ 4 → Cal P w K mg base (n + 2) "_all" ["value", "most", "many"] (R_all n) := fun n => by
  have CF : Cal P w K mg base 1 "_firsts" ["value", "most", "many"] R_firsts := cp_firsts T
  induction n with
  | zero =>
    intro _
    refine cal_mk T.fn_p_all sc_p_all (fun ds o ⟨v, m, k, h, _⟩ => by subst h; rfl) fun f cdv A outer s H E F ds o hr tk pn ⟨v, m, k, hd, hk, h0, h1, hm, hm1, ho⟩ => ?_
    subst hd ho hk
    exact ⟨.rto ((allF 0 v m).map ti), jss_stop (js_ifT (jt_is (jt_eqI (je_var 2 rfl) je_int) (decide_eq_true rfl)) (jss_one (js_retO (je_lst (ja_cons (je_tup ja_nil) ja_nil))))) trivial, rfl⟩
  | succ n ih =>
    intro hn
    have CA := ih (by omega)
    refine cal_mk T.fn_p_all sc_p_all (fun ds o ⟨v, m, k, h, _⟩ => by subst h; rfl) fun f cdv A outer s H E F ds o hr tk pn ⟨v, m, k, hd, hk, h0, h1, hm, hm1, ho⟩ => ?_
    subst hd ho
    have hk1 : 1 ≤ k := by omega
    have hk2 : k - 1 = (n : Int) := by omega
    have hfl := firsts_len (m := m) h0 h1 hk1
    have hmm : ∀ a ∈ firstsF v m k, 0 ≤ a ∧ a ≤ 101 ∧ 0 ≤ v - a * a := fun a ha => firsts_mem h0 (by omega) hk1 ha
    refine ⟨.rto ((allF (n + 1) v m).map ti), ?_, rfl⟩
    refine jss_cons (js_ifF (jt_is (jt_eqI (je_var 2 rfl) je_int) (decide_eq_false (by omega))) jss_nil) ?_
    refine jss_cons (js_setO 3 sc_p_all.nd (je_callC CF ⟨v, m, k, rfl, h0, by omega, hm, hm1, hk1, by omega, rfl⟩ (hr.mono (by omega)) (by first | exact takes0 | exact tk) (ja_cons (je_var 0 rfl) (ja_cons (je_var 1 rfl) (ja_cons (je_var 2 rfl) ja_nil))))) ?_
    refine jss_frz 3 rfl ?_
    refine jss_is (jss_one (js_retO (je_lcB (xs := firstsF v m k) (enc := PyData.int) (ys := fun a => allF n (v - a * a) a) (enc1 := ti) (p := fun _ => true) (p1 := fun _ _ => true) (f2 := fun a r => ti (a :: r)) (own := [("first", 4), ("rest", 5)]) (.one 4) (.one 5) 83521 rfl sc_p_all.nd (ji_list (je_var 3 rfl)) (blkOk_by (N := N_p_all) (sc := defScope s_p_all) (by decide +kernel)) (fun _ _ => trivial) (fun _ _ _ _ => trivial)
      (by
        refine Nat.le_trans (flat_len (m := 17 ^ n) fun a ha => ?_) ?_
        · rw [List.filter_eq_self.mpr fun _ _ => rfl]
          obtain ⟨a0, _, a1⟩ := hmm a (List.mem_filter.mp ha).1
          have := Int.mul_nonneg a0 a0
          exact allF_len n a1 (by omega)
        · rw [List.filter_eq_self.mpr fun _ _ => rfl]
          refine Nat.le_trans (Nat.mul_le_mul hfl (Nat.pow_le_pow_right (by decide) (show n ≤ 3 by omega))) (by decide)) (by decide)
      (fun _ _ _ _ _ => pg_name (i := 4) sc_p_all.nd rfl (Or.inl rfl)) (fun a ha s H C cl fp => jts_nil)
      (fun a ha _ s H C cl fp => by
        obtain ⟨a0, a2, a1⟩ := hmm a ha
        have := Int.mul_nonneg a0 a0
        exact ji_list (je_o2v (je_callC CA ⟨v - a * a, a, k - 1, rfl, hk2, a1, by omega, a0, by omega, rfl⟩ (hr.mono (by omega)) takes0 (ja_cons (je_sub (je_var 0 rfl) (je_mulW (cm (a := 10) (b := 10) (by unfold Bt; omega) (by unfold Bt; omega)) (je_var 4 rfl) (je_var 4 rfl))) (ja_cons (je_var 4 rfl) (ja_cons (je_sub (je_var 2 rfl) je_int) ja_nil))))))
      (fun _ _ _ _ _ => pg_name (i := 5) sc_p_all.nd rfl (Or.inl rfl)) (fun a ha _ b hb s H C cl fp => jts_nil)
      (fun a ha _ b hb _ s H C cl fp => je_is (je_tup (ja_cons (je_var 4 rfl) (ja_star (je_var 5 rfl) ja_nil)) (by rw [List.length_cons, List.length_append, List.length_map, allF_four n b hb]; show n + 0 + 1 ≤ 100000; omega)) (by rw [List.append_nil]; rfl))))) ?_
    have hk3 : k = ((n + 1 : Nat) : Int) := hk
    rw [hk3]
    show SO.rto _ = SO.rto (((firstsF v m ((n + 1 : Nat) : Int)).flatMap fun a => (allF n (v - a * a) a).map fun r => a :: r).map ti)
    rw [List.map_flatMap, List.filter_eq_self.mpr fun _ _ => rfl]
    congr 1
    refine flat_congr fun a _ => ?_
    rw [List.filter_eq_self.mpr fun _ _ => rfl, List.map_map]
    rfl

def R_bounds (c : Addr) : List D → Out → Prop := fun ds o => ∃ v m : Int, ds = [.int v, .int m] ∧ o = if 0 ≤ v ∧ v ≤ m then .v .none else .x c
theorem cp_check_bounds : Cal P w K mg base 1 "_check_bounds" ["value", "most"] (R_bounds c_InvalidQuestion) := by
  refine cal_mk T.fn_p_check_bounds sc_p_check_bounds (fun ds o ⟨v, m, h, _⟩ => by subst h; rfl) fun f cdv A outer s H E F ds o hr tk pn ⟨v, m, hd, ho⟩ => ?_
  subst hd ho
  by_cases h : 0 ≤ v ∧ v ≤ m
  · rw [if_pos h]
    exact ⟨_, jss_one (js_ifF (jt_is (jt_not (jt_leLe je_int (je_var 0 rfl) (je_var 1 rfl))) (by rw [decide_eq_true h.1, decide_eq_true h.2]; rfl)) jss_nil), rfl⟩
  · rw [if_neg h]
    refine ⟨_, jss_one (js_ifT (jt_is (jt_not (jt_leLe je_int (je_var 0 rfl) (je_var 1 rfl))) ?_) (jss_one (js_raise T.e_InvalidQuestion rfl tk))), rfl⟩
    by_cases h0 : 0 ≤ v
    · rw [decide_eq_true h0, decide_eq_false (fun g => h ⟨h0, g⟩)]; rfl
    · rw [decide_eq_false h0]; rfl

theorem c_ini_TooMany : ExI P w K mg base "TooMany" c_TooMany "limit" := by
  obtain ⟨fI, fd, iC, tI, Fn, hb⟩ := T.e_TooMany.ini
  refine ⟨T.e_TooMany.g, T.e_TooMany.T, T.e_TooMany.no, fI, fd, iC, tI, ?_, hb⟩
  refine Fn.okX sc_ini_TooMany (fun vs H Q E ⟨a, z, h, _⟩ => by subst h; rfl) fun cdv A outer s H vs Q E hr ⟨a, z, hv, hz, hT, hno, ha, q⟩ => ?_
  subst hv
  refine ⟨_, pss_cons (ps_expr (pe_binit (b := "TurnprimesError") rfl T.b_TurnprimesError.g T.b_TurnprimesError.rd T.b_TurnprimesError.vV (pa_cons (pe_var (i := 0) rfl (Or.inl rfl)) (pa_cons (pe_joined (.cons pe_str (.cons (pe_fmt (pe_var (i := 1) rfl (Or.inl rfl))) .nil))) pa_nil)))) (pss_one (ps_ost (pe_var (i := 0) rfl (Or.inl rfl)) (pe_var (i := 1) rfl (Or.inl rfl)))), ?_⟩
  have e1 := int_text_length_le (k := 1920) (by decide) hz
  refine ⟨.ref a, rfl, ⟨_, rfl, ?_, .int z, rfl, .inr ⟨z, rfl, hz, _, rfl, ?_, ?_⟩⟩⟩
  · decide +kernel
  · rw [Str.length_append, ofString_length, sizeLine_eq]
    show 10 + _ ≤ _
    omega
  · exact ⟨a, c_TooMany, _, rfl, by show 1 ≤ 1000; decide, hT, ha, .int z, rfl, .ref a, rfl, a, c_TooMany, rfl, hT, hno, .inl ⟨ha, fun dx h1 h2 => q dx h1 h2⟩⟩

theorem c_all_squares : CalK P w K mg base 7 "all_squares" ["value", "limit"] "limit" 2000 (R_asq c_TooMany c_InvalidQuestion) := by
  have CI : ExI P w K mg base "TooMany" c_TooMany "limit" := c_ini_TooMany T
  have CB : Cal P w K mg base 1 "_check_bounds" ["value", "most"] (R_bounds c_InvalidQuestion) := cp_check_bounds T
  have CA : Cal P w K mg base 6 "_all" ["value", "most", "many"] (R_all 4) := cp_all T 4 (by decide)
  refine cal_mkK T.fn_all_squares sc_all_squares (fun ds o ⟨v, l, h, _⟩ => by subst h; rfl) fun f cdv A outer s H E F ds o hr tk pn ⟨v, l, hd, hlg, h⟩ => ?_
  subst hd
  obtain ⟨tM, gM⟩ := T.gi__MOST_ALL
  rcases h with ⟨hb, h⟩ | ⟨h0, h1, hle, h⟩ | ⟨h0, h1, hlt, h⟩
  · subst h
    exact ⟨.x c_InvalidQuestion _, jss_stop (js_exprX (je_callC CB ⟨v, 10000, rfl, by rw [if_neg hb]⟩ (hr.mono (by decide)) tk (ja_cons (je_var 0 rfl) (ja_cons (je_glob (dp_int _) gM ⟨_, rfl⟩) ja_nil)))) trivial, rfl⟩
  · subst h
    obtain ⟨r0, r1, r2⟩ := root_le h0 (by omega)
    refine ⟨.rto ((allF 4 v (rootI v)).map ti), ?_, rfl⟩
    refine jss_cons (js_expr (je_callC CB ⟨v, 10000, rfl, by rw [if_pos ⟨h0, by omega⟩]⟩ (hr.mono (by decide)) tk (ja_cons (je_var 0 rfl) (ja_cons (je_glob (dp_int _) gM ⟨_, rfl⟩) ja_nil)))) ?_
    refine jss_cons (js_setO 2 sc_all_squares.nd (je_callC CA ⟨v, rootI v, 4, rfl, rfl, h0, h1, r0, by omega, rfl⟩ (hr.mono (by decide)) (by first | exact takes0 | exact tk) (ja_cons (je_var 0 rfl) (ja_cons (je_isqrt h0 (by omega) T.i_isqrt (je_var 0 rfl)) (ja_cons je_int ja_nil))))) ?_
    exact jss_cons (js_ifF (jt_is (jt_gt (je_own_len 2 rfl T.z_len) (je_var 1 rfl)) (decide_eq_false (by rw [List.length_map]; omega))) jss_nil) (jss_one (js_retOwn 2 rfl))
  · subst h
    obtain ⟨r0, r1, r2⟩ := root_le h0 (by omega)
    refine ⟨.xf c_TooMany "limit" (.int l) [.d (.int v), .d (.int l), .own ((allF 4 v (rootI v)).map ti)], ?_, rfl, rfl, rfl⟩
    refine jss_cons (js_expr (je_callC CB ⟨v, 10000, rfl, by rw [if_pos ⟨h0, by omega⟩]⟩ (hr.mono (by decide)) tk (ja_cons (je_var 0 rfl) (ja_cons (je_glob (dp_int _) gM ⟨_, rfl⟩) ja_nil)))) ?_
    refine jss_cons (js_setO 2 sc_all_squares.nd (je_callC CA ⟨v, rootI v, 4, rfl, rfl, h0, h1, r0, by omega, rfl⟩ (hr.mono (by decide)) (by first | exact takes0 | exact tk) (ja_cons (je_var 0 rfl) (ja_cons (je_isqrt h0 (by omega) T.i_isqrt (je_var 0 rfl)) (ja_cons je_int ja_nil))))) ?_
    exact jss_stop (js_ifT (jt_is (jt_gt (je_own_len 2 rfl T.z_len) (je_var 1 rfl)) (decide_eq_true (by rw [List.length_map]; omega))) (jss_one (js_raiseF CI (hr.mono (by decide)) rfl tk hlg (je_var 1 rfl)))) trivial
theorem c_law_told : Cal P w K mg base 8 "_law_told" ["value", "limit"] R_told66 := by
  have CA : CalK P w K mg base 7 "all_squares" ["value", "limit"] "limit" 2000 (R_asq c_TooMany c_InvalidQuestion) := c_all_squares T
  refine cal_mk T.fn_law_told sc_law_told (fun ds o ⟨v, l, h, _⟩ => by subst h; rfl) fun f cdv A outer s H E F ds o hr tk pn ⟨v, l, hd, hl, hv, ho⟩ => ?_
  subst hd ho
  unfold told66
  by_cases hb : 0 ≤ v ∧ v ≤ 10000
  · rw [if_neg (fun q => q hb)]
    have h3 := hv hb.1 hb.2
    by_cases hc : l < ((allF 4 v (rootI v)).length : Int)
    · rw [if_pos hc]
      exact ⟨.rt (.str "many"), jss_one (js_twoF1 (C1 := c_TooMany) (C2 := c_InvalidQuestion) (c := c_TooMany) (f := "limit") (xv := .int l) (i := 2) (Γ1 := (begin_ N_law_told [.int v, .int l])) ⟨rfl, by decide, .inl T.e_TooMany.g⟩ ⟨rfl, by decide, .inl T.e_InvalidQuestion.g⟩ tk sc_law_told.nd T.m_TooMany_TooMany rfl (fun W2 pn2 xe2 tk2 _ => jss_one (js_retXf (je_callKW CA (ds := [.int v]) (y := .int l) ⟨v, l, rfl, hl, .inr (.inr ⟨hb.1, h3, hc, rfl⟩)⟩ (hr.mono (by decide)) tk2 (ja_cons (je_var 0 rfl) ja_nil) (je_var 1 rfl) rfl))) (fun a dd vv F1 H1 oe pn2 hz2 hfl hxd hdp => (jss_one (js_ret (je_ixL (i := 1) (ds := [.str "odd", .str "many"]) (d := .str "many") rfl (je_o2v (je_lst (ja_cons je_str (ja_cons je_str ja_nil)))) (je_is (je_intB T.z_int (je_and (je_eqI (je_xf T.e_TooMany.xf T.e_TooMany.no hz2 hfl hxd hdp (i := 2) rfl) (je_var 1 rfl)) (fun _ => je_and1 (je_isED (i := 2) T.x_TooMany hz2 hfl hxd T.z_isinstance rfl (fun u h => by cases h; rfl) T.k_TooMany_TurnprimesError (pe_glob (v := .ref c_TurnprimesError) rfl T.e_TurnprimesError.g rfl))))) (show _ = Out.v (.int 1) from (by rw [decide_eq_true rfl]; rfl)))))))), rfl⟩
    · rw [if_neg hc]
      exact ⟨.rt (.list ((allF 4 v (rootI v)).map ti)), jss_one (js_two (C1 := c_TooMany) (C2 := c_InvalidQuestion) (i := 2) ⟨rfl, by decide, .inl T.e_TooMany.g⟩ ⟨rfl, by decide, .inl T.e_InvalidQuestion.g⟩ tk sc_law_told.nd trivial (fun W2 pn2 xe2 tk2 _ => jss_one (js_ret (je_o2v (je_callKW CA (ds := [.int v]) (y := .int l) ⟨v, l, rfl, hl, .inr (.inl ⟨hb.1, h3, by omega, rfl⟩)⟩ (hr.mono (by decide)) tk2 (ja_cons (je_var 0 rfl) ja_nil) (je_var 1 rfl) rfl))))), rfl⟩
  · rw [if_pos hb]
    exact ⟨.rt (.str "question"), jss_one (js_twoX2 (C1 := c_TooMany) (C2 := c_InvalidQuestion) (c := c_InvalidQuestion) (i := 2) (Γ1 := (begin_ N_law_told [.int v, .int l])) ⟨rfl, by decide, .inl T.e_TooMany.g⟩ ⟨rfl, by decide, .inl T.e_InvalidQuestion.g⟩ tk sc_law_told.nd T.m_InvalidQuestion_TooMany T.m_InvalidQuestion_InvalidQuestion (fun W2 pn2 xe2 tk2 _ => jss_one (js_retX (je_callKW CA (ds := [.int v]) (y := .int l) ⟨v, l, rfl, hl, .inl ⟨hb, rfl⟩⟩ (hr.mono (by decide)) tk2 (ja_cons (je_var 0 rfl) ja_nil) (je_var 1 rfl) rfl))) (fun a oe pn2 hz2 hfl => (jss_one (js_ret (je_ixL (i := 1) (ds := [.str "odd", .str "question"]) (d := .str "question") rfl (je_o2v (je_lst (ja_cons je_str (ja_cons je_str ja_nil)))) (je_is (je_intB T.z_int (je_isE (i := 2) T.x_InvalidQuestion hz2 hfl T.z_isinstance rfl (fun u h => by cases h; rfl) T.k_InvalidQuestion_ValueError (pe_bltn (v := .ty "ValueError") rfl T.z_ValueError (by decide +kernel) rfl))) (show _ = Out.v (.int 1) from rfl))))))), rfl⟩
theorem c_law_all : Cal P w K mg base 1 "_law_all" ["value"] R_all66 := by
  refine cal_mk T.fn_law_all sc_law_all (fun ds o ⟨v, h, _⟩ => by subst h; rfl) fun f cdv A outer s H E F ds o hr tk pn ⟨v, hd, h0, h1, ho⟩ => ?_
  subst hd ho
  refine ⟨.rto ((allF 4 v (rootI v)).map ti), ?_, rfl⟩
  refine jss_cons (js_setO 1 sc_law_all.nd (je_lst ja_nil)) ?_
  refine jss_cons (js_is (And.left (js_forFold (xs := List.range 18) (enc := (fun k : Nat => PyData.int (0 + (k : Int)))) (fun F : List (List Int) => [.d (.int v), .own ((F).map ti), .u, .u, .u, .u, .u]) (fun F (a : Nat) => [.d (.int v), .own ((F).map ti), .d (.int (0 + (a : Int))), .u, .u, .u, .u]) (fun F a => F ++ blkA66 v a) [] (fun k F => F.length ≤ 324 * k) pn rfl (ji_is (ji_range1 T.z_range (by decide) (by decide) je_int) rfl) (jg_name 2 sc_law_all.nd) (Le.refl _) (Nat.zero_le _) (fun _ _ => rfl) (fun k F a ea hF => ?_))) (show _ = SO.nx [.d (.int v), .own ((rows66 v).map ti), .u, .u, .u, .u, .u] by rw [fold_fm, List.nil_append]; rfl)) ?_
  · have ha : a ≤ 17 := by have := List.mem_range.mp (List.mem_of_getElem? ea); omega
    have hk := (List.getElem?_eq_some_iff.mp ea).1
    rw [List.length_range] at hk
    have la := blkA_len (v := v) ha
    refine ⟨⟨_, jss_nx (Γ1 := [.d (.int v), .own ((F ++ blkA66 v a).map ti), .d (.int (0 + (a : Int))), .u, .u, .u, .u]) (jss_one (js_is (And.left (js_forFold (xs := List.range (a + 1)) (enc := (fun k : Nat => PyData.int (0 + (k : Int)))) (fun F1 : List (List Int) => [.d (.int v), .own ((F1).map ti), .d (.int (0 + (a : Int))), .u, .u, .u, .u]) (fun F1 (b : Nat) => [.d (.int v), .own ((F1).map ti), .d (.int (0 + (a : Int))), .d (.int (0 + (b : Int))), .u, .u, .u]) (fun F1 b => F1 ++ blkB66 v a b) F (fun k1 F1 => F1.length ≤ 324 * k + 18 * k1) pn rfl (ji_is (ji_range1 T.z_range (by omega) (by omega) (je_add (je_var 2 rfl) je_int)) (show rngD 0 ((0 + (a : Int)) + 1).toNat = _ by unfold rngD; rw [show ((0 + (a : Int)) + 1).toNat = a + 1 by omega])) (jg_name 3 sc_law_all.nd) (Le.refl _) (by omega) (fun _ _ => rfl) (fun k1 F1 b eb hF1 => ?_))) (by rw [fold_fm]; rfl))) (.keep (.keep (.drop (.drop (.drop (.drop (.keep .nil))))))), rfl⟩, by rw [List.length_append]; omega⟩
    have hb : b ≤ 17 := by have := List.mem_range.mp (List.mem_of_getElem? eb); omega
    have hk1 := (List.getElem?_eq_some_iff.mp eb).1
    rw [List.length_range] at hk1
    have lb := blkB_len v a b
    refine ⟨⟨_, jss_nx (Γ1 := [.d (.int v), .own ((F1 ++ blkB66 v a b).map ti), .d (.int (0 + (a : Int))), .d (.int (0 + (b : Int))), .u, .u, .u]) (jss_one (js_is (And.left (js_forFold (xs := List.range (b + 1)) (enc := (fun k : Nat => PyData.int (0 + (k : Int)))) (fun F2 : List (List Int) => [.d (.int v), .own ((F2).map ti), .d (.int (0 + (a : Int))), .d (.int (0 + (b : Int))), .u, .u, .u]) (fun F2 (c : Nat) => [.d (.int v), .own ((F2).map ti), .d (.int (0 + (a : Int))), .d (.int (0 + (b : Int))), .d (.int (0 + (c : Int))), .u, .u]) (fun F2 c => F2 ++ blkC66 v a b c) F1 (fun k2 F2 => F2.length ≤ 324 * k + 18 * k1 + k2) pn rfl (ji_is (ji_range1 T.z_range (by omega) (by omega) (je_add (je_var 3 rfl) je_int)) (show rngD 0 ((0 + (b : Int)) + 1).toNat = _ by unfold rngD; rw [show ((0 + (b : Int)) + 1).toNat = b + 1 by omega])) (jg_name 4 sc_law_all.nd) (Le.refl _) (by omega) (fun _ _ => rfl) (fun k2 F2 c ec hF2 => ?_))) (by rw [fold_fm]; rfl))) (.keep (.keep (.keep (.drop (.drop (.drop (.keep .nil))))))), rfl⟩, by rw [List.length_append]; omega⟩
    have hc : c ≤ 17 := by have := List.mem_range.mp (List.mem_of_getElem? ec); omega
    have hk2 := (List.getElem?_eq_some_iff.mp ec).1
    rw [List.length_range] at hk2
    have lc := blkC_len v a b c
    have lc2 := dF_len (v - (0 + (a : Int)) * (0 + (a : Int)) - (0 + (b : Int)) * (0 + (b : Int)) - (0 + (c : Int)) * (0 + (c : Int))) c
    refine ⟨⟨_, jss_nx (Γ1 := [.d (.int v), .own ((F2 ++ blkC66 v a b c).map ti), .d (.int (0 + (a : Int))), .d (.int (0 + (b : Int))), .d (.int (0 + (c : Int))), .d (.int (v - (0 + (a : Int)) * (0 + (a : Int)) - (0 + (b : Int)) * (0 + (b : Int)) - (0 + (c : Int)) * (0 + (c : Int)))), .u]) (jss_cons (js_is (js_set 5 sc_law_all.nd (je_sub (je_sub (je_sub (je_var 0 rfl) (je_mul (.inl ⟨by omega, by omega⟩) (je_var 2 rfl) (je_var 2 rfl))) (je_mul (.inl ⟨by omega, by omega⟩) (je_var 3 rfl) (je_var 3 rfl))) (je_mul (.inl ⟨by omega, by omega⟩) (je_var 4 rfl) (je_var 4 rfl)))) (show _ = SO.nx [.d (.int v), .own ((F2).map ti), .d (.int (0 + (a : Int))), .d (.int (0 + (b : Int))), .d (.int (0 + (c : Int))), .d (.int (v - (0 + (a : Int)) * (0 + (a : Int)) - (0 + (b : Int)) * (0 + (b : Int)) - (0 + (c : Int)) * (0 + (c : Int)))), .u] from rfl)) (jss_one (js_is (js_setO 1 sc_law_all.nd (je_own_cat 1 rfl (by rw [List.length_map, List.length_map, List.length_map]; show _ + (dF66 (v - (0 + (a : Int)) * (0 + (a : Int)) - (0 + (b : Int)) * (0 + (b : Int)) - (0 + (c : Int)) * (0 + (c : Int))) c).length ≤ _; omega) (je_lcE ti (xs := List.range (c + 1)) (enc := (fun k : Nat => PyData.int (0 + (k : Int)))) (p := fun d : Nat => decide ((0 + (d : Int)) * (0 + (d : Int)) = (v - (0 + (a : Int)) * (0 + (a : Int)) - (0 + (b : Int)) * (0 + (b : Int)) - (0 + (c : Int)) * (0 + (c : Int))))) (g := fun d : Nat => [(0 + (a : Int)), (0 + (b : Int)), (0 + (c : Int)), (0 + (d : Int))]) (own := [("d", 6)]) (.one 6) rfl sc_law_all.nd (ji_is (ji_range1 T.z_range (by omega) (by omega) (je_add (je_var 4 rfl) je_int)) (show rngD 0 ((0 + (c : Int)) + 1).toNat = _ by unfold rngD; rw [show ((0 + (c : Int)) + 1).toNat = c + 1 by omega])) (blkOk_by (N := N_law_all) (sc := defScope s_law_all) (by decide +kernel)) (by rw [List.length_range]; omega) (fun _ _ => trivial) (fun _ _ _ _ _ => pg_name (i := 6) sc_law_all.nd rfl (by first | exact Or.inl rfl | exact Or.inr rfl)) (fun d hd s H C cl fp => jts_one (jt_eqI (je_mul (.inl ⟨by omega, by have := List.mem_range.mp hd; omega⟩) (je_var 6 rfl) (je_var 6 rfl)) (je_var 5 rfl))) (fun d hd _ s H C cl fp => je_is (je_tup (ja_cons (je_var 2 rfl) (ja_cons (je_var 3 rfl) (ja_cons (je_var 4 rfl) (ja_cons (je_var 6 rfl) ja_nil))))) rfl)))) (by rw [List.map_append]; rfl)))) (.keep (.keep (.keep (.keep (.drop (.drop (.keep .nil))))))), rfl⟩, by rw [List.length_append]; omega⟩
  refine jss_frz 1 rfl ?_
  exact jss_one (js_retO (je_is (je_revL (je_var 1 rfl)) (by rw [← List.map_reverse]; show Out.o ((rows66 v).reverse.map ti) = _; rw [all_rows h0 h1])))

/-! the law: LEVEL 9 -/
theorem ok_law {f : Addr} {fd : FuncData} (Fn : Fun K "law" "law" s_law f fd) : FnOk P w K mg base (L2.CX P w) 9 f fd ["script"] (spD K R_law) := by
  have C__law_numbers : Cal P w K mg base 2 "_law_numbers" ["script", "many"] R_law_numbers := c_law_numbers T
  have C__law_all : Cal P w K mg base 1 "_law_all" ["value"] R_all66 := c_law_all T
  have C__law_told : Cal P w K mg base 8 "_law_told" ["value", "limit"] R_told66 := c_law_told T
  have CA : CalK P w K mg base 7 "all_squares" ["value", "limit"] "limit" 2000 (R_asq c_TooMany c_InvalidQuestion) := c_all_squares T
  refine fn_ok Fn sc_law (fun ds o ⟨ns, h, _⟩ => by subst h; rfl) fun cdv A outer s H E F ds o hr tk pn ⟨ns, hd, hl, ho⟩ => ?_
  subst hd ho
  refine ⟨.rt (.bool true), ?_, rfl⟩
  refine jss_norm (Γ2 := [.d (li ns), .u, .u, .u, .u, .u]) rfl ?_
  refine jss_consN (js_set 1 sc_law.nd (je_callC C__law_numbers ⟨ns, 10, rfl, hl, by decide, rfl⟩ (hr.mono (by decide)) (by first | exact takes0 | exact tk) (ja_cons (je_var 0 rfl) (ja_cons je_int ja_nil)))) (by dsimp only [List.set_cons_zero, List.set_cons_succ]) ?_
  have dr := lawNums_ok ns 10
  generalize lawNums ns 10 = nums at dr ⊢
  have hin : In9 nums := dr.2
  have hlen := dr.1
  have hg := fun j => hin.get j
  have h0 := hg 0
  have h1 := hg 1
  refine jss_consN (js_set 2 sc_law.nd (je_mod (by decide) (je_intI T.z_int (je_ixL (ds := nums.map .int) (at_ints (i := 0) rfl (by omega)) (je_var 1 rfl) je_int)) je_int)) (by dsimp only [List.set_cons_zero, List.set_cons_succ]) ?_
  have v0 : 0 ≤ nums.getD 0 0 % 301 ∧ nums.getD 0 0 % 301 ≤ 300 := by omega
  generalize nums.getD 0 0 % 301 = v at v0 ⊢
  obtain ⟨v0, v3⟩ := v0
  have hlen2 : ((allF 4 v (rootI v)).length : Int) ≤ 2000 := len66 v0 v3
  have hne := rows_ne v0 v3
  have hpos : 0 < (allF 4 v (rootI v)).length := List.length_pos_iff.mpr hne
  refine jss_consN (js_setO 3 sc_law.nd (je_callC C__law_all ⟨v, rfl, v0, v3, rfl⟩ (hr.mono (by decide)) (by first | exact takes0 | exact tk) (ja_cons (je_var 2 rfl) ja_nil))) (by dsimp only [List.set_cons_zero, List.set_cons_succ]) ?_
  refine jss_frzN 3 rfl (by dsimp only [List.set_cons_zero, List.set_cons_succ]) ?_
  refine jss_consN (js_setO 4 sc_law.nd (je_callKD CA (ds := [.int v]) (o := .o ((allF 4 v (rootI v)).map ti)) ⟨v, 2000, rfl, by decide, .inr (.inl ⟨by omega, by omega, hlen2, rfl⟩)⟩ (hr.mono (by decide)) (by first | exact takes0 | exact tk) (ja_cons (je_var 2 rfl) ja_nil))) (by dsimp only [List.set_cons_zero, List.set_cons_succ]) ?_
  refine jss_cons (js_ifF (jt_is (jt_w (jw_or (p := false) (jt_is (jt_not (jt_val (je_own_isi (T := "list") (r := true) 4 rfl (by decide) T.z_isinstance T.z_list (by decide +kernel)))) rfl) (fun _ => jw_or (p := false) (jt_is (jt_own_ne 4 rfl hr.units (sh_lti _) (sh_lti _) (je_var 3 rfl)) (by rw [eqv_refl _ (sh_lti _)]; rfl)) (fun _ => jw_or1 (p := false) (jt_is (jt_eqI (je_lenL T.z_len (je_var 3 rfl)) je_int) (decide_eq_false (by rw [List.length_map]; omega))))))) rfl) jss_nil) ?_
  obtain ⟨A, z, eA⟩ : ∃ A z, allF 4 v (rootI v) = A ++ [z] := ⟨_, _, (List.dropLast_concat_getLast hne).symm⟩
  refine jss_cons (js_is (js_pop 4 (ds := A.map ti) (d := ti z) (by show some (S.own ((allF 4 v (rootI v)).map ti)) = _; rw [eA, List.map_append]; rfl)) (show _ = SO.nx [.d (li ns), .d (li nums), .d (.int v), .d (.list ((allF 4 v (rootI v)).map ti)), .own (A.map ti), .u] from rfl)) ?_
  have lg : ∀ q : Int, -1 ≤ q → q ≤ 2000 → q.natAbs.log2 < 1920 := fun q h2 h3 => log66 h2 h3
  refine jss_cons (js_ifF (jt_is (jt_w (jw_or (p := false) (jt_is (jt_neD hr.units (sh_lti _) (sh_lti _) (je_o2v (je_callKD CA (ds := [.int v]) (o := .o ((allF 4 v (rootI v)).map ti)) ⟨v, 2000, rfl, by decide, .inr (.inl ⟨by omega, by omega, hlen2, rfl⟩)⟩ (hr.mono (by decide)) (by first | exact takes0 | exact tk) (ja_cons (je_var 2 rfl) ja_nil))) (je_var 3 rfl)) (by rw [eqv_refl _ (sh_lti _)]; rfl)) (fun _ => jw_or (p := false) (jt_is (jt_neD hr.units (sh_lti _) (sh_lti _) (je_is (je_callC C__law_told ⟨v, ((allF 4 v (rootI v)).length : Int), rfl, lg _ (by omega) (by omega), fun _ _ => by omega, rfl⟩ (hr.mono (by decide)) (by first | exact takes0 | exact tk) (ja_cons (je_var 2 rfl) (ja_cons (je_is (je_lenL T.z_len (je_var 3 rfl)) (show _ = Out.v (.int ((allF 4 v (rootI v)).length : Int)) by rw [List.length_map])) ja_nil))) (show _ = Out.v (.list ((allF 4 v (rootI v)).map ti)) by unfold told66; rw [if_neg (fun q => q ⟨v0, by omega⟩), if_neg (Int.lt_irrefl _)])) (je_var 3 rfl)) (by rw [eqv_refl _ (sh_lti _)]; rfl)) (fun _ => jw_or1 (p := false) (jt_is (jt_neS (je_is (je_callC C__law_told ⟨v, ((allF 4 v (rootI v)).length : Int) - 1, rfl, lg _ (by omega) (by omega), fun _ _ => by omega, rfl⟩ (hr.mono (by decide)) (by first | exact takes0 | exact tk) (ja_cons (je_var 2 rfl) (ja_cons (je_sub (je_is (je_lenL T.z_len (je_var 3 rfl)) (show _ = Out.v (.int ((allF 4 v (rootI v)).length : Int)) by rw [List.length_map])) je_int) ja_nil))) (show _ = Out.v (.str "many") by unfold told66; rw [if_neg (fun q => q ⟨v0, by omega⟩), if_pos (by omega)])) je_str) (by rw [decide_eq_true rfl]; rfl)))))) rfl) jss_nil) ?_
  refine jss_cons (js_is (js_forAll (ds := [.int (-1), .int 10001, .int (-1 - nums.getD 1 0), .int (10001 + nums.getD 1 0)]) (fun k => [.d (li ns), .d (li nums), .d (.int v), .d (.list ((allF 4 v (rootI v)).map ti)), .own (A.map ti), .u]) (fun k => [.d (li ns), .d (li nums), .d (.int v), .d (.list ((allF 4 v (rootI v)).map ti)), .own (A.map ti), .d (([.int (-1), .int 10001, .int (-1 - nums.getD 1 0), .int (10001 + nums.getD 1 0)] : List D).getD k .none)]) pn rfl (ji_list (je_is (je_o2v (je_lst (ja_cons (je_neg je_int) (ja_cons (je_add (je_is (je_pow ⟨by decide, by decide, by decide⟩ je_int je_int) (show _ = Out.v (.int 10000) from rfl)) je_int) (ja_cons (je_sub (je_neg je_int) (je_intI T.z_int (je_ixL (ds := nums.map .int) (at_ints (i := 1) rfl (by omega)) (je_var 1 rfl) je_int))) (ja_cons (je_add (je_add (je_is (je_pow ⟨by decide, by decide, by decide⟩ je_int je_int) (show _ = Out.v (.int 10000) from rfl)) je_int) (je_intI T.z_int (je_ixL (ds := nums.map .int) (at_ints (i := 1) rfl (by omega)) (je_var 1 rfl) je_int))) ja_nil)))))) rfl)) (jg_name 5 sc_law.nd) (Le.refl _) (fun k e h => by rw [List.getD_eq_getElem?_getD, h]; rfl) (fun k e h => ?_)) (show _ = SO.nx [.d (li ns), .d (li nums), .d (.int v), .d (.list ((allF 4 v (rootI v)).map ti)), .own (A.map ti), .u] from rfl)) ?_
  · have hb : ∃ b : Int, ([.int (-1), .int 10001, .int (-1 - nums.getD 1 0), .int (10001 + nums.getD 1 0)] : List D).getD k .none = .int b ∧ ¬ (0 ≤ b ∧ b ≤ 10000) := by
      match k, h with
      | 0, _ => exact ⟨_, rfl, by omega⟩
      | 1, _ => exact ⟨_, rfl, by omega⟩
      | 2, _ => exact ⟨_, rfl, by omega⟩
      | 3, _ => exact ⟨_, rfl, by omega⟩
    obtain ⟨b, eb, hb⟩ := hb
    rw [eb]
    exact jss_nx (jss_one (js_ifF (jt_is (jt_neS (je_is (je_callC C__law_told ⟨b, 2000, rfl, by decide, fun _ _ => by omega, rfl⟩ (hr.mono (by decide)) (by first | exact takes0 | exact tk) (ja_cons (je_var 5 rfl) (ja_cons je_int ja_nil))) (show _ = Out.v (.str "question") by unfold told66; rw [if_pos hb])) je_str) (by rw [decide_eq_true rfl]; rfl)) jss_nil)) (.keep (.keep (.keep (.keep (.keep (.drop .nil))))))
  exact jss_one (js_ret (je_is (je_and (je_eqS (je_is (je_callC C__law_told ⟨v, 0, rfl, by decide, fun _ _ => by omega, rfl⟩ (hr.mono (by decide)) (by first | exact takes0 | exact tk) (ja_cons (je_var 2 rfl) (ja_cons je_int ja_nil))) (show _ = Out.v (.str "many") by unfold told66; rw [if_neg (fun q => q ⟨v0, by omega⟩), if_pos (by omega)])) je_str) (fun _ => je_and1 (je_eqD hr.units (sh_lti _) (sh_lti [[0, 0, 0, 0]]) (je_o2v (je_callKD CA (ds := [.int 0]) (o := .o ((allF 4 0 (rootI 0)).map ti)) ⟨0, 2000, rfl, by decide, .inr (.inl ⟨by decide, by decide, len66 (by decide) (by decide), rfl⟩)⟩ (hr.mono (by decide)) (by first | exact takes0 | exact tk) (ja_cons je_int ja_nil))) (je_is (je_o2v (je_lst (ja_cons (je_tup (ja_cons je_int (ja_cons je_int (ja_cons je_int (ja_cons je_int ja_nil))))) ja_nil))) rfl)))) (by rw [decide_eq_true rfl, zero66]; rfl)))

end
theorem all_mk {l : PySem.W.OpenLaw} {w : World} {K : PySem.W.Frag} {h : Heap} {mg : Str → Option Value} {fa : Addr} {f1 f2 f3 f4 f5 f6 f7 f8 f9 C1 C2 C3 : Addr} (X : K.In h) (G : h.Ns mainGlobals mg) (hfa : mg "law" = some (.ref fa))
    {od1 an1 od2 an2 od3 an3 od4 an4 od5 an5 od6 an6 od7 an7 od8 an8 od9 an9 : Option Addr} {sl1 sl2 sl3 sl4 sl5 sl6 sl7 sl8 sl9 : Array (Option Value)} {oc1 dc1 pm1 cd1 ct1 oc2 kV2 dc2 pm2 cd2 ct2 oc3 kV3 dc3 pm3 cd3 ct3 oc4 kV4 dc4 pm4 cd4 ct4 oc5 kV5 dc5 pm5 cd5 ct5 oc6 kV6 dc6 pm6 cd6 ct6 oc7 kV7 dc7 pm7 cd7 ct7 oc8 kV8 dc8 pm8 cd8 ct8 oc9 kV9 dc9 pm9 cd9 ct9 : Value}
    {DK1 : Addr} {uk1 : Tok}
    {FI3 NC3 : Addr} {nm3 qn3 : Str} {bs3 bm3 sb3 : List Value} {sn3 : List Str} {ab3 : Bool} {co3 : Option Bool} {dd3 odI3 anI3 : Option Addr} {k0_3 k1_3 k2_3 k3_3 k5_3 : Option Value} {ocI3 kVI3 dcI3 pmI3 cdI3 ctI3 : Value} {slI3 : Array (Option Value)}
    {uN1 : Tok}
    (a1 : PySem.W.nsIn K mainGlobals "all_squares" = some (some (.ref f1))) (l1 : K.lookup f1 = some ⟨oc1, od1, .func (PySem.W.fnOf "all_squares" "all_squares" (defArgs s_all_squares) (defBody s_all_squares) (defScope s_all_squares) .none (.ref DK1) dc1 pm1 an1 cd1 ct1), sl1⟩) (c1 : PySem.W.codeIn K cd1 "all_squares" = true) (k1 : PySem.W.keepIn K (.ref f1) = true) (w1 : PySem.W.nsIn K DK1 "limit" = some (some (.int 2000 uk1)))
    (a2 : PySem.W.nsIn K mainGlobals "_check_bounds" = some (some (.ref f2))) (l2 : K.lookup f2 = some ⟨oc2, od2, .func (PySem.W.fnOf "_check_bounds" "_check_bounds" (defArgs s_p_check_bounds) (defBody s_p_check_bounds) (defScope s_p_check_bounds) .none kV2 dc2 pm2 an2 cd2 ct2), sl2⟩) (c2 : PySem.W.codeIn K cd2 "_check_bounds" = true) (k2 : PySem.W.keepIn K (.ref f2) = true)
    (a3 : PySem.W.nsIn K mainGlobals "_all" = some (some (.ref f3))) (l3 : K.lookup f3 = some ⟨oc3, od3, .func (PySem.W.fnOf "_all" "_all" (defArgs s_p_all) (defBody s_p_all) (defScope s_p_all) .none kV3 dc3 pm3 an3 cd3 ct3), sl3⟩) (c3 : PySem.W.codeIn K cd3 "_all" = true) (k3 : PySem.W.keepIn K (.ref f3) = true)
    (a4 : PySem.W.nsIn K mainGlobals "_firsts" = some (some (.ref f4))) (l4 : K.lookup f4 = some ⟨oc4, od4, .func (PySem.W.fnOf "_firsts" "_firsts" (defArgs s_p_firsts) (defBody s_p_firsts) (defScope s_p_firsts) .none kV4 dc4 pm4 an4 cd4 ct4), sl4⟩) (c4 : PySem.W.codeIn K cd4 "_firsts" = true) (k4 : PySem.W.keepIn K (.ref f4) = true)
    (a5 : PySem.W.nsIn K mainGlobals "_law_row" = some (some (.ref f5))) (l5 : K.lookup f5 = some ⟨oc5, od5, .func (PySem.W.fnOf "_law_row" "_law_row" (defArgs s_law_row) (defBody s_law_row) (defScope s_law_row) .none kV5 dc5 pm5 an5 cd5 ct5), sl5⟩) (c5 : PySem.W.codeIn K cd5 "_law_row" = true) (k5 : PySem.W.keepIn K (.ref f5) = true)
    (a6 : PySem.W.nsIn K mainGlobals "_law_numbers" = some (some (.ref f6))) (l6 : K.lookup f6 = some ⟨oc6, od6, .func (PySem.W.fnOf "_law_numbers" "_law_numbers" (defArgs s_law_numbers) (defBody s_law_numbers) (defScope s_law_numbers) .none kV6 dc6 pm6 an6 cd6 ct6), sl6⟩) (c6 : PySem.W.codeIn K cd6 "_law_numbers" = true) (k6 : PySem.W.keepIn K (.ref f6) = true)
    (a7 : PySem.W.nsIn K mainGlobals "_law_all" = some (some (.ref f7))) (l7 : K.lookup f7 = some ⟨oc7, od7, .func (PySem.W.fnOf "_law_all" "_law_all" (defArgs s_law_all) (defBody s_law_all) (defScope s_law_all) .none kV7 dc7 pm7 an7 cd7 ct7), sl7⟩) (c7 : PySem.W.codeIn K cd7 "_law_all" = true) (k7 : PySem.W.keepIn K (.ref f7) = true)
    (a8 : PySem.W.nsIn K mainGlobals "_law_told" = some (some (.ref f8))) (l8 : K.lookup f8 = some ⟨oc8, od8, .func (PySem.W.fnOf "_law_told" "_law_told" (defArgs s_law_told) (defBody s_law_told) (defScope s_law_told) .none kV8 dc8 pm8 an8 cd8 ct8), sl8⟩) (c8 : PySem.W.codeIn K cd8 "_law_told" = true) (k8 : PySem.W.keepIn K (.ref f8) = true)
    (a9 : PySem.W.nsIn K mainGlobals "law" = some (some (.ref f9))) (l9 : K.lookup f9 = some ⟨oc9, od9, .func (PySem.W.fnOf "law" "law" (defArgs s_law) (defBody s_law) (defScope s_law) .none kV9 dc9 pm9 an9 cd9 ct9), sl9⟩) (c9 : PySem.W.codeIn K cd9 "law" = true) (k9 : PySem.W.keepIn K (.ref f9) = true)
    (gC1 : PySem.W.nsIn K mainGlobals "TurnprimesError" = some (some (.ref C1))) (xC1 : PySem.W.excIn K C1 [.type "ValueError", .type "Exception", .type "BaseException", .type "object"] "ValueError.__new__" = true) (kC1 : PySem.W.keepIn K (.ref C1) = true) (bC1 : PySem.W.subIn K (.ref C1) (.type "BaseException") = some true) (tC1 : PySem.W.typeIn K (.ref C1) = some (.type "type"))
    (gC2 : PySem.W.nsIn K mainGlobals "InvalidQuestion" = some (some (.ref C2))) (xC2 : PySem.W.excIn K C2 [.type "ValueError", .type "Exception", .type "BaseException", .type "object"] "ValueError.__new__" = true) (kC2 : PySem.W.keepIn K (.ref C2) = true) (bC2 : PySem.W.subIn K (.ref C2) (.type "BaseException") = some true) (tC2 : PySem.W.typeIn K (.ref C2) = some (.type "type"))
    (gC3 : PySem.W.nsIn K mainGlobals "TooMany" = some (some (.ref C3))) (kC3 : PySem.W.keepIn K (.ref C3) = true) (bC3 : PySem.W.subIn K (.ref C3) (.type "BaseException") = some true) (tC3 : PySem.W.typeIn K (.ref C3) = some (.type "type")) (lC3 : K.lookup C3 = some (excClassObj nm3 qn3 C3 NC3 bs3 bm3 true sn3 sb3 ab3 co3 dd3 k0_3 k1_3 k2_3 k3_3 k5_3 "ValueError.__new__")) (rC3 : PySem.HandSPX.refsVE bm3 = true) (saC3 : PySem.W.findIn K (.ref C3) "__setattr__" = some (some (.builtin "object.__setattr__"))) (noC3 : PySem.W.findIn K (.ref C3) "limit" = some none) (xfC3 : xfB K C3 = true) (iC3 : PySem.W.findIn K (.ref C3) "__init__" = some (some (.ref FI3))) (tI3 : PySem.W.typeIn K (.ref FI3) = some (.type "function")) (lI3 : K.lookup FI3 = some ⟨ocI3, odI3, .func (PySem.W.fnOf "__init__" "TooMany.__init__" (defArgs s_ini_TooMany) (defBody s_ini_TooMany) (defScope s_ini_TooMany) .none kVI3 dcI3 pmI3 anI3 cdI3 ctI3), slI3⟩) (cI3 : PySem.W.codeIn K cdI3 "TooMany.__init__" = true) (kI3 : PySem.W.keepIn K (.ref FI3) = true)
    (rdB1 : PySem.W.readsIn K C1 (.type "type") = true) (gaB1 : PySem.W.specialIn K (.ref C1) "__getattribute__" = some (some (.builtin "type.__getattribute__"))) (vB1 : PySem.W.findCls K (.ref C1) (.type "type") "__init__" = some (.val (.builtin "ValueError.__init__")))
    (hgR3 : PySem.W.findIn K (.ref C3) "__getattribute__" = some (some (.builtin "BaseException.__getattribute__")))
    (hkR3 : PySem.W.findIn K (.ref C3) "__getattr__" = some none)
    (hsR3 : PySem.W.subIn K (.ref C3) (.type "BaseException") = some true)
    (hdR3 : PySem.W.hasDictIn K C3 = true)
    (haR3 : PySem.W.findIn K (.ref C3) "__class__" = some (some (.builtin "object.__class__")))
    (hnR3 : PySem.W.specialIn K (.builtin "object.__class__") "__get__" = some (some (.builtin "getset_descriptor.__get__")))
    (htR3 : PySem.W.takesIn K (.builtin "object.__class__") = some true)
    (hmR3 : PySem.W.mroIn K C3 (.type "object") = some true)
    (sb3_3 : PySem.W.subIn K (.ref C3) (.ref C3) = some true) (hhsb3_3 : PySem.W.hasDictIn K C3 = true)
    (sb3_2 : PySem.W.subIn K (.ref C3) (.ref C2) = some false) (hhsb3_2 : PySem.W.hasDictIn K C2 = true)
    (kt3_TurnprimesError : PySem.W.subIn K (.ref C3) (.ref C1) = some true)
    (hhkt3_TurnprimesError : PySem.W.hasDictIn K C1 = true) (nekt3_TurnprimesError : (Value.ref C3 == Value.ref C1) = false)
    (kt3_ValueError : PySem.W.subIn K (.ref C3) (.type "ValueError") = some true)
    (hgR2 : PySem.W.findIn K (.ref C2) "__getattribute__" = some (some (.builtin "BaseException.__getattribute__")))
    (hkR2 : PySem.W.findIn K (.ref C2) "__getattr__" = some none)
    (hsR2 : PySem.W.subIn K (.ref C2) (.type "BaseException") = some true)
    (hdR2 : PySem.W.hasDictIn K C2 = true)
    (haR2 : PySem.W.findIn K (.ref C2) "__class__" = some (some (.builtin "object.__class__")))
    (hnR2 : PySem.W.specialIn K (.builtin "object.__class__") "__get__" = some (some (.builtin "getset_descriptor.__get__")))
    (htR2 : PySem.W.takesIn K (.builtin "object.__class__") = some true)
    (hmR2 : PySem.W.mroIn K C2 (.type "object") = some true)
    (sb2_3 : PySem.W.subIn K (.ref C2) (.ref C3) = some false) (hhsb2_3 : PySem.W.hasDictIn K C3 = true)
    (sb2_2 : PySem.W.subIn K (.ref C2) (.ref C2) = some true) (hhsb2_2 : PySem.W.hasDictIn K C2 = true)
    (kt2_TurnprimesError : PySem.W.subIn K (.ref C2) (.ref C1) = some true)
    (hhkt2_TurnprimesError : PySem.W.hasDictIn K C1 = true) (nekt2_TurnprimesError : (Value.ref C2 == Value.ref C1) = false)
    (kt2_ValueError : PySem.W.subIn K (.ref C2) (.type "ValueError") = some true)
    (aN1 : PySem.W.nsIn K mainGlobals "_MOST_ALL" = some (some (.int 10000 uN1)))
    (aI1 : PySem.W.nsIn K mainGlobals "isqrt" = some (some (.builtin "math.isqrt")))
    (z0 : PySem.W.nsIn K mainGlobals "ValueError" = some none) (z1 : PySem.W.nsIn K mainGlobals "abs" = some none) (z2 : PySem.W.nsIn K mainGlobals "int" = some none) (z3 : PySem.W.nsIn K mainGlobals "isinstance" = some none) (z4 : PySem.W.nsIn K mainGlobals "len" = some none) (z5 : PySem.W.nsIn K mainGlobals "list" = some none) (z6 : PySem.W.nsIn K mainGlobals "max" = some none) (z7 : PySem.W.nsIn K mainGlobals "min" = some none) (z8 : PySem.W.nsIn K mainGlobals "range" = some none) :
    ∃ fd : FuncData, (∀ (s : Shared) (v : Value), BindsTo s fd ⟨[v], []⟩ [("script", v)]) ∧ ∀ base : Heap, K.In base → base.Ns mainGlobals mg → FnOk l.prog w K mg base (L2.CX l.prog w) 9 fa fd ["script"] (spD K R_law) := by
  have ee := hfa.symm.trans (PySem.W.mg_of X G a9)
  cases ee
  have F1 := fun_mk (st := s_all_squares) l1 c1 k1
  have A1 : FnAtK K mg "all_squares" s_all_squares ["value", "limit"] "limit" 2000 := ⟨f1, _, F1, PySem.W.mg_of X G a1, ⟨_, bindsK w1 (by decide) fun us hl => match us, hl with | [_], _ => ⟨_, _, _, _, _, _, rfl, rfl, rfl⟩⟩, kbnK fun us ws h1 h2 => match us, ws, h1, h2 with | [_], [_], _, _ => rfl⟩
  have F2 := fun_mk (st := s_p_check_bounds) l2 c2 k2
  have A2 : FnAt K mg "_check_bounds" s_p_check_bounds ["value", "most"] := ⟨f2, _, F2, PySem.W.mg_of X G a2, F2.binds (ps := ["value", "most"]) fun _ _ _ _ _ _ us hl => match us, hl with | [_, _], _ => rfl⟩
  have F3 := fun_mk (st := s_p_all) l3 c3 k3
  have A3 : FnAt K mg "_all" s_p_all ["value", "most", "many"] := ⟨f3, _, F3, PySem.W.mg_of X G a3, F3.binds (ps := ["value", "most", "many"]) fun _ _ _ _ _ _ us hl => match us, hl with | [_, _, _], _ => rfl⟩
  have F4 := fun_mk (st := s_p_firsts) l4 c4 k4
  have A4 : FnAt K mg "_firsts" s_p_firsts ["value", "most", "many"] := ⟨f4, _, F4, PySem.W.mg_of X G a4, F4.binds (ps := ["value", "most", "many"]) fun _ _ _ _ _ _ us hl => match us, hl with | [_, _, _], _ => rfl⟩
  have F5 := fun_mk (st := s_law_row) l5 c5 k5
  have A5 : FnAt K mg "_law_row" s_law_row ["cell", "many"] := ⟨f5, _, F5, PySem.W.mg_of X G a5, F5.binds (ps := ["cell", "many"]) fun _ _ _ _ _ _ us hl => match us, hl with | [_, _], _ => rfl⟩
  have F6 := fun_mk (st := s_law_numbers) l6 c6 k6
  have A6 : FnAt K mg "_law_numbers" s_law_numbers ["script", "many"] := ⟨f6, _, F6, PySem.W.mg_of X G a6, F6.binds (ps := ["script", "many"]) fun _ _ _ _ _ _ us hl => match us, hl with | [_, _], _ => rfl⟩
  have F7 := fun_mk (st := s_law_all) l7 c7 k7
  have A7 : FnAt K mg "_law_all" s_law_all ["value"] := ⟨f7, _, F7, PySem.W.mg_of X G a7, F7.binds (ps := ["value"]) fun _ _ _ _ _ _ us hl => match us, hl with | [_], _ => rfl⟩
  have F8 := fun_mk (st := s_law_told) l8 c8 k8
  have A8 : FnAt K mg "_law_told" s_law_told ["value", "limit"] := ⟨f8, _, F8, PySem.W.mg_of X G a8, F8.binds (ps := ["value", "limit"]) fun _ _ _ _ _ _ us hl => match us, hl with | [_, _], _ => rfl⟩
  have F9 := fun_mk (st := s_law) l9 c9 k9
  have T : TT K mg C1 C2 C3 := ⟨PySem.W.mg_none_of X G z0, PySem.W.mg_none_of X G z1, PySem.W.mg_none_of X G z2, PySem.W.mg_none_of X G z3, PySem.W.mg_none_of X G z4, PySem.W.mg_none_of X G z5, PySem.W.mg_none_of X G z6, PySem.W.mg_none_of X G z7, PySem.W.mg_none_of X G z8, ⟨PySem.W.mg_of X G gC1, xC1, kC1, bC1, tC1⟩, ⟨PySem.W.mg_of X G gC2, xC2, kC2, bC2, tC2⟩, ⟨PySem.W.mg_of X G gC3, ⟨⟨_, _, _, _, _, _, _, _, _, _, _, _, _, _, _, lC3, rC3⟩, saC3, bC3, tC3, kC3⟩, noC3, xfB_ok xfC3, FI3, _, iC3, tI3, fun_mk (st := s_ini_TooMany) lI3 cI3 kI3, (fun_mk (st := s_ini_TooMany) lI3 cI3 kI3).binds (ps := ["self", "limit"]) fun _ _ _ _ _ _ us hl => match us, hl with | [_, _], _ => rfl⟩, ⟨PySem.W.mg_of X G gC1, ⟨rdB1, gaB1⟩, vB1⟩, ⟨hgR3, hkR3, hsR3, hdR3, haR3, hnR3, htR3, hmR3⟩, PySem.W.exm_ref bC3 hhsb3_3 tC3 sb3_3, PySem.W.exm_ref bC2 hhsb3_2 tC2 sb3_2, TB.kit_own nekt3_TurnprimesError hhkt3_TurnprimesError tC1 kt3_TurnprimesError, TB.kit_blt (by decide +kernel) kt3_ValueError, ⟨hgR2, hkR2, hsR2, hdR2, haR2, hnR2, htR2, hmR2⟩, PySem.W.exm_ref bC3 hhsb2_3 tC3 sb2_3, PySem.W.exm_ref bC2 hhsb2_2 tC2 sb2_2, TB.kit_own nekt2_TurnprimesError hhkt2_TurnprimesError tC1 kt2_TurnprimesError, TB.kit_blt (by decide +kernel) kt2_ValueError, PySem.W.mg_of X G aI1, ⟨_, PySem.W.mg_of X G aN1⟩, A1, A2, A3, A4, A5, A6, A7, A8⟩
  exact ⟨PySem.W.fnOf "law" "law" (defArgs s_law) (defBody s_law) (defScope s_law) .none kV9 dc9 pm9 an9 cd9 ct9, fun s v => .of_eq rfl, fun base _ _ => ok_law T F9⟩
end KK
open PySem PySem.W PyProof.Rows
set_option maxRecDepth 100000 in
set_option maxHeartbeats 0 in
theorem PySem.Challenge.cw_turnprimes_k66_all_squares_holds : PySem.Challenge.rw_turnprimes_k66_all_squares.Holds := by
  w_on; o_law; k_head; (case hw => w_witness2)
  k_fill
  refine TB.law_walk (k := 9) (l := PySem.Challenge.rw_turnprimes_k66_all_squares) rfl rfl ⟨rfl, by decide, by decide⟩ (fun w h Y => PySem.W.kIn_of Y) ?F
  case F =>
    intro w mg fa h KX G hmg
    refine' KK.all_mk KX G hmg ?a1 ?l1 ?c1 ?k1 ?w1 ?a2 ?l2 ?c2 ?k2 ?a3 ?l3 ?c3 ?k3 ?a4 ?l4 ?c4 ?k4 ?a5 ?l5 ?c5 ?k5 ?a6 ?l6 ?c6 ?k6 ?a7 ?l7 ?c7 ?k7 ?a8 ?l8 ?c8 ?k8 ?a9 ?l9 ?c9 ?k9 ?gC1 ?xC1 ?kC1 ?bC1 ?tC1 ?gC2 ?xC2 ?kC2 ?bC2 ?tC2 ?gC3 ?kC3 ?bC3 ?tC3 ?lC3 ?rC3 ?saC3 ?noC3 ?xfC3 ?iC3 ?tI3 ?lI3 ?cI3 ?kI3 ?rdB1 ?gaB1 ?vB1 ?hgR3 ?hkR3 ?hsR3 ?hdR3 ?haR3 ?hnR3 ?htR3 ?hmR3 ?sb3_3 ?hhsb3_3 ?sb3_2 ?hhsb3_2 ?kt3_TurnprimesError ?hhkt3_TurnprimesError ?nekt3_TurnprimesError ?kt3_ValueError ?hgR2 ?hkR2 ?hsR2 ?hdR2 ?haR2 ?hnR2 ?htR2 ?hmR2 ?sb2_3 ?hhsb2_3 ?sb2_2 ?hhsb2_2 ?kt2_TurnprimesError ?hhkt2_TurnprimesError ?nekt2_TurnprimesError ?kt2_ValueError ?aN1 ?aI1 ?z0 ?z1 ?z2 ?z3 ?z4 ?z5 ?z6 ?z7 ?z8
    (case a1 => first | k_is | k_exc | rfl)
    (case l1 => first | k_is | k_exc | rfl)
    (case c1 => first | k_is | k_exc | rfl)
    (case k1 => first | k_is | k_exc | rfl)
    (case w1 => first | k_is | k_exc | rfl)
    (case a2 => first | k_is | k_exc | rfl)
    (case l2 => first | k_is | k_exc | rfl)
    (case c2 => first | k_is | k_exc | rfl)
    (case k2 => first | k_is | k_exc | rfl)
    (case a3 => first | k_is | k_exc | rfl)
    (case l3 => first | k_is | k_exc | rfl)
    (case c3 => first | k_is | k_exc | rfl)
    (case k3 => first | k_is | k_exc | rfl)
    (case a4 => first | k_is | k_exc | rfl)
    (case l4 => first | k_is | k_exc | rfl)
    (case c4 => first | k_is | k_exc | rfl)
    (case k4 => first | k_is | k_exc | rfl)
    (case a5 => first | k_is | k_exc | rfl)
    (case l5 => first | k_is | k_exc | rfl)
    (case c5 => first | k_is | k_exc | rfl)
    (case k5 => first | k_is | k_exc | rfl)
    (case a6 => first | k_is | k_exc | rfl)
    (case l6 => first | k_is | k_exc | rfl)
    (case c6 => first | k_is | k_exc | rfl)
    (case k6 => first | k_is | k_exc | rfl)
    (case a7 => first | k_is | k_exc | rfl)
    (case l7 => first | k_is | k_exc | rfl)
    (case c7 => first | k_is | k_exc | rfl)
    (case k7 => first | k_is | k_exc | rfl)
    (case a8 => first | k_is | k_exc | rfl)
    (case l8 => first | k_is | k_exc | rfl)
    (case c8 => first | k_is | k_exc | rfl)
    (case k8 => first | k_is | k_exc | rfl)
    (case a9 => first | k_is | k_exc | rfl)
    (case l9 => first | k_is | k_exc | rfl)
    (case c9 => first | k_is | k_exc | rfl)
    (case k9 => first | k_is | k_exc | rfl)
    (case gC1 => first | k_is | k_exc | rfl)
    (case xC1 => first | k_is | k_exc | rfl)
    (case kC1 => first | k_is | k_exc | rfl)
    (case bC1 => first | k_is | k_exc | rfl)
    (case tC1 => first | k_is | k_exc | rfl)
    (case gC2 => first | k_is | k_exc | rfl)
    (case xC2 => first | k_is | k_exc | rfl)
    (case kC2 => first | k_is | k_exc | rfl)
    (case bC2 => first | k_is | k_exc | rfl)
    (case tC2 => first | k_is | k_exc | rfl)
    (case gC3 => first | k_is | k_exc | rfl)
    (case kC3 => first | k_is | k_exc | rfl)
    (case bC3 => first | k_is | k_exc | rfl)
    (case tC3 => first | k_is | k_exc | rfl)
    (case lC3 => first | k_is | k_exc | rfl)
    (case rC3 => first | k_is | k_exc | rfl)
    (case saC3 => first | k_is | k_exc | rfl)
    (case noC3 => first | k_is | k_exc | rfl)
    (case xfC3 => first | k_is | k_exc | rfl)
    (case iC3 => first | k_is | k_exc | rfl)
    (case tI3 => first | k_is | k_exc | rfl)
    (case lI3 => first | k_is | k_exc | rfl)
    (case cI3 => first | k_is | k_exc | rfl)
    (case kI3 => first | k_is | k_exc | rfl)
    (case rdB1 => first | k_is | k_exc | rfl)
    (case gaB1 => first | k_is | k_exc | rfl)
    (case vB1 => first | k_is | k_exc | rfl)
    (case hgR3 => first | k_is | k_exc | rfl)
    (case hkR3 => first | k_is | k_exc | rfl)
    (case hsR3 => first | k_is | k_exc | rfl)
    (case hdR3 => first | k_is | k_exc | rfl)
    (case haR3 => first | k_is | k_exc | rfl)
    (case hnR3 => first | k_is | k_exc | rfl)
    (case htR3 => first | k_is | k_exc | rfl)
    (case hmR3 => first | k_is | k_exc | rfl)
    (case sb3_3 => first | k_is | k_exc | rfl)
    (case hhsb3_3 => first | k_is | k_exc | rfl)
    (case sb3_2 => first | k_is | k_exc | rfl)
    (case hhsb3_2 => first | k_is | k_exc | rfl)
    (case kt3_TurnprimesError => first | k_is | k_exc | rfl)
    (case hhkt3_TurnprimesError => first | k_is | k_exc | rfl)
    (case nekt3_TurnprimesError => first | k_is | k_exc | rfl)
    (case kt3_ValueError => first | k_is | k_exc | rfl)
    (case hgR2 => first | k_is | k_exc | rfl)
    (case hkR2 => first | k_is | k_exc | rfl)
    (case hsR2 => first | k_is | k_exc | rfl)
    (case hdR2 => first | k_is | k_exc | rfl)
    (case haR2 => first | k_is | k_exc | rfl)
    (case hnR2 => first | k_is | k_exc | rfl)
    (case htR2 => first | k_is | k_exc | rfl)
    (case hmR2 => first | k_is | k_exc | rfl)
    (case sb2_3 => first | k_is | k_exc | rfl)
    (case hhsb2_3 => first | k_is | k_exc | rfl)
    (case sb2_2 => first | k_is | k_exc | rfl)
    (case hhsb2_2 => first | k_is | k_exc | rfl)
    (case kt2_TurnprimesError => first | k_is | k_exc | rfl)
    (case hhkt2_TurnprimesError => first | k_is | k_exc | rfl)
    (case nekt2_TurnprimesError => first | k_is | k_exc | rfl)
    (case kt2_ValueError => first | k_is | k_exc | rfl)
    (case aN1 => first | k_is | k_exc | rfl)
    (case aI1 => first | k_is | k_exc | rfl)
    (case z0 => first | k_is | k_exc | rfl)
    (case z1 => first | k_is | k_exc | rfl)
    (case z2 => first | k_is | k_exc | rfl)
    (case z3 => first | k_is | k_exc | rfl)
    (case z4 => first | k_is | k_exc | rfl)
    (case z5 => first | k_is | k_exc | rfl)
    (case z6 => first | k_is | k_exc | rfl)
    (case z7 => first | k_is | k_exc | rfl)
    (case z8 => first | k_is | k_exc | rfl)

