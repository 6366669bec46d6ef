import PyProof.Rows.All
import Wide.All
import OpenK.AllK
import Wide.FinOn
import HandS.ForMost
import HandS.ForExc
import HandS.Style
import HandS.Property
import HandS.IsInst
import HandS.Wide
import HandS.ExcIs
import HandS.Star
import HandS.Deep
import HandS.TupAny
import KE.DataCmp
import KE.DatumOrd
import PySem.Challenge.RW_sumslips_k05_sheets_in_order
set_option Elab.async false
set_option linter.all false
set_option maxRecDepth 100000
/-! SXa: a symbolic heap: what is frozen (G), what is owned and may change (M), a frame (F). -/
namespace SX
open PySem PySem.Spec L2

def Ex (H H' : Hp) : Prop := ∀ a o, H a = some o → H' a = some o
theorem Ex.refl (H : Hp) : Ex H H := fun _ _ h => h
theorem Ex.trans {H H1 H2 : Hp} (a : Ex H H1) (b : Ex H1 H2) : Ex H H2 := fun x o h => b x o (a x o h)
theorem Ex.new {H : Hp} {p : Addr} {o : HO} (h : H p = none) : Ex H (upd H p o) := fun a u e => by
  rw [upd_ne (ne_of_none e h)]
  exact e
abbrev Mem := List (Addr × HO)
structure Me (G : Hp) (M : Mem) (H : Hp) : Prop where
  ex : Ex G H
  at_ : ∀ p ∈ M, H p.1 = some p.2 ∧ G p.1 = none
  nd : (M.map (·.1)).Nodup
section
variable {G G' H : Hp} {M M' F : Mem} {p q : Addr} {o o' : HO} {i : Nat}
theorem Me.get (m : Me G M H) (h : M[i]? = some (p, o)) : H p = some o := (m.at_ _ (List.mem_of_getElem? h)).1
theorem get_app (h : M[i]? = some (p, o)) : (M ++ F)[i]? = some (p, o) := by
  rw [List.getElem?_append_left (List.getElem?_eq_some_iff.mp h).1]
  exact h
theorem Me.getF (m : Me G (M ++ F) H) (h : M[i]? = some (p, o)) : H p = some o := m.get (get_app h)
theorem Me.free (m : Me G M H) (h : H p = none) : G p = none := by
  cases e : G p with
  | none => rfl
  | some u =>
    rw [m.ex p u e] at h
    cases h
theorem Me.notin (m : Me G M H) (h : H p = none) : p ∉ M.map (·.1) := fun z => by
  obtain ⟨x, hx, e⟩ := List.mem_map.mp z
  have := (m.at_ x hx).1
  rw [e, h] at this
  cases this
theorem Me.new (m : Me G M H) (h : H p = none) : Me G M (upd H p o) :=
  ⟨m.ex.trans (Ex.new h), fun x hx => ⟨by rw [upd_ne (ne_of_none (m.at_ x hx).1 h)]; exact (m.at_ x hx).1, (m.at_ x hx).2⟩, m.nd⟩
theorem Me.newF (m : Me G M H) (h : H p = none) : Me (upd G p o) M (upd H p o) :=
  ⟨fun a u e => by
    by_cases ha : a = p
    · subst ha
      rw [upd_same] at e ⊢
      exact e
    · rw [upd_ne ha] at e ⊢
      exact m.ex a u e, fun x hx => by
    have hne : x.1 ≠ p := ne_of_none (m.at_ x hx).1 h
    rw [upd_ne hne, upd_ne hne]
    exact m.at_ x hx, m.nd⟩
theorem Me.sub (m : Me G M H) (h : M'.Sublist M) : Me G M' H := ⟨m.ex, fun x hx => m.at_ x (h.subset hx), (m.nd.sublist (h.map _))⟩
theorem Me.perm (m : Me G M H) (h : M'.Perm M) : Me G M' H := ⟨m.ex, fun x hx => m.at_ x (h.mem_iff.mp hx), (h.map _).nodup_iff.mpr m.nd⟩
theorem Me.newM (m : Me G M H) (h : H p = none) : Me G ((p, o) :: M) (upd H p o) :=
  ⟨(m.new h).ex, fun x hx => by
    rcases List.mem_cons.mp hx with rfl | hx
    · exact ⟨upd_same, m.free h⟩
    · exact (m.new h).at_ x hx, List.nodup_cons.mpr ⟨m.notin h, m.nd⟩⟩
theorem Me.newMid (m : Me G (M ++ F) H) (h : H p = none) : Me G ((M ++ [(p, o)]) ++ F) (upd H p o) :=
  (m.newM h).perm (by rw [List.append_assoc]; exact List.perm_middle)
theorem Me.put (m : Me G M H) (h : M[i]? = some (p, o)) : Me G (M.set i (p, o')) (upd H p o') := by
  obtain ⟨hi, e⟩ := List.getElem?_eq_some_iff.mp h
  have hk : (M.set i (p, o')).map (·.1) = M.map (·.1) := by
    rw [List.map_set]
    apply List.ext_getElem?
    intro j
    rw [List.getElem?_set]
    split
    · rename_i hj
      subst hj
      rw [if_pos (by rw [List.length_map]; exact hi), List.getElem?_map, h]
      rfl
    · rfl
  have gp : G p = none := (m.at_ _ (List.mem_of_getElem? h)).2
  refine ⟨fun a u ea => ?_, fun x hx => ?_, by rw [hk]; exact m.nd⟩
  · rw [upd_ne (ne_of_none ea gp)]
    exact m.ex a u ea
  · obtain ⟨j, hj, ej⟩ := List.mem_iff_getElem.mp hx
    rw [List.length_set] at hj
    rw [List.getElem_set] at ej
    by_cases hij : i = j
    · rw [if_pos hij] at ej
      subst ej
      exact ⟨upd_same, gp⟩
    · rw [if_neg hij] at ej
      subst ej
      have hne : M[j].1 ≠ p := fun z => by
        have n := m.nd
        rw [List.nodup_iff_pairwise_ne] at n
        have := List.pairwise_iff_getElem.mp n
        rcases Nat.lt_or_gt_of_ne hij with l | l
        · have q := this i j (by rw [List.length_map]; exact hi) (by rw [List.length_map]; exact hj) l
          rw [List.getElem_map, List.getElem_map, e] at q
          exact q z.symm
        · have q := this j i (by rw [List.length_map]; exact hj) (by rw [List.length_map]; exact hi) l
          rw [List.getElem_map, List.getElem_map, e] at q
          exact q z
      rw [upd_ne hne]
      exact m.at_ _ (List.getElem_mem hj)
theorem set_app {x : Addr × HO} (h : i < M.length) : (M ++ F).set i x = M.set i x ++ F := by
  rw [List.set_append, if_pos h]
theorem Me.putF (m : Me G (M ++ F) H) (h : M[i]? = some (p, o)) : Me G (M.set i (p, o') ++ F) (upd H p o') := by
  rw [← set_app (List.getElem?_eq_some_iff.mp h).1]
  exact m.put (get_app h)
/-- what is owned is frozen -/
theorem Me.freeze (m : Me G ((p, o) :: M) H) : Me (upd G p o) M H ∧ Ex G (upd G p o) := by
  have gp := (m.at_ _ (List.mem_cons_self)).2
  have hp := (m.at_ _ (List.mem_cons_self)).1
  have nd := List.nodup_cons.mp m.nd
  refine ⟨⟨fun a u e => ?_, fun x hx => ?_, nd.2⟩, Ex.new gp⟩
  · by_cases ha : a = p
    · subst ha
      rw [upd_same] at e
      cases e
      exact hp
    · rw [upd_ne ha] at e
      exact m.ex a u e
  · refine ⟨(m.at_ x (List.mem_cons_of_mem _ hx)).1, ?_⟩
    have hne : x.1 ≠ p := fun z => nd.1 (List.mem_map.mpr ⟨x, hx, z⟩)
    rw [upd_ne hne]
    exact (m.at_ x (List.mem_cons_of_mem _ hx)).2
theorem Me.freezeMid (m : Me G (M ++ (p, o) :: F) H) : Me (upd G p o) (M ++ F) H ∧ Ex G (upd G p o) := (m.perm List.perm_middle.symm).freeze
theorem Me.freezeLast (m : Me G ((M ++ [(p, o)]) ++ F) H) : Me (upd G p o) (M ++ F) H ∧ Ex G (upd G p o) := by
  rw [List.append_assoc] at m
  exact m.freezeMid
theorem Me.dropLast (m : Me G ((M ++ M') ++ F) H) : Me G (M ++ F) H := m.sub (by
  rw [List.append_assoc]
  exact List.Sublist.append_left (List.sublist_append_right _ _) _)
end

/-! ### data -/
section
variable {K : PySem.W.Frag} {G G' H : Hp}
theorem ex_rd {a : Addr} {u : HO} (e : Ex G G') (h : Rd G a u) : Rd G' a u := by
  rcases h with h | ⟨o, h⟩
  · exact .inl (e a _ h)
  · exact .inr ⟨o, e a _ h⟩
theorem ex_l {a : Addr} {xs : List V} (e : Ex G G') (h : SqL K G a xs) : SqL K G' a xs := by
  rcases h with h | h
  · exact .inl (ex_rd e h)
  · exact .inr h
theorem ex_t {a : Addr} {xs : List V} (e : Ex G G') (h : SqT K G a xs) : SqT K G' a xs := by
  rcases h with h | h
  · exact .inl (ex_rd e h)
  · exact .inr h
mutual
theorem Dp.ex (e : Ex G G') : ∀ (d : PyData) (v : V), Dp K G v d → Dp K G' v d
  | .none, _, h => by cases h; exact .non
  | .bool b, _, h => by cases h; exact .bl b
  | .int i, _, h => by cases h; exact .int i
  | .str x, _, h => by cases h; exact .str x
  | .list ds, _, h => by
    cases h with
    | lst hs ha => exact .lst (ex_l e hs) (DpAll.ex e ds _ ha)
  | .tuple ds, _, h => by
    cases h with
    | tup hs ha => exact .tup (ex_t e hs) (DpAll.ex e ds _ ha)
  | .dict _, _, h => by cases h
theorem DpAll.ex (e : Ex G G') : ∀ (ds : List PyData) (vs : List V), DpAll K G vs ds → DpAll K G' vs ds
  | [], _, h => by cases h; exact .nil
  | d :: ds, _, h => by
    cases h with
    | cons h1 h2 => exact .cons (Dp.ex e d _ h1) (DpAll.ex e ds _ h2)
end
theorem dm {v : V} {d : PyData} (h : Dp K G v d) (e : Ex G G') : Dp K G' v d := Dp.ex e d v h
theorem dma {vs : List V} {ds : List PyData} (h : DpAll K G vs ds) (e : Ex G G') : DpAll K G' vs ds := DpAll.ex e ds vs h
theorem dpa_len : ∀ {vs : List V} {ds : List PyData}, DpAll K G vs ds → vs.length = ds.length
  | _, [], h => by cases h; rfl
  | _, d :: ds, h => by
    cases h with
    | cons _ h2 => simp [dpa_len h2]
theorem dpa_at : ∀ {vs : List V} {ds : List PyData} {i : Nat} {d : PyData}, DpAll K G vs ds → ds[i]? = some d → ∃ v, vs[i]? = some v ∧ Dp K G v d
  | _, [], _, _, _, e => by simp at e
  | _, d :: ds, 0, _, h, e => by
    cases h with
    | cons h1 _ => exact ⟨_, rfl, by have := Option.some.inj e; rw [← this]; exact h1⟩
  | _, d :: ds, i + 1, _, h, e => by
    cases h with
    | cons _ h2 => exact dpa_at (i := i) h2 e
theorem dpa_atV : ∀ {vs : List V} {ds : List PyData} {i : Nat} {v : V}, DpAll K G vs ds → vs[i]? = some v → ∃ d, ds[i]? = some d ∧ Dp K G v d
  | _, [], _, _, h, e => by cases h; simp at e
  | _, d :: ds, 0, _, h, e => by
    cases h with
    | cons h1 _ => exact ⟨_, rfl, by have := Option.some.inj e; rw [← this]; exact h1⟩
  | _, d :: ds, i + 1, _, h, e => by
    cases h with
    | cons _ h2 => exact dpa_atV (i := i) h2 e
theorem dpa_app : ∀ {vs ws : List V} {ds es : List PyData}, DpAll K G vs ds → DpAll K G ws es → DpAll K G (vs ++ ws) (ds ++ es)
  | _, _, [], _, h, h' => by cases h; exact h'
  | _, _, d :: ds, _, h, h' => by
    cases h with
    | cons h1 h2 => exact .cons h1 (dpa_app h2 h')
theorem dp_int {v : V} {n : Int} (h : Dp K G v (.int n)) : v = .int n := by cases h; rfl
theorem dp_bl {v : V} {n : Bool} (h : Dp K G v (.bool n)) : v = .bl n := by cases h; rfl
theorem dp_str {v : V} {n : Str} (h : Dp K G v (.str n)) : v = .str n := by cases h; rfl
theorem dp_non {v : V} (h : Dp K G v .none) : v = .non := by cases h; rfl
theorem dp_tup {v : V} {ds : List PyData} (h : Dp K G v (.tuple ds)) : ∃ a xs, v = .ref a ∧ SqT K G a xs ∧ DpAll K G xs ds := by
  cases h with
  | tup a b => exact ⟨_, _, rfl, a, b⟩
theorem dp_lst {v : V} {ds : List PyData} (h : Dp K G v (.list ds)) : ∃ a xs, v = .ref a ∧ SqL K G a xs ∧ DpAll K G xs ds := by
  cases h with
  | lst a b => exact ⟨_, _, rfl, a, b⟩
theorem dpAll_ints : ∀ {vs : List V} {ns : List Int}, DpAll K G vs (ns.map .int) → vs = ns.map V.int
  | _, [], h => by cases h; rfl
  | _, n :: ns, h => by
    cases h with
    | cons h1 h2 => rw [dp_int h1, dpAll_ints h2]; rfl
theorem ints_dpAll : ∀ (ns : List Int), DpAll K G (ns.map V.int) (ns.map .int)
  | [] => .nil
  | n :: ns => .cons (.int n) (ints_dpAll ns)
theorem dpAll_bls : ∀ {vs : List V} {ns : List Bool}, DpAll K G vs (ns.map .bool) → vs = ns.map V.bl
  | _, [], h => by cases h; rfl
  | _, n :: ns, h => by
    cases h with
    | cons h1 h2 => rw [dp_bl h1, dpAll_bls h2]; rfl
end
end SX

set_option Elab.async false
set_option linter.all false
set_option maxRecDepth 100000
/-! SXb: what an expression comes to, over the symbolic heap. -/
namespace SX
open PySem PySem.Spec L2

abbrev Post := Hp → V → Mem → Prop
abbrev isP (P : Hp → V → Prop) (M : Mem) : Post := fun G v M' => P G v ∧ M' = M
abbrev isV (x : V) (M : Mem) : Post := isP (fun _ v => v = x) M
abbrev isD (K : PySem.W.Frag) (d : PyData) (M : Mem) : Post := isP (fun G v => Dp K G v d) M
def Ev (te : TE) (σ : St) (G : Hp) (M : Mem) (R : Post) : Prop := ∀ G1 H F, Ex G G1 → Me G1 (M ++ F) H → ∀ Q : VK, (∀ v G2 M2 H2, Ex G1 G2 → Me G2 (M2 ++ F) H2 → R G2 v M2 → Q v H2) → te σ H Q
def EvT (tt : TT) (σ : St) (G : Hp) (M : Mem) (b : Bool) (M' : Mem) : Prop := ∀ G1 H F, Ex G G1 → Me G1 (M ++ F) H → ∀ Q : Bool → Hp → Prop, (∀ G2 H2, Ex G1 G2 → Me G2 (M' ++ F) H2 → Q b H2) → tt σ H Q
def AllP (G : Hp) : List (Hp → V → Prop) → List V → Prop
  | [], [] => True
  | P :: Ps, v :: vs => P G v ∧ AllP G Ps vs
  | _, _ => False
def EvA (ta : TA) (σ : St) (G : Hp) (M : Mem) (Ps : List (Hp → V → Prop)) (M' : Mem) : Prop := ∀ G1 H F, Ex G G1 → Me G1 (M ++ F) H → ∀ Q : List V → Hp → Prop, (∀ vs G2 H2, Ex G1 G2 → Me G2 (M' ++ F) H2 → AllP G2 Ps vs → Q vs H2) → ta σ H Q
class Mono (P : Hp → V → Prop) : Prop where
  mono : ∀ G G' v, Ex G G' → P G v → P G' v
instance {x : V} : Mono (fun _ v => v = x) := ⟨fun _ _ _ _ h => h⟩
instance {K : PySem.W.Frag} {d : PyData} : Mono (fun G v => Dp K G v d) := ⟨fun _ _ _ e h => dm h e⟩
/-- what stands at an address, whoever owns it -/
def At (G : Hp) (M : Mem) (a : Addr) (o : HO) : Prop := ∀ G1 H F, Ex G G1 → Me G1 (M ++ F) H → H a = some o
theorem At.G {G : Hp} {M : Mem} {a : Addr} {o : HO} (h : G a = some o) : At G M a o := fun _ _ _ e m => m.ex _ _ (e _ _ h)
theorem At.M {G : Hp} {M : Mem} {a : Addr} {o : HO} {i : Nat} (h : M[i]? = some (a, o)) : At G M a o := fun _ _ _ _ m => m.getF h
theorem At.ex {G G' : Hp} {M : Mem} {a : Addr} {o : HO} (h : At G M a o) (e : Ex G G') : At G' M a o := fun G1 H F e1 m => h G1 H F (e.trans e1) m
def AtL (K : PySem.W.Frag) (G : Hp) (M : Mem) (a : Addr) (xs : List V) : Prop := ∀ G1 H F, Ex G G1 → Me G1 (M ++ F) H → SqL K H a xs
def AtT (K : PySem.W.Frag) (G : Hp) (M : Mem) (a : Addr) (xs : List V) : Prop := ∀ G1 H F, Ex G G1 → Me G1 (M ++ F) H → SqT K H a xs
theorem AtL.of {K : PySem.W.Frag} {G : Hp} {M : Mem} {a : Addr} {xs : List V} (h : At G M a (.lst xs)) : AtL K G M a xs := fun _ _ _ e m => SqL.of (h _ _ _ e m)
theorem AtL.M {K : PySem.W.Frag} {G : Hp} {M : Mem} {a : Addr} {xs : List V} {i : Nat} (h : M[i]? = some (a, .lst xs)) : AtL K G M a xs := .of (.M h)
theorem AtL.G {K : PySem.W.Frag} {G : Hp} {M : Mem} {a : Addr} {xs : List V} (h : SqL K G a xs) : AtL K G M a xs := fun _ _ _ e m => ex_l m.ex (ex_l e h)
theorem AtT.G {K : PySem.W.Frag} {G : Hp} {M : Mem} {a : Addr} {xs : List V} (h : SqT K G a xs) : AtT K G M a xs := fun _ _ _ e m => ex_t m.ex (ex_t e h)
theorem AtL.ex {K : PySem.W.Frag} {G G' : Hp} {M : Mem} {a : Addr} {xs : List V} (h : AtL K G M a xs) (e : Ex G G') : AtL K G' M a xs := fun G1 H F e1 m => h G1 H F (e.trans e1) m

section
variable {K : PySem.W.Frag} {σ : St} {G G' H : Hp} {M M1 M2 M3 F : Mem} {R : Post} {ta tb tc te : TE} {tt tu : TT} {x y z : V} {d e : PyData} {a b c : Bool} {i j : Int} {P P1 P2 : Hp → V → Prop} {Ps : List (Hp → V → Prop)}
theorem Ev.mono (h : Ev te σ G M R) (e : Ex G G') : Ev te σ G' M R := fun G1 H F e1 m Q q => h G1 H F (e.trans e1) m Q q
theorem EvT.mono (h : EvT tt σ G M a M1) (e : Ex G G') : EvT tt σ G' M a M1 := fun G1 H F e1 m Q q => h G1 H F (e.trans e1) m Q q
theorem Ev.imp {R' : Post} (h : Ev te σ G M R) (f : ∀ G1 v M1, Ex G G1 → R G1 v M1 → R' G1 v M1) : Ev te σ G M R' := fun G1 H F e m Q q => h G1 H F e m Q fun v G2 M2 H2 e2 m2 r => q v G2 M2 H2 e2 m2 (f _ _ _ (e.trans e2) r)
theorem Ev.impP (h : Ev te σ G M (isP P M1)) (f : ∀ G1 v, Ex G G1 → P G1 v → P1 G1 v) : Ev te σ G M (isP P1 M1) := h.imp fun G1 v M2 e r => ⟨f _ _ e r.1, r.2⟩
theorem ev_var {k : Nat} (h : σ[k]? = some (some x)) : Ev (tVar k) σ G M (isV x M) := fun _ _ _ _ m _ q => ⟨x, h, q x _ _ _ (Ex.refl _) m ⟨rfl, rfl⟩⟩
theorem ev_varP {k : Nat} [Mono P] (h : σ[k]? = some (some x)) (hp : P G x) : Ev (tVar k) σ G M (isP P M) := fun _ _ _ e m _ q => ⟨x, h, q x _ _ _ (Ex.refl _) m ⟨Mono.mono _ _ _ e hp, rfl⟩⟩
theorem ev_c : Ev (tC x) σ G M (isV x M) := fun _ _ _ _ m _ q => q x _ _ _ (Ex.refl _) m ⟨rfl, rfl⟩
theorem Ev.toD (h : Ev te σ G M (isV x M1)) (hd : ∀ G, Dp K G x d) : Ev te σ G M (isD K d M1) := h.impP fun G1 v _ e => by
  rw [e]
  exact hd G1
theorem ev_dI (h : Ev te σ G M (isD K (.int i) M1)) : Ev te σ G M (isV (.int i) M1) := h.impP fun _ _ _ e => dp_int e
theorem ev_dB (h : Ev te σ G M (isD K (.bool a) M1)) : Ev te σ G M (isV (.bl a) M1) := h.impP fun _ _ _ e => dp_bl e
theorem ev_dS {s : Str} (h : Ev te σ G M (isD K (.str s) M1)) : Ev te σ G M (isV (.str s) M1) := h.impP fun _ _ _ e => dp_str e
theorem ev_iD (h : Ev te σ G M (isV (.int i) M1)) : Ev te σ G M (isD K (.int i) M1) := h.toD fun _ => .int i
theorem ev_bD (h : Ev te σ G M (isV (.bl a) M1)) : Ev te σ G M (isD K (.bool a) M1) := h.toD fun _ => .bl a
theorem ev_sD {s : Str} (h : Ev te σ G M (isV (.str s) M1)) : Ev te σ G M (isD K (.str s) M1) := h.toD fun _ => .str s
theorem ev_nD (h : Ev te σ G M (isV .non M1)) : Ev te σ G M (isD K .none M1) := h.toD fun _ => .non
/-- one value, then another, then an operation on both -/
theorem ev_op {r : R2} [Mono P1] (h1 : Ev ta σ G M (isP P1 M1)) (h2 : Ev tb σ G M1 (isP P2 M2))
    (hr : ∀ G1 H F x y, Ex G G1 → Me G1 (M2 ++ F) H → P1 G1 x → P2 G1 y → ∀ Q : VK, (∀ v G2 M3 H2, Ex G1 G2 → Me G2 (M3 ++ F) H2 → R G2 v M3 → Q v H2) → r x y H Q) : Ev (tOp r ta tb) σ G M R := fun G1 H F e m Q q =>
  h1 G1 H F e m _ fun x G2 M2' H2 e2 m2 r1 => by
    obtain ⟨p1, rfl⟩ := r1
    refine h2 G2 H2 F (e.trans e2) m2 _ fun y G3 M3' H3 e3 m3 r2 => ?_
    obtain ⟨p2, rfl⟩ := r2
    exact hr G3 H3 F x y ((e.trans e2).trans e3) m3 (Mono.mono _ _ _ e3 p1) p2 Q fun v G4 M4 H4 e4 m4 r4 => q v G4 M4 H4 ((e2.trans e3).trans e4) m4 r4
/-- an operation of two values that leaves the heap -/
theorem ev_opV {r : R2} (h1 : Ev ta σ G M (isV x M1)) (h2 : Ev tb σ G M1 (isV y M2)) (hr : ∀ H (Q : VK), Q z H → r x y H Q) : Ev (tOp r ta tb) σ G M (isV z M2) :=
  ev_op h1 h2 fun G1 H F x' y' e m p1 p2 Q q => by
    subst p1 p2
    exact hr H Q (q z G1 _ H (Ex.refl _) m ⟨rfl, rfl⟩)
theorem ev_I0 {g : Int → Int → V} (h1 : Ev ta σ G M (isV (.int i) M1)) (h2 : Ev tb σ G M1 (isV (.int j) M2)) : Ev (tOp (rI0 g) ta tb) σ G M (isV (g i j) M2) := ev_opV h1 h2 fun H Q q => ⟨i, j, rfl, rfl, q⟩
theorem ev_I {C : Int → Int → Prop} {g : Int → Int → V} (h1 : Ev ta σ G M (isV (.int i) M1)) (h2 : Ev tb σ G M1 (isV (.int j) M2)) (hc : C i j) : Ev (tOp (rI C g) ta tb) σ G M (isV (g i j) M2) := ev_opV h1 h2 fun H Q q => ⟨i, j, rfl, rfl, hc, q⟩
theorem ev_eqV (h1 : Ev ta σ G M (isV x M1)) (h2 : Ev tb σ G M1 (isV y M2)) (hs : scal x y = true) : Ev (tOp rEq ta tb) σ G M (isV (.bl (decide (x = y))) M2) := ev_opV h1 h2 fun H Q q => ⟨hs, q⟩
theorem ev_neV (h1 : Ev ta σ G M (isV x M1)) (h2 : Ev tb σ G M1 (isV y M2)) (hs : scal x y = true) : Ev (tOp rNe ta tb) σ G M (isV (.bl (!decide (x = y))) M2) := ev_opV h1 h2 fun H Q q => ⟨hs, q⟩
theorem ev_eqI (h1 : Ev ta σ G M (isV (.int i) M1)) (h2 : Ev tb σ G M1 (isV (.int j) M2)) : Ev (tOp rEq ta tb) σ G M (isV (.bl (decide (i = j))) M2) :=
  ev_opV h1 h2 fun H Q q => ⟨rfl, by rw [show decide (V.int i = V.int j) = decide (i = j) by rw [decide_eq_decide]; exact ⟨fun h => by cases h; rfl, fun h => by rw [h]⟩]; exact q⟩
theorem ev_neI (h1 : Ev ta σ G M (isV (.int i) M1)) (h2 : Ev tb σ G M1 (isV (.int j) M2)) : Ev (tOp rNe ta tb) σ G M (isV (.bl (!decide (i = j))) M2) :=
  ev_opV h1 h2 fun H Q q => ⟨rfl, by rw [show decide (V.int i = V.int j) = decide (i = j) by rw [decide_eq_decide]; exact ⟨fun h => by cases h; rfl, fun h => by rw [h]⟩]; exact q⟩
theorem ev_eqS {s t : Str} (h1 : Ev ta σ G M (isV (.str s) M1)) (h2 : Ev tb σ G M1 (isV (.str t) M2)) : Ev (tOp rEq ta tb) σ G M (isV (.bl (decide (s = t))) M2) :=
  ev_opV h1 h2 fun H Q q => ⟨rfl, by rw [show decide (V.str s = V.str t) = decide (s = t) by rw [decide_eq_decide]; exact ⟨fun h => by cases h; rfl, fun h => by rw [h]⟩]; exact q⟩
theorem ev_neS {s t : Str} (h1 : Ev ta σ G M (isV (.str s) M1)) (h2 : Ev tb σ G M1 (isV (.str t) M2)) : Ev (tOp rNe ta tb) σ G M (isV (.bl (!decide (s = t))) M2) :=
  ev_opV h1 h2 fun H Q q => ⟨rfl, by rw [show decide (V.str s = V.str t) = decide (s = t) by rw [decide_eq_decide]; exact ⟨fun h => by cases h; rfl, fun h => by rw [h]⟩]; exact q⟩
theorem ev_eqD (h1 : Ev ta σ G M (isD K d M1)) (h2 : Ev tb σ G M1 (isD K e M2)) (s1 : SeqAt.shaped d = true) (s2 : SeqAt.shaped e = true) : Ev (tOp (rEqD K) ta tb) σ G M (isV (.bl (PyData.eqv d e)) M2) :=
  ev_op h1 h2 fun G1 H F x' y' ex m p1 p2 Q q => ⟨d, e, dm p1 m.ex, dm p2 m.ex, s1, s2, q _ G1 _ H (Ex.refl _) m ⟨rfl, rfl⟩⟩
theorem ev_neD (h1 : Ev ta σ G M (isD K d M1)) (h2 : Ev tb σ G M1 (isD K e M2)) (s1 : SeqAt.shaped d = true) (s2 : SeqAt.shaped e = true) : Ev (tOp (rNeD K) ta tb) σ G M (isV (.bl (!PyData.eqv d e)) M2) :=
  ev_op h1 h2 fun G1 H F x' y' ex m p1 p2 Q q => ⟨d, e, dm p1 m.ex, dm p2 m.ex, s1, s2, q _ G1 _ H (Ex.refl _) m ⟨rfl, rfl⟩⟩
theorem ev_un {r : V → Hp → VK → Prop} (h1 : Ev ta σ G M (isV x M1)) (hr : ∀ H (Q : VK), Q z H → r x H Q) : Ev (tUn r ta) σ G M (isV z M1) := fun G1 H F e m Q q =>
  h1 G1 H F e m _ fun v G2 M2' H2 e2 m2 r1 => by
    obtain ⟨rfl, rfl⟩ := r1
    exact hr H2 Q (q z G2 _ H2 e2 m2 ⟨rfl, rfl⟩)
theorem ev_neg (h1 : Ev ta σ G M (isV (.int i) M1)) : Ev (tUn (rU fun i => .int (-i)) ta) σ G M (isV (.int (-i)) M1) := ev_un h1 fun H Q q => ⟨i, rfl, q⟩
/-! tests -/
theorem et_test (h : Ev te σ G M (isV (.bl a) M1)) : EvT (tTest te) σ G M a M1 := fun G1 H F e m Q q => h G1 H F e m _ fun v G2 M2 H2 e2 m2 r => by
  obtain ⟨rfl, rfl⟩ := r
  exact ⟨a, rfl, q G2 H2 e2 m2⟩
theorem et_B (h : Ev te σ G M (isV (.bl a) M1)) : EvT (tB te) σ G M a M1 := fun G1 H F e m Q q => h G1 H F e m _ fun v G2 M2 H2 e2 m2 r => by
  obtain ⟨rfl, rfl⟩ := r
  exact ⟨a, rfl, q G2 H2 e2 m2⟩
theorem et_not (h : EvT tt σ G M a M1) : EvT (tNot tt) σ G M (!a) M1 := fun G1 H F e m Q q => h G1 H F e m _ fun G2 H2 e2 m2 => q G2 H2 e2 m2
theorem et_and (h1 : EvT tt σ G M a M1) (h2 : a = true → EvT tu σ G M1 b M1) : EvT (tAnd tt tu) σ G M (a && b) M1 := fun G1 H F e m Q q => h1 G1 H F e m _ fun G2 H2 e2 m2 => by
  cases a with
  | true =>
    show (if true = true then _ else _)
    rw [if_pos rfl]
    exact h2 rfl G2 H2 F (e.trans e2) m2 Q fun G3 H3 e3 m3 => q G3 H3 (e2.trans e3) m3
  | false =>
    show (if false = true then _ else _)
    rw [if_neg Bool.false_ne_true]
    exact q G2 H2 e2 m2
theorem et_or (h1 : EvT tt σ G M a M1) (h2 : a = false → EvT tu σ G M1 b M1) : EvT (tOr tt tu) σ G M (a || b) M1 := fun G1 H F e m Q q => h1 G1 H F e m _ fun G2 H2 e2 m2 => by
  cases a with
  | true =>
    show (if true = true then _ else _)
    rw [if_pos rfl]
    exact q G2 H2 e2 m2
  | false =>
    show (if false = true then _ else _)
    rw [if_neg Bool.false_ne_true]
    exact h2 rfl G2 H2 F (e.trans e2) m2 Q fun G3 H3 e3 m3 => q G3 H3 (e2.trans e3) m3
theorem ev_andV (h1 : Ev ta σ G M (isV (.bl a) M1)) (h2 : a = true → Ev tb σ G M1 (isV (.bl b) M1)) : Ev (tAndV ta tb) σ G M (isV (.bl (a && b)) M1) := fun G1 H F e m Q q => h1 G1 H F e m _ fun v G2 M2 H2 e2 m2 r => by
  obtain ⟨rfl, rfl⟩ := r
  refine ⟨a, rfl, ?_⟩
  cases a with
  | true =>
    rw [if_pos rfl]
    exact h2 rfl G2 H2 F (e.trans e2) m2 Q fun v G3 M3 H3 e3 m3 r3 => q v G3 M3 H3 (e2.trans e3) m3 r3
  | false =>
    rw [if_neg Bool.false_ne_true]
    exact q _ G2 _ H2 e2 m2 ⟨rfl, rfl⟩
theorem ev_orV (h1 : Ev ta σ G M (isV (.bl a) M1)) (h2 : a = false → Ev tb σ G M1 (isV (.bl b) M1)) : Ev (tOrV ta tb) σ G M (isV (.bl (a || b)) M1) := fun G1 H F e m Q q => h1 G1 H F e m _ fun v G2 M2 H2 e2 m2 r => by
  obtain ⟨rfl, rfl⟩ := r
  refine ⟨a, rfl, ?_⟩
  cases a with
  | true =>
    rw [if_pos rfl]
    exact q _ G2 _ H2 e2 m2 ⟨rfl, rfl⟩
  | false =>
    rw [if_neg Bool.false_ne_true]
    exact h2 rfl G2 H2 F (e.trans e2) m2 Q fun v G3 M3 H3 e3 m3 r3 => q v G3 M3 H3 (e2.trans e3) m3 r3
theorem ev_notV (h1 : Ev ta σ G M (isV (.bl a) M1)) : Ev (tNotV ta) σ G M (isV (.bl (!a)) M1) := fun G1 H F e m Q q => h1 G1 H F e m _ fun v G2 M2 H2 e2 m2 r => by
  obtain ⟨rfl, rfl⟩ := r
  exact ⟨a, rfl, q _ G2 _ H2 e2 m2 ⟨rfl, rfl⟩⟩
theorem ev_isN (h : Ev ta σ G M (isV x M1)) : Ev (tIsN ta) σ G M (isV (.bl (decide (x = .non))) M1) := fun G1 H F e m Q q => h G1 H F e m _ fun v G2 M2 H2 e2 m2 r => by
  obtain ⟨rfl, rfl⟩ := r
  exact q _ G2 _ H2 e2 m2 ⟨rfl, rfl⟩
theorem ev_notN (h : Ev ta σ G M (isV x M1)) : Ev (tNotN ta) σ G M (isV (.bl (!decide (x = .non))) M1) := fun G1 H F e m Q q => h G1 H F e m _ fun v G2 M2 H2 e2 m2 r => by
  obtain ⟨rfl, rfl⟩ := r
  exact q _ G2 _ H2 e2 m2 ⟨rfl, rfl⟩
/-- a if t else b -/
theorem ev_if (h : EvT tt σ G M a M1) (h1 : a = true → Ev ta σ G M1 R) (h2 : a = false → Ev tb σ G M1 R) : Ev (tIf tt ta tb) σ G M R := fun G1 H F e m Q q => h G1 H F e m _ fun G2 H2 e2 m2 => by
  cases a with
  | true =>
    show (if true = true then _ else _)
    rw [if_pos rfl]
    exact h1 rfl G2 H2 F (e.trans e2) m2 Q fun v G3 M3 H3 e3 m3 r3 => q v G3 M3 H3 (e2.trans e3) m3 r3
  | false =>
    show (if false = true then _ else _)
    rw [if_neg Bool.false_ne_true]
    exact h2 rfl G2 H2 F (e.trans e2) m2 Q fun v G3 M3 H3 e3 m3 r3 => q v G3 M3 H3 (e2.trans e3) m3 r3
/-- i <= x <= j -/
theorem ev_chainI {r r' : R2} {P P' : Int → Int → Bool} {k : Int} (h1 : Ev ta σ G M (isV (.int i) M1)) (h2 : Ev tb σ G M1 (isV (.int j) M2)) (h3 : Ev tc σ G M2 (isV (.int k) M2))
    (hr : ∀ H (Q : VK), Q (.bl (P i j)) H → r (.int i) (.int j) H Q) (hr' : ∀ H (Q : VK), Q (.bl (P' j k)) H → r' (.int j) (.int k) H Q) : Ev (tChain r r' ta tb tc) σ G M (isV (.bl (P i j && P' j k)) M2) := fun G1 H F e m Q q =>
  h1 G1 H F e m _ fun v G2 M2' H2 e2 m2 r2 => by
    obtain ⟨rfl, rfl⟩ := r2
    refine h2 G2 H2 F (e.trans e2) m2 _ fun v G3 M3' H3 e3 m3 r3 => ?_
    obtain ⟨rfl, rfl⟩ := r3
    refine hr _ _ ⟨_, rfl, ?_⟩
    generalize P i j = pij at q ⊢
    cases pij with
    | true =>
      show (if true = true then _ else _)
      rw [if_pos rfl]
      refine h3 G3 H3 F ((e.trans e2).trans e3) m3 _ fun v G4 M4' H4 e4 m4 r4 => ?_
      obtain ⟨rfl, rfl⟩ := r4
      exact hr' _ _ (q _ G4 _ H4 ((e2.trans e3).trans e4) m4 ⟨by rw [Bool.true_and], rfl⟩)
    | false =>
      show (if false = true then _ else _)
      rw [if_neg Bool.false_ne_true]
      exact q _ G3 _ H3 (e2.trans e3) m3 ⟨by rw [Bool.false_and], rfl⟩
/-! arguments -/
theorem ea_nil : EvA tNil σ G M [] M := fun _ _ _ _ m _ q => q [] _ _ (Ex.refl _) m trivial
theorem ea_cons {tr : TA} [Mono P] (h1 : Ev ta σ G M (isP P M1)) (h2 : EvA tr σ G M1 Ps M2) : EvA (tCons ta tr) σ G M (P :: Ps) M2 := fun G1 H F e m Q q =>
  h1 G1 H F e m _ fun v G2 M2' H2 e2 m2 r => by
    obtain ⟨p, rfl⟩ := r
    exact h2 G2 H2 F (e.trans e2) m2 _ fun vs G3 H3 e3 m3 a => q (v :: vs) G3 H3 (e2.trans e3) m3 ⟨Mono.mono _ _ _ e3 p, a⟩
/-- data from arguments -/
theorem allD : ∀ {ds : List PyData} {vs : List V}, AllP G (ds.map fun d => fun G v => Dp K G v d) vs → DpAll K G vs ds
  | [], [], _ => .nil
  | [], _ :: _, h => h.elim
  | _ :: _, [], h => h.elim
  | _ :: _, _ :: _, h => .cons h.1 (allD h.2)
/-- a written tuple, a written list, of data -/
theorem ev_tup {t : TA} {ds : List PyData} (h : EvA t σ G M (ds.map fun d => fun G v => Dp K G v d) M1) (hl : ds.length ≤ 1000) : Ev (tTup t) σ G M (isD K (.tuple ds) M1) := fun G1 H F e m Q q =>
  h G1 H F e m _ fun vs G2 H2 e2 m2 a => ⟨by rw [dpa_len (allD (K := K) a)]; exact Nat.le_of_lt (small1000 hl), fun p hp => by
    have g2 := m2.free hp
    exact q _ _ _ _ (e2.trans (Ex.new g2)) (m2.newF hp) ⟨.tup (SqT.of upd_same) (dma (allD a) (Ex.new g2)), rfl⟩⟩
theorem ev_lst {t : TA} {ds : List PyData} (h : EvA t σ G M (ds.map fun d => fun G v => Dp K G v d) M1) (hl : ds.length ≤ 1000) : Ev (tLst t) σ G M (isD K (.list ds) M1) := fun G1 H F e m Q q =>
  h G1 H F e m _ fun vs G2 H2 e2 m2 a => ⟨by rw [dpa_len (allD (K := K) a)]; exact Nat.le_of_lt (small1000 hl), fun p hp => by
    have g2 := m2.free hp
    exact q _ _ _ _ (e2.trans (Ex.new g2)) (m2.newF hp) ⟨.lst (SqL.of upd_same) (dma (allD a) (Ex.new g2)), rfl⟩⟩
/-- a written list that is owned: it may change -/
theorem ev_lstM {t : TA} (h : EvA t σ G M Ps M1) (hl : ∀ G vs, AllP G Ps vs → vs.length ≤ 1000) : Ev (tLst t) σ G M (fun G v M' => ∃ p vs, v = .ref p ∧ M' = M1 ++ [(p, .lst vs)] ∧ AllP G Ps vs) := fun G1 H F e m Q q =>
  h G1 H F e m _ fun vs G2 H2 e2 m2 a => ⟨Nat.le_of_lt (small1000 (hl _ _ a)), fun p hp => q _ _ _ _ e2 (m2.newMid hp) ⟨p, vs, rfl, rfl, a⟩⟩
/-! subscripts -/
theorem ev_ixL {p : Addr} {xs : List V} (h1 : Ev ta σ G M (isV (.ref p) M1)) (h2 : Ev tb σ G M1 (isV (.int i) M2)) (hL : AtL K G M2 p xs) (hx : atI xs i = some x) : Ev (tOp (rIxL K) ta tb) σ G M (isV x M2) :=
  ev_op h1 h2 fun G1 H F x' y' e m p1 p2 Q q => by
    subst p1 p2
    exact ⟨p, xs, i, x, rfl, rfl, hL G1 H F e m, hx, q _ _ _ _ (Ex.refl _) m ⟨rfl, rfl⟩⟩
theorem ixN_lt {n : Nat} {i : Int} {k : Nat} (h : ixN n i = some k) : k < n := by
  unfold ixN at h
  split at h
  · split at h
    · cases h
      omega
    · cases h
  · split at h
    · cases h
      omega
    · cases h
theorem ev_ixDL {ds : List PyData} (h1 : Ev ta σ G M (isD K (.list ds) M1)) (h2 : Ev tb σ G M1 (isV (.int i) M2)) (hx : atI ds i = some d) : Ev (tOp (rIxL K) ta tb) σ G M (isD K d M2) :=
  ev_op h1 h2 fun G1 H F x' y' e m p1 p2 Q q => by
    subst p2
    obtain ⟨a, xs, rfl, hs, ha⟩ := dp_lst p1
    unfold atI at hx
    obtain ⟨k, hk, hd⟩ := Option.bind_eq_some_iff.mp hx
    obtain ⟨v, hv, dv⟩ := dpa_at ha hd
    exact ⟨a, xs, i, v, rfl, rfl, ex_l m.ex hs, by unfold atI; rw [dpa_len ha, hk]; exact hv, q _ _ _ _ (Ex.refl _) m ⟨dv, rfl⟩⟩
theorem ev_ixDT {ds : List PyData} (h1 : Ev ta σ G M (isD K (.tuple ds) M1)) (h2 : Ev tb σ G M1 (isV (.int i) M2)) (hx : atI ds i = some d) : Ev (tOp (rIxT K) ta tb) σ G M (isD K d M2) :=
  ev_op h1 h2 fun G1 H F x' y' e m p1 p2 Q q => by
    subst p2
    obtain ⟨a, xs, rfl, hs, ha⟩ := dp_tup p1
    unfold atI at hx
    obtain ⟨k, hk, hd⟩ := Option.bind_eq_some_iff.mp hx
    obtain ⟨v, hv, dv⟩ := dpa_at ha hd
    exact ⟨a, xs, i, v, rfl, rfl, ex_t m.ex hs, by unfold atI; rw [dpa_len ha, hk]; exact hv, q _ _ _ _ (Ex.refl _) m ⟨dv, rfl⟩⟩
/-! attributes -/
theorem ev_fld {p C dx : Addr} {fs : List (Str × V)} {f : Str} (h1 : Ev ta σ G M (isV (.ref p) M1)) (ha : At G M1 p (.ins C dx fs)) (hc : Cls K C) (hn : NoAttr K C f) (hl : fs.lookup f = some x) : Ev (tFld K ta f) σ G M (isV x M1) := fun G1 H F e m Q q =>
  h1 G1 H F e m _ fun v G2 M2' H2 e2 m2 r => by
    obtain ⟨rfl, rfl⟩ := r
    exact ⟨p, C, dx, fs, x, rfl, ha G2 H2 F (e.trans e2) m2, hc, hn, hl, q _ _ _ _ e2 m2 ⟨rfl, rfl⟩⟩
/-! calls -/
/-- a promise over the symbolic heap -/
def spec {α : Type} (pre : α → Hp → Mem → List V → Prop) (post : α → Mem → Post) : Sp := fun vs H Q _ => ∃ x G M F, Me G (M ++ F) H ∧ pre x G M vs ∧ ∀ v G' M' H', Ex G G' → Me G' (M' ++ F) H' → post x M G' v M' → Q v H'
theorem ev_call {α : Type} {pre : α → Hp → Mem → List V → Prop} {post : α → Mem → Post} {t : TA} {E : XK} (xx : α) (h : EvA t σ G M Ps M1) (hp : ∀ G1 vs, Ex G G1 → AllP G1 Ps vs → pre xx G1 M1 vs) : Ev (tCall (spec pre post) [] E t) σ G M (post xx M1) := fun G1 H F e m Q q =>
  h G1 H F e m _ fun vs G2 H2 e2 m2 a => ⟨xx, G2, M1, F, m2, by rw [List.append_nil]; exact hp G2 vs (e.trans e2) a, fun v G' M' H' e' m' r => q v G' M' H' (e2.trans e') m' r⟩
theorem ev_callR {α : Type} {pre : α → Hp → Mem → List V → Prop} {post : α → Mem → Post} {t : TA} {E : XK} (xx : α) (h : EvA t σ G M Ps M1) (hp : ∀ G1 vs, Ex G G1 → AllP G1 Ps vs → pre xx G1 M1 vs) (hq : ∀ G1 v M2, Ex G G1 → post xx M1 G1 v M2 → R G1 v M2) :
    Ev (tCall (spec pre post) [] E t) σ G M R := (ev_call xx h hp).imp hq
theorem ev_meth {α : Type} {pre : α → Hp → Mem → List V → Prop} {post : α → Mem → Post} {t : TA} {E : XK} {C p dx : Addr} {m : Str} {fs : List (Str × V)} (xx : α) (h1 : Ev ta σ G M (isV (.ref p) M1)) (ha : At G M1 p (.ins C dx fs)) (hl : fs.lookup m = none)
    (h : EvA t σ G M1 Ps M2) (hp : ∀ G1 vs, Ex G G1 → AllP G1 Ps vs → pre xx G1 M2 (.ref p :: vs)) : Ev (tMeth C m (spec pre post) [] E ta t) σ G M (post xx M2) := fun G1 H F e mm Q q =>
  h1 G1 H F e mm _ fun v G2 M2' H2 e2 m2 r => by
    obtain ⟨rfl, rfl⟩ := r
    refine ⟨p, dx, fs, rfl, ha G2 H2 F (e.trans e2) m2, hl, h G2 H2 F (e.trans e2) m2 _ fun vs G3 H3 e3 m3 a => ?_⟩
    exact ⟨xx, G3, M2, F, m3, by rw [List.append_nil]; exact hp G3 vs ((e.trans e2).trans e3) a, fun v G' M' H' e' m' r => q v G' M' H' ((e2.trans e3).trans e') m' r⟩
theorem ev_prop {α : Type} {pre : α → Hp → Mem → List V → Prop} {post : α → Mem → Post} {E : XK} {C p dx : Addr} {fs : List (Str × V)} (xx : α) (h1 : Ev ta σ G M (isV (.ref p) M1)) (ha : At G M1 p (.ins C dx fs))
    (hp : ∀ G1, Ex G G1 → pre xx G1 M1 [.ref p]) : Ev (tProp C (spec pre post) [] E ta) σ G M (post xx M1) := fun G1 H F e mm Q q =>
  h1 G1 H F e mm _ fun v G2 M2' H2 e2 m2 r => by
    obtain ⟨rfl, rfl⟩ := r
    exact ⟨p, dx, fs, rfl, ha G2 H2 F (e.trans e2) m2, xx, G2, M2', F, m2, hp G2 (e.trans e2), fun v G' M' H' e' m' r => q v G' M' H' (e2.trans e') m' r⟩
/-- a built-in by its values -/
theorem ev_CB {r : List V → Hp → VK → Prop} {t : TA} (h : EvA t σ G M Ps M1)
    (hr : ∀ G1 H F vs, Ex G G1 → Me G1 (M1 ++ F) H → AllP G1 Ps vs → ∀ Q : VK, (∀ v G2 M3 H2, Ex G1 G2 → Me G2 (M3 ++ F) H2 → R G2 v M3 → Q v H2) → r vs H Q) : Ev (tCB r t) σ G M R := fun G1 H F e m Q q =>
  h G1 H F e m _ fun vs G2 H2 e2 m2 a => hr G2 H2 F vs (e.trans e2) m2 a Q fun v G3 M3 H3 e3 m3 r3 => q v G3 M3 H3 (e2.trans e3) m3 r3
end
end SX

set_option Elab.async false
set_option linter.all false
set_option maxRecDepth 100000
/-! SXc: statements, loops, comprehensions, built-ins, over the symbolic heap. -/
namespace SX
open PySem PySem.Spec L2

/-- what is wanted: behind the statement, of a return, a break, a continue, an error -/
structure Po where
  nx : Hp → L2.St → Mem → Prop
  rt : Post
  bk : Hp → L2.St → Mem → Prop := fun _ _ _ => False
  ct : Hp → L2.St → Mem → Prop := fun _ _ _ => False
  ex : Value → Option Addr → Hp → Mem → Prop := fun _ _ _ _ => False
structure Has (E : XK) (D : Ends) (P : Po) (G1 : Hp) (F : Mem) : Prop where
  nx : ∀ σ2 G2 M2 H2, Ex G1 G2 → Me G2 (M2 ++ F) H2 → P.nx G2 σ2 M2 → D.nx σ2 H2
  rt : ∀ v G2 M2 H2, Ex G1 G2 → Me G2 (M2 ++ F) H2 → P.rt G2 v M2 → D.rt v H2
  bk : ∀ σ2 G2 M2 H2, Ex G1 G2 → Me G2 (M2 ++ F) H2 → P.bk G2 σ2 M2 → D.bk σ2 H2
  ct : ∀ σ2 G2 M2 H2, Ex G1 G2 → Me G2 (M2 ++ F) H2 → P.ct G2 σ2 M2 → D.ct σ2 H2
  ex : ∀ cls d G2 M2 H2, Ex G1 G2 → Me G2 (M2 ++ F) H2 → P.ex cls d G2 M2 → E cls d H2
def Sv (E : XK) (t : TS) (σ : L2.St) (G : Hp) (M : Mem) (P : Po) : Prop := ∀ G1 H F (D : Ends), Ex G G1 → Me G1 (M ++ F) H → Has E D P G1 F → t D σ H
theorem Has.up {E : XK} {D : Ends} {P : Po} {G1 G2 : Hp} {F : Mem} (h : Has E D P G1 F) (e : Ex G1 G2) : Has E D P G2 F :=
  ⟨fun a b c d e1 => h.nx a b c d (e.trans e1), fun a b c d e1 => h.rt a b c d (e.trans e1), fun a b c d e1 => h.bk a b c d (e.trans e1), fun a b c d e1 => h.ct a b c d (e.trans e1), fun a b c d f e1 => h.ex a b c d f (e.trans e1)⟩
section
variable {E : XK} {K : PySem.W.Frag} {σ : L2.St} {G G' H : Hp} {M M1 M2 M3 F : Mem} {R : Post} {P P' : Po} {te ta : TE} {tt : TT} {t u : TS} {x y z : V} {d : PyData} {a b : Bool} {i : Nat}
theorem Sv.mono (h : Sv E t σ G M P) (e : Ex G G') : Sv E t σ G' M P := fun G1 H F D e1 m hd => h G1 H F D (e.trans e1) m hd
theorem sv_set (h : Ev te σ G M R) (k : ∀ v G' M', Ex G G' → R G' v M' → P.nx G' (σ.set i (some v)) M') : Sv E (tAsg te (gName i)) σ G M P := fun G1 H F D e m hd =>
  h G1 H F e m _ fun v G2 M2 H2 e2 m2 r => hd.nx _ G2 M2 H2 e2 m2 (k v G2 M2 (e.trans e2) r)
theorem sv_drop (h : Ev te σ G M R) (k : ∀ v G' M', Ex G G' → R G' v M' → P.nx G' σ M') : Sv E (tDrop te) σ G M P := fun G1 H F D e m hd =>
  h G1 H F e m _ fun v G2 M2 H2 e2 m2 r => hd.nx _ G2 M2 H2 e2 m2 (k v G2 M2 (e.trans e2) r)
theorem sv_ret (h : Ev te σ G M R) (k : ∀ v G' M', Ex G G' → R G' v M' → P.rt G' v M') : Sv E (tRet te) σ G M P := fun G1 H F D e m hd =>
  h G1 H F e m _ fun v G2 M2 H2 e2 m2 r => hd.rt _ G2 M2 H2 e2 m2 (k v G2 M2 (e.trans e2) r)
theorem sv_retN (k : ∀ G', Ex G G' → P.rt G' .non M) : Sv E tRetN σ G M P := fun G1 H F D e m hd => hd.rt _ G1 M H (Ex.refl _) m (k G1 e)
theorem sv_next (k : ∀ G', Ex G G' → P.nx G' σ M) : Sv E tNext σ G M P := fun G1 H F D e m hd => hd.nx σ G1 M H (Ex.refl _) m (k G1 e)
theorem sv_brk (k : ∀ G', Ex G G' → P.bk G' σ M) : Sv E tBreak σ G M P := fun G1 H F D e m hd => hd.bk σ G1 M H (Ex.refl _) m (k G1 e)
theorem sv_cont (k : ∀ G', Ex G G' → P.ct G' σ M) : Sv E tCont σ G M P := fun G1 H F D e m hd => hd.ct σ G1 M H (Ex.refl _) m (k G1 e)
theorem sv_seq (h : Sv E t σ G M { P with nx := N }) (k : ∀ G' σ' M', Ex G G' → N G' σ' M' → Sv E u σ' G' M' P) : Sv E (tSeq t u) σ G M P := fun G1 H F D e m hd =>
  h G1 H F _ e m ⟨fun σ2 G2 M2 H2 e2 m2 n => k G2 σ2 M2 (e.trans e2) n G2 H2 F D (Ex.refl _) m2 (hd.up e2), hd.rt, hd.bk, hd.ct, hd.ex⟩
/-- x = e, then the rest -/
theorem sv_let (h : Ev te σ G M R) (k : ∀ v G' M', Ex G G' → R G' v M' → Sv E u (σ.set i (some v)) G' M' P) : Sv E (tSeq (tAsg te (gName i)) u) σ G M P := fun G1 H F D e m hd =>
  h G1 H F e m _ fun v G2 M2 H2 e2 m2 r => k v G2 M2 (e.trans e2) r G2 H2 F D (Ex.refl _) m2 (hd.up e2)
theorem sv_do (h : Ev te σ G M R) (k : ∀ v G' M', Ex G G' → R G' v M' → Sv E u σ G' M' P) : Sv E (tSeq (tDrop te) u) σ G M P := fun G1 H F D e m hd =>
  h G1 H F e m _ fun v G2 M2 H2 e2 m2 r => k v G2 M2 (e.trans e2) r G2 H2 F D (Ex.refl _) m2 (hd.up e2)
theorem sv_if (h : EvT tt σ G M a M1) (k1 : ∀ G', Ex G G' → a = true → Sv E t σ G' M1 P) (k2 : ∀ G', Ex G G' → a = false → Sv E u σ G' M1 P) : Sv E (tIfS tt t u) σ G M P := fun G1 H F D e m hd =>
  h G1 H F e m _ fun G2 H2 e2 m2 => by
    cases a with
    | true =>
      show (if true = true then _ else _)
      rw [if_pos rfl]
      exact k1 G2 (e.trans e2) rfl G2 H2 F D (Ex.refl _) m2 (hd.up e2)
    | false =>
      show (if false = true then _ else _)
      rw [if_neg Bool.false_ne_true]
      exact k2 G2 (e.trans e2) rfl G2 H2 F D (Ex.refl _) m2 (hd.up e2)
/-- if .. : leaves or not; then the rest -/
theorem sv_ifs {t' : TS} (h : EvT tt σ G M a M1) (k1 : ∀ G', Ex G G' → a = true → Sv E t σ G' M1 { P with nx := fun G2 σ2 M2 => Sv E u σ2 G2 M2 P }) (k2 : ∀ G', Ex G G' → a = false → Sv E t' σ G' M1 { P with nx := fun G2 σ2 M2 => Sv E u σ2 G2 M2 P }) :
    Sv E (tSeq (tIfS tt t t') u) σ G M P := sv_seq (sv_if h k1 k2) fun _ _ _ _ n => n
def tRaise (E : XK) (cls : Value) : TS := fun _ _ H => E cls none H
theorem sv_raise {cls : Value} (k : ∀ G', Ex G G' → P.ex cls none G' M) : Sv E (tRaise E cls) σ G M P := fun G1 H F D e m hd => hd.ex cls none G1 M H (Ex.refl _) m (k G1 e)
theorem Sv.imp (h : Sv E t σ G M P) (nx : ∀ G2 σ2 M2, Ex G G2 → P.nx G2 σ2 M2 → P'.nx G2 σ2 M2) (rt : ∀ G2 v M2, Ex G G2 → P.rt G2 v M2 → P'.rt G2 v M2) (bk : ∀ G2 σ2 M2, Ex G G2 → P.bk G2 σ2 M2 → P'.bk G2 σ2 M2) (ct : ∀ G2 σ2 M2, Ex G G2 → P.ct G2 σ2 M2 → P'.ct G2 σ2 M2)
    (ex : ∀ c d G2 M2, Ex G G2 → P.ex c d G2 M2 → P'.ex c d G2 M2) : Sv E t σ G M P' := fun G1 H F D e m hd => h G1 H F D e m ⟨fun _ _ _ _ e2 m2 n => hd.nx _ _ _ _ e2 m2 (nx _ _ _ (e.trans e2) n), fun _ _ _ _ e2 m2 n => hd.rt _ _ _ _ e2 m2 (rt _ _ _ (e.trans e2) n),
      fun _ _ _ _ e2 m2 n => hd.bk _ _ _ _ e2 m2 (bk _ _ _ (e.trans e2) n), fun _ _ _ _ e2 m2 n => hd.ct _ _ _ _ e2 m2 (ct _ _ _ (e.trans e2) n), fun _ _ _ _ _ e2 m2 n => hd.ex _ _ _ _ _ e2 m2 (ex _ _ _ _ (e.trans e2) n)⟩
/-- l[i] = e of an owned list -/
theorem sv_setIx {tx ti : TE} {l : Addr} {xs : List V} {k : Int} {j n : Nat} (h : Ev te σ G M (isV x M1)) (h1 : Ev tx σ G M1 (isV (.ref l) M1)) (h2 : Ev ti σ G M1 (isV (.int k) M1)) (hl : M1[n]? = some (l, .lst xs)) (hj : ixN xs.length k = some j)
    (q : ∀ G', Ex G G' → P.nx G' σ (M1.set n (l, .lst (xs.set j x)))) : Sv E (tAsg te (gSub tx ti rSetL)) σ G M P := fun G1 H F D e m hd =>
  h G1 H F e m _ fun v G2 M2' H2 e2 m2 r2 => by
    obtain ⟨rfl, rfl⟩ := r2
    refine h1 G2 H2 F (e.trans e2) m2 _ fun v3 G3 M3' H3 e3 m3 r3 => ?_
    obtain ⟨rfl, rfl⟩ := r3
    refine h2 G3 H3 F ((e.trans e2).trans e3) m3 _ fun v4 G4 M4' H4 e4 m4 r4 => ?_
    obtain ⟨rfl, rfl⟩ := r4
    exact ⟨l, xs, k, j, rfl, rfl, m4.getF hl, hj, hd.nx _ _ _ _ ((e2.trans e3).trans e4) (m4.putF hl) (q G4 (((e.trans e2).trans e3).trans e4))⟩
/-- the same where the value is data -/
theorem sv_setIxP {Pp : Hp → V → Prop} [Mono Pp] {tx ti : TE} {l : Addr} {xs : List V} {k : Int} {j n : Nat} (h : Ev te σ G M (isP Pp M1)) (h1 : Ev tx σ G M1 (isV (.ref l) M1)) (h2 : Ev ti σ G M1 (isV (.int k) M1)) (hl : M1[n]? = some (l, .lst xs)) (hj : ixN xs.length k = some j)
    (q : ∀ v G', Ex G G' → Pp G' v → P.nx G' σ (M1.set n (l, .lst (xs.set j v)))) : Sv E (tAsg te (gSub tx ti rSetL)) σ G M P := fun G1 H F D e m hd =>
  h G1 H F e m _ fun v G2 M2' H2 e2 m2 r2 => by
    obtain ⟨pv, rfl⟩ := r2
    refine h1 G2 H2 F (e.trans e2) m2 _ fun v3 G3 M3' H3 e3 m3 r3 => ?_
    obtain ⟨rfl, rfl⟩ := r3
    refine h2 G3 H3 F ((e.trans e2).trans e3) m3 _ fun v4 G4 M4' H4 e4 m4 r4 => ?_
    obtain ⟨rfl, rfl⟩ := r4
    exact ⟨l, xs, k, j, rfl, rfl, m4.getF hl, hj, hd.nx _ _ _ _ ((e2.trans e3).trans e4) (m4.putF hl) (q v G4 (((e.trans e2).trans e3).trans e4) (Mono.mono _ _ _ (e3.trans e4) pv))⟩
/-! targets -/
def tTgt (g : TG) (x : V) (tb : TS) : TS := fun D σ H => g x σ H fun σ2 H2 => tb D σ2 H2
theorem sv_tgN {tb : TS} (h : Sv E tb (σ.set i (some x)) G M P) : Sv E (tTgt (gName i) x tb) σ G M P := fun G1 H F D e m hd => h G1 H F D e m hd
/-! loops -/
theorem sv_forL {tl : TE} {g : TG} {tb : TS} {aa : Addr} {xs : List V} (I : Nat → Hp → L2.St → Mem → Prop)
    (hs : Ev tl σ G M (fun G1 v M1 => v = .ref aa ∧ I 0 G1 σ M1)) (hl : ∀ i G' σ' M', Ex G G' → I i G' σ' M' → AtL K G' M' aa xs)
    (hb : ∀ i x G' σ' M', Ex G G' → xs[i]? = some x → I i G' σ' M' → Sv E (tTgt g x tb) σ' G' M' { P with nx := I (i + 1), ct := I (i + 1), bk := P.nx })
    (he : ∀ G' σ' M', Ex G G' → I xs.length G' σ' M' → P.nx G' σ' M') : Sv E (tFor (iList K tl) g tb) σ G M P := fun G1 H F D e m hd =>
  hs G1 H F e m _ fun v G2 M2 H2 e2 m2 r2 => by
    obtain ⟨rfl, i0⟩ := r2
    refine ⟨aa, rfl, ⟨xs, hl 0 G2 σ M2 (e.trans e2) i0 G2 H2 F (Ex.refl _) m2⟩, for_list (K := K) (a := aa) (xs := xs) (fun i σ' H' => ∃ G' M', Ex G2 G' ∧ Me G' (M' ++ F) H' ∧ I i G' σ' M') ⟨G2, M2, Ex.refl _, m2, i0⟩ ?_ ?_ ?_⟩
    · rintro i σ' H' _ ⟨G', M', e', m', ii⟩
      exact hl i G' σ' M' ((e.trans e2).trans e') ii G' H' F (Ex.refl _) m'
    · rintro i x σ' H' hx ⟨G', M', e', m', ii⟩
      refine hb i x G' σ' M' ((e.trans e2).trans e') hx ii G' H' F _ (Ex.refl _) m' ⟨?_, ?_, ?_, ?_, ?_⟩
      · exact fun σ2 G3 M3 H3 e3 m3 n => ⟨G3, M3, e'.trans e3, m3, n⟩
      · exact fun v G3 M3 H3 e3 m3 r => hd.rt v G3 M3 H3 ((e2.trans e').trans e3) m3 r
      · exact fun v G3 M3 H3 e3 m3 r => hd.nx v G3 M3 H3 ((e2.trans e').trans e3) m3 r
      · exact fun σ2 G3 M3 H3 e3 m3 n => ⟨G3, M3, e'.trans e3, m3, n⟩
      · exact fun c v G3 M3 H3 e3 m3 r => hd.ex c v G3 M3 H3 ((e2.trans e').trans e3) m3 r
    · rintro σ' H' ⟨G', M', e', m', ii⟩
      exact hd.nx σ' G' M' H' (e2.trans e') m' (he G' σ' M' ((e.trans e2).trans e') ii)
/-- over a list of data that stands still -/
theorem sv_forD {tl : TE} {g : TG} {tb : TS} {ds : List PyData} (I : Nat → Hp → L2.St → Mem → Prop)
    (hs : Ev tl σ G M (isD K (.list ds) M1)) (h0 : ∀ G', Ex G G' → I 0 G' σ M1)
    (hb : ∀ i d x G' σ' M', Ex G G' → ds[i]? = some d → Dp K G' x d → I i G' σ' M' → Sv E (tTgt g x tb) σ' G' M' { P with nx := I (i + 1), ct := I (i + 1), bk := P.nx })
    (he : ∀ G' σ' M', Ex G G' → I ds.length G' σ' M' → P.nx G' σ' M') : Sv E (tFor (iList K tl) g tb) σ G M P := fun G1 H F D e m hd =>
  hs G1 H F e m _ fun v G2 M2 H2 e2 m2 r2 => by
    obtain ⟨dv, rfl⟩ := r2
    obtain ⟨aa, xs, rfl, hq, ha⟩ := dp_lst dv
    refine ⟨aa, rfl, ⟨xs, ex_l m2.ex hq⟩, for_list (K := K) (a := aa) (xs := xs) (fun i σ' H' => ∃ G' M', Ex G2 G' ∧ Me G' (M' ++ F) H' ∧ I i G' σ' M') ⟨G2, _, Ex.refl _, m2, h0 G2 (e.trans e2)⟩ ?_ ?_ ?_⟩
    · rintro i σ' H' _ ⟨G', M', e', m', ii⟩
      exact ex_l m'.ex (ex_l e' hq)
    · rintro i x σ' H' hx ⟨G', M', e', m', ii⟩
      obtain ⟨d, hd', dx⟩ := dpa_atV ha hx
      refine hb i d x G' σ' M' ((e.trans e2).trans e') hd' (dm dx e') ii G' H' F _ (Ex.refl _) m' ⟨?_, ?_, ?_, ?_, ?_⟩
      · exact fun σ2 G3 M3 H3 e3 m3 n => ⟨G3, M3, e'.trans e3, m3, n⟩
      · exact fun v G3 M3 H3 e3 m3 r => hd.rt v G3 M3 H3 ((e2.trans e').trans e3) m3 r
      · exact fun v G3 M3 H3 e3 m3 r => hd.nx v G3 M3 H3 ((e2.trans e').trans e3) m3 r
      · exact fun σ2 G3 M3 H3 e3 m3 n => ⟨G3, M3, e'.trans e3, m3, n⟩
      · exact fun c v G3 M3 H3 e3 m3 r => hd.ex c v G3 M3 H3 ((e2.trans e').trans e3) m3 r
    · rintro σ' H' ⟨G', M', e', m', ii⟩
      rw [dpa_len ha] at ii
      exact hd.nx σ' G' M' H' (e2.trans e') m' (he G' σ' M' ((e.trans e2).trans e') ii)
/-- range(n) -/
theorem sv_forR {tn : TA} {g : TG} {tb : TS} {n : Int} (I : Nat → Hp → L2.St → Mem → Prop)
    (hs : EvA tn σ G M [fun _ v => v = .int n] M1) (h0 : ∀ G', Ex G G' → I 0 G' σ M1) (hn : -(2 ^ 62) ≤ n ∧ n < 2 ^ 62)
    (hb : ∀ (i : Nat) G' σ' M', Ex G G' → i < n.toNat → I i G' σ' M' → Sv E (tTgt g (.int (0 + (i : Int))) tb) σ' G' M' { P with nx := I (i + 1), ct := I (i + 1), bk := P.nx })
    (he : ∀ G' σ' M', Ex G G' → I n.toNat G' σ' M' → P.nx G' σ' M') : Sv E (tFor (iRng1 tn) g tb) σ G M P := fun G1 H F D e m hd =>
  hs G1 H F e m _ fun vs G2 H2 e2 m2 r2 => by
    match vs, r2 with
    | [v], r2 =>
    obtain ⟨rfl, _⟩ := r2
    refine ⟨n, rfl, hn.1, hn.2, for_range (lo := 0) (n := n.toNat) (fun i σ' H' => ∃ G' M', Ex G2 G' ∧ Me G' (M' ++ F) H' ∧ I i G' σ' M') ⟨G2, _, Ex.refl _, m2, h0 G2 (e.trans e2)⟩ ?_ ?_⟩
    · rintro i σ' H' hi ⟨G', M', e', m', ii⟩
      refine hb i G' σ' M' ((e.trans e2).trans e') hi ii G' H' F _ (Ex.refl _) m' ⟨?_, ?_, ?_, ?_, ?_⟩
      · exact fun σ2 G3 M3 H3 e3 m3 n => ⟨G3, M3, e'.trans e3, m3, n⟩
      · exact fun v G3 M3 H3 e3 m3 r => hd.rt v G3 M3 H3 ((e2.trans e').trans e3) m3 r
      · exact fun v G3 M3 H3 e3 m3 r => hd.nx v G3 M3 H3 ((e2.trans e').trans e3) m3 r
      · exact fun σ2 G3 M3 H3 e3 m3 n => ⟨G3, M3, e'.trans e3, m3, n⟩
      · exact fun c v G3 M3 H3 e3 m3 r => hd.ex c v G3 M3 H3 ((e2.trans e').trans e3) m3 r
    · rintro σ' H' ⟨G', M', e', m', ii⟩
      exact hd.nx σ' G' M' H' (e2.trans e') m' (he G' σ' M' ((e.trans e2).trans e') ii)
/-! new lists -/
/-- a new list that is owned -/
abbrev own (K : PySem.W.Frag) (ds : List PyData) (M : Mem) : Post := fun G v M' => ∃ p vs, v = .ref p ∧ M' = M ++ [(p, .lst vs)] ∧ DpAll K G vs ds
theorem Ev.frz {ds : List PyData} (h : Ev te σ G M (own K ds M1)) : Ev te σ G M (isD K (.list ds) M1) := fun G1 H F e m Q q =>
  h G1 H F e m Q fun v G2 M2 H2 e2 m2 r => by
    obtain ⟨p, vs, rfl, rfl, da⟩ := r
    obtain ⟨m3, e3⟩ := m2.freezeLast
    exact q _ _ M1 H2 (e2.trans e3) m3 ⟨.lst (SqL.of upd_same) (dma da e3), rfl⟩
theorem ev_lstO {t : TA} {ds : List PyData} (h : EvA t σ G M (ds.map fun d => fun G v => Dp K G v d) M1) (hl : ds.length ≤ 1000) : Ev (tLst t) σ G M (own K ds M1) := fun G1 H F e m Q q =>
  h G1 H F e m _ fun vs G2 H2 e2 m2 a => ⟨by rw [dpa_len (allD (K := K) a)]; exact Nat.le_of_lt (small1000 hl), fun p hp => q _ _ _ _ e2 (m2.newMid hp) ⟨p, vs, rfl, rfl, allD a⟩⟩
theorem mem_mid {A F : Mem} {p : Addr × HO} : (A ++ p :: F) = (A ++ [p]) ++ F := by rw [List.append_assoc]; rfl
section comp
variable {own' : List Nat} {k : Nat} {Mi : Nat → Mem} {fd : Nat → PyData} {ds : List PyData} {n : Nat}
/-- one turn of a comprehension -/
theorem lc_turn {b : Bool} {D : Addr} {H' : Hp} {G1 G2 : Hp} {vs : List V} {es : List PyData} (ht : EvT tt (σ.set k (some x)) G2 (Mi i) b (Mi i)) (he : b = true → Ev te (σ.set k (some x)) G2 (Mi i) (isD K (fd i) (Mi (i + 1)))) (hn : b = false → Mi (i + 1) = Mi i)
    (m' : Me G2 (Mi i ++ (D, .lst vs) :: F) H') (e' : Ex G1 G2) (da : DpAll K G2 vs es) (hz : vs.length < sizeLine) {Nx : Hp → Prop}
    (hN : ∀ G3 vs' H3, Ex G1 G3 → Me G3 (Mi (i + 1) ++ (D, .lst vs') :: F) H3 → DpAll K G3 vs' (es ++ if b then [fd i] else []) → Nx H3) :
    tt (σ.set k (some x)) H' fun b H3 => if b = true then te (σ.set k (some x)) H3 fun y H4 => ∃ acc, H4 D = some (.lst acc) ∧ acc.length < sizeLine ∧ Nx (upd H4 D (.lst (acc ++ [y]))) else Nx H3 := by
  refine ht G2 H' _ (Ex.refl _) m' _ fun G3 H3 e3 m3 => ?_
  cases b with
  | true =>
    rw [if_pos rfl]
    refine he rfl G3 H3 _ e3 m3 _ fun y G4 M4 H4 e4 m4 r4 => ?_
    obtain ⟨dy, rfl⟩ := r4
    have hm : ((Mi (i + 1)) ++ (D, HO.lst vs) :: F)[(Mi (i + 1)).length]? = some (D, .lst vs) := by
      rw [List.getElem?_append_right (Nat.le_refl _), Nat.sub_self]
      rfl
    refine ⟨vs, m4.get hm, hz, hN G4 (vs ++ [y]) _ ((e'.trans e3).trans e4) ?_ ?_⟩
    · have := m4.put (o' := .lst (vs ++ [y])) hm
      rw [List.set_append_right _ _ (Nat.le_refl _), Nat.sub_self] at this
      exact this
    · exact dpa_app (dma da (e3.trans e4)) (.cons dy .nil)
  | false =>
    rw [if_neg Bool.false_ne_true]
    refine hN G3 vs H3 (e'.trans e3) (by rw [hn rfl]; exact m3) ?_
    show DpAll K G3 vs (es ++ [])
    rw [List.append_nil]
    exact dma da e3
def kept (n : Nat) (bb : Nat → Bool) (fd : Nat → PyData) : List PyData := (List.range n).flatMap fun i => if bb i then [fd i] else []
theorem kept_succ (n : Nat) (bb : Nat → Bool) (fd : Nat → PyData) : kept (n + 1) bb fd = kept n bb fd ++ if bb n then [fd n] else [] := by
  unfold kept
  rw [List.range_succ, List.flatMap_append]
  simp
theorem kept_len (n : Nat) (bb : Nat → Bool) (fd : Nat → PyData) : (kept n bb fd).length ≤ n := by
  induction n with
  | zero => exact Nat.le_refl _
  | succ n ih =>
    rw [kept_succ, List.length_append]
    split <;> simp <;> omega
theorem kept_all (n : Nat) (fd : Nat → PyData) : kept n (fun _ => true) fd = (List.range n).map fd := by
  induction n with
  | zero => rfl
  | succ n ih => rw [kept_succ, ih, List.range_succ, List.map_append]; rfl
theorem sz_ok {n : Nat} (h : n ≤ 100000) : n < sizeLine := Nat.lt_of_le_of_lt h (by decide)
/-- [e for x in l if t] over data -/
theorem ev_lcL {tl : TE} (bb : Nat → Bool) (Mi : Nat → Mem) (fd : Nat → PyData) (hs : Ev tl σ G M (isD K (.list ds) (Mi 0))) (hn : ds.length ≤ 100000)
    (ht : ∀ i d x G', ds[i]? = some d → Ex G G' → Dp K G' x d → EvT tt ((wipe σ own').set k (some x)) G' (Mi i) (bb i) (Mi i))
    (he : ∀ i d x G', ds[i]? = some d → Ex G G' → Dp K G' x d → bb i = true → Ev te ((wipe σ own').set k (some x)) G' (Mi i) (isD K (fd i) (Mi (i + 1))))
    (hno : ∀ i, bb i = false → Mi (i + 1) = Mi i) (hw : ∀ x, wipe ((wipe σ own').set k (some x)) own' = wipe σ own') :
    Ev (tLc (iList K tl) (gName k) tt te own') σ G M (own K (kept ds.length bb fd) (Mi ds.length)) := fun G1 H F e m Q q =>
  hs G1 H F e m _ fun v G2 M2 H2 e2 m2 r2 => by
    obtain ⟨dv, rfl⟩ := r2
    obtain ⟨aa, xs, rfl, hq, ha⟩ := dp_lst dv
    have hln := dpa_len ha
    refine ⟨aa, rfl, ⟨xs, ex_l m2.ex hq⟩, fun D hD => lc_list (K := K) (a := aa) (xs := xs) (fun i H' => ∃ G' vs, Ex G2 G' ∧ Me G' (Mi i ++ (D, .lst vs) :: F) H' ∧ DpAll K G' vs (kept i bb fd)) ?_ ?_ ?_ ?_⟩
    · exact ⟨G2, [], Ex.refl _, by rw [mem_mid]; exact m2.newMid hD, .nil⟩
    · rintro i H' _ ⟨G', vs, e', m', _⟩
      exact ex_l m'.ex (ex_l e' hq)
    · rintro i x H' hx ⟨G', vs, e', m', da⟩
      obtain ⟨d, hd', dx⟩ := dpa_atV ha hx
      have hi : i < xs.length := (List.getElem?_eq_some_iff.mp hx).1
      refine ⟨hw x, lc_turn (K := K) (fd := fd) (Mi := Mi) (b := bb i) (ht i d x G' hd' ((e.trans e2).trans e') (dm dx e')) (he i d x G' hd' ((e.trans e2).trans e') (dm dx e')) (hno i) m' e' da ?_ ?_⟩
      · rw [dpa_len da]
        have := kept_len i bb fd
        exact sz_ok (by omega)
      · intro G3 vs' H3 e3 m3 d3
        exact ⟨G3, vs', e3, m3, by rw [kept_succ]; exact d3⟩
    · rintro H' ⟨G', vs, e', m', da⟩
      rw [hln] at m' da
      rw [mem_mid] at m'
      exact q _ G' _ H' (e2.trans e') m' ⟨D, vs, rfl, rfl, da⟩
/-- .. over a tuple -/
theorem ev_lcT {tl : TE} (bb : Nat → Bool) (Mi : Nat → Mem) (fd : Nat → PyData) (hs : Ev tl σ G M (isD K (.tuple ds) (Mi 0))) (hn : ds.length ≤ 100000)
    (ht : ∀ i d x G', ds[i]? = some d → Ex G G' → Dp K G' x d → EvT tt ((wipe σ own').set k (some x)) G' (Mi i) (bb i) (Mi i))
    (he : ∀ i d x G', ds[i]? = some d → Ex G G' → Dp K G' x d → bb i = true → Ev te ((wipe σ own').set k (some x)) G' (Mi i) (isD K (fd i) (Mi (i + 1))))
    (hno : ∀ i, bb i = false → Mi (i + 1) = Mi i) (hw : ∀ x, wipe ((wipe σ own').set k (some x)) own' = wipe σ own') :
    Ev (tLc (iTup K tl) (gName k) tt te own') σ G M (own K (kept ds.length bb fd) (Mi ds.length)) := fun G1 H F e m Q q =>
  hs G1 H F e m _ fun v G2 M2 H2 e2 m2 r2 => by
    obtain ⟨dv, rfl⟩ := r2
    obtain ⟨aa, xs, rfl, hq, ha⟩ := dp_tup dv
    have hln := dpa_len ha
    refine ⟨aa, rfl, ⟨xs, ex_t m2.ex hq⟩, fun D hD => lc_tup (K := K) (a := aa) (xs := xs) (fun i H' => ∃ G' vs, Ex G2 G' ∧ Me G' (Mi i ++ (D, .lst vs) :: F) H' ∧ DpAll K G' vs (kept i bb fd)) ?_ ?_ ?_ ?_⟩
    · exact ⟨G2, [], Ex.refl _, by rw [mem_mid]; exact m2.newMid hD, .nil⟩
    · rintro i H' _ ⟨G', vs, e', m', _⟩
      exact ex_t m'.ex (ex_t e' hq)
    · rintro i x H' hx ⟨G', vs, e', m', da⟩
      obtain ⟨d, hd', dx⟩ := dpa_atV ha hx
      have hi : i < xs.length := (List.getElem?_eq_some_iff.mp hx).1
      refine ⟨hw x, lc_turn (K := K) (fd := fd) (Mi := Mi) (b := bb i) (ht i d x G' hd' ((e.trans e2).trans e') (dm dx e')) (he i d x G' hd' ((e.trans e2).trans e') (dm dx e')) (hno i) m' e' da ?_ ?_⟩
      · rw [dpa_len da]
        have := kept_len i bb fd
        exact sz_ok (by omega)
      · intro G3 vs' H3 e3 m3 d3
        exact ⟨G3, vs', e3, m3, by rw [kept_succ]; exact d3⟩
    · rintro H' ⟨G', vs, e', m', da⟩
      rw [hln] at m' da
      rw [mem_mid] at m'
      exact q _ G' _ H' (e2.trans e') m' ⟨D, vs, rfl, rfl, da⟩
/-- .. over range(n) -/
theorem ev_lcR {tn : TA} {nn : Int} (bb : Nat → Bool) (Mi : Nat → Mem) (fd : Nat → PyData) (hs : EvA tn σ G M [fun _ v => v = .int nn] (Mi 0)) (hn : nn ≤ 100000) (hn0 : -100000 ≤ nn)
    (ht : ∀ (i : Nat) G', i < nn.toNat → Ex G G' → EvT tt ((wipe σ own').set k (some (.int (0 + (i : Int))))) G' (Mi i) (bb i) (Mi i))
    (he : ∀ (i : Nat) G', i < nn.toNat → Ex G G' → bb i = true → Ev te ((wipe σ own').set k (some (.int (0 + (i : Int))))) G' (Mi i) (isD K (fd i) (Mi (i + 1))))
    (hno : ∀ i, bb i = false → Mi (i + 1) = Mi i) (hw : ∀ x, wipe ((wipe σ own').set k (some x)) own' = wipe σ own') :
    Ev (tLc (iRng1 tn) (gName k) tt te own') σ G M (own K (kept nn.toNat bb fd) (Mi nn.toNat)) := fun G1 H F e m Q q =>
  hs G1 H F e m _ fun vs0 G2 H2 e2 m2 r2 => by
    match vs0, r2 with
    | [v], r2 =>
    obtain ⟨rfl, _⟩ := r2
    refine ⟨nn, rfl, by omega, by omega, fun D hD => lc_range (lo := 0) (n := nn.toNat) (fun i H' => ∃ G' vs, Ex G2 G' ∧ Me G' (Mi i ++ (D, .lst vs) :: F) H' ∧ DpAll K G' vs (kept i bb fd)) ?_ ?_ ?_⟩
    · exact ⟨G2, [], Ex.refl _, by rw [mem_mid]; exact m2.newMid hD, .nil⟩
    · rintro i H' hi ⟨G', vs, e', m', da⟩
      refine ⟨hw _, lc_turn (K := K) (fd := fd) (Mi := Mi) (b := bb i) (ht i G' hi ((e.trans e2).trans e')) (he i G' hi ((e.trans e2).trans e')) (hno i) m' e' da ?_ ?_⟩
      · rw [dpa_len da]
        have := kept_len i bb fd
        exact sz_ok (by omega)
      · intro G3 vs' H3 e3 m3 d3
        exact ⟨G3, vs', e3, m3, by rw [kept_succ]; exact d3⟩
    · rintro H' ⟨G', vs, e', m', da⟩
      rw [mem_mid] at m'
      exact q _ G' _ H' (e2.trans e') m' ⟨D, vs, rfl, rfl, da⟩
end comp
end
end SX

set_option Elab.async false
set_option linter.all false
set_option maxRecDepth 100000
/-! SXd: defs by their promise; own classes' operators; built-ins. -/
namespace SX
open PySem PySem.Spec L2

section
variable {P : Program} {w : World} {K : PySem.W.Frag} {mg : Str → Option Value} {base : Heap}
/-- a def that raises nothing -/
theorem fn_sv {α : Type} {pre : α → Hp → Mem → List V → Prop} {post : α → Mem → Post} {x qual : Str} {st : Stmt} {f : Addr} {fd : FuncData} {N ps : List Str} {k : Nat} (F : Fun K x qual st f fd) (S : FnScope N ps (defScope st))
    (len : ∀ x G M vs, pre x G M vs → vs.length = ps.length)
    (body : ∀ (cdv : Value) (A : Around) (outer : List Env) (s : Shared) (H : Hp) (E : XK), Room k (A.deeper (PyProof.Rows.envOfC qual (defScope st) s.heap.objs.size f cdv)) →
      ∃ t, PSs (cxOf CX0 P w K mg base N qual (defScope st) f cdv A outer s H E).nox (defBody st) t ∧ ∀ x G M vs, pre x G M vs → Sv E t (start N vs) G M { nx := fun G' _ M' => post x M G' .non M', rt := post x M }) :
    FnOk P w K mg base CX0 (k + 1) f fd ps (spec pre post) := by
  refine F.ok S (fun vs H Q E h => ?_) (fun cdv A outer s H vs Q E hr h => ?_)
  · obtain ⟨x, G, M, Fr, m, p, q⟩ := h
    exact len x G M vs p
  · obtain ⟨x, G, M, Fr, m, p, q⟩ := h
    obtain ⟨t, ht, hs⟩ := body cdv A outer s H E hr
    refine ⟨t, ht, hs x G M vs p G H Fr _ (Ex.refl _) m ⟨?_, ?_, ?_, ?_, ?_⟩⟩
    · exact fun σ2 G2 M2 H2 e2 m2 n => q _ G2 M2 H2 e2 m2 n
    · exact fun v G2 M2 H2 e2 m2 n => q v G2 M2 H2 e2 m2 n
    · exact fun σ2 G2 M2 H2 e2 m2 n => n.elim
    · exact fun σ2 G2 M2 H2 e2 m2 n => n.elim
    · exact fun c d G2 M2 H2 e2 m2 n => n.elim
/-- a promise with errors -/
def specX {α : Type} (pre : α → Hp → Mem → List V → Prop) (post : α → Mem → Post) (exc : α → Mem → Value → Option Addr → Hp → Mem → Prop) : Sp := fun vs H Q E => ∃ x G M F, Me G (M ++ F) H ∧ pre x G M vs ∧
  (∀ v G' M' H', Ex G G' → Me G' (M' ++ F) H' → post x M G' v M' → Q v H') ∧ (∀ c d G' M' H', Ex G G' → Me G' (M' ++ F) H' → exc x M c d G' M' → E c d H')
theorem fn_svX {α : Type} {pre : α → Hp → Mem → List V → Prop} {post : α → Mem → Post} {exc : α → Mem → Value → Option Addr → Hp → Mem → Prop} {x qual : Str} {st : Stmt} {f : Addr} {fd : FuncData} {N ps : List Str} {k : Nat} (F : Fun K x qual st f fd) (S : FnScope N ps (defScope st))
    (len : ∀ x G M vs, pre x G M vs → vs.length = ps.length)
    (body : ∀ (cdv : Value) (A : Around) (outer : List Env) (s : Shared) (H : Hp) (E : XK), Room k (A.deeper (PyProof.Rows.envOfC qual (defScope st) s.heap.objs.size f cdv)) →
      ∃ t, PSs (cxOf (L2.CX P w) P w K mg base N qual (defScope st) f cdv A outer s H E) (defBody st) t ∧ ∀ x G M vs, pre x G M vs → Sv E t (start N vs) G M { nx := fun G' _ M' => post x M G' .non M', rt := post x M, ex := exc x M }) :
    FnOk P w K mg base (L2.CX P w) (k + 1) f fd ps (specX pre post exc) := by
  refine F.okX S (fun vs H Q E h => ?_) (fun cdv A outer s H vs Q E hr h => ?_)
  · obtain ⟨x, G, M, Fr, m, p, q⟩ := h
    exact len x G M vs p
  · obtain ⟨x, G, M, Fr, m, p, q, qx⟩ := h
    obtain ⟨t, ht, hs⟩ := body cdv A outer s H E hr
    refine ⟨t, ht, hs x G M vs p G H Fr _ (Ex.refl _) m ⟨?_, ?_, ?_, ?_, ?_⟩⟩
    · exact fun σ2 G2 M2 H2 e2 m2 n => q _ G2 M2 H2 e2 m2 n
    · exact fun v G2 M2 H2 e2 m2 n => q v G2 M2 H2 e2 m2 n
    · exact fun σ2 G2 M2 H2 e2 m2 n => n.elim
    · exact fun σ2 G2 M2 H2 e2 m2 n => n.elim
    · exact fun c d G2 M2 H2 e2 m2 n => qx c d G2 M2 H2 e2 m2 n
/-- where the errors cannot come, it is a plain promise -/
theorem FnOk.calm {α : Type} {pre pre' : α → Hp → Mem → List V → Prop} {post : α → Mem → Post} {exc : α → Mem → Value → Option Addr → Hp → Mem → Prop} {CX : CXT} {k : Nat} {f : Addr} {fd : FuncData} {ps : List Str} (F : FnOk P w K mg base CX k f fd ps (specX pre post exc))
    (hp : ∀ x G M vs, pre' x G M vs → pre x G M vs) (hx : ∀ x G M vs c d G' M', pre' x G M vs → ¬ exc x M c d G' M') : FnOk P w K mg base CX k f fd ps (spec pre' post) :=
  F.imp fun vs H Q E h => by
    obtain ⟨x, G, M, Fr, m, p, q⟩ := h
    exact ⟨x, G, M, Fr, m, hp _ _ _ _ p, q, fun c d G' M' H' _ _ z => absurd z (hx x G M vs c d G' M' p)⟩
end

/-! ### own classes: len, [], []=, in, operators, comparisons -/
section
variable {X : Cx} {CX : CXT} {k : Nat} {C f : Addr} {fd : FuncData} {ps : List Str} {sp : Sp} {E : XK}
theorem run_in1 {pins : List (Addr × Obj)} {σ : L2.St} {H : Hp} {s : Shared} {Q : VK} {us : List Value} {vs : List V} (F : FnOk X.prog X.w X.K X.mg X.base CX k f fd ps sp) (hr : Room (k + 1) X.A) (hb : Binds X.K fd ps []) (hx : Passes CX X E)
    (I : Inv X pins σ H s) (r : Vals vs us) (h : sp vs H Q E) : wpAny (model X.prog X.w) X.A.in1 (call (.ref f) us) (EP X pins σ Q) X.xe s := by
  have hl : (us ++ []).length = ps.length := by rw [List.append_nil, ← r.length]; exact F.len _ _ _ _ h
  have hb' := hb s us I.kIn hl
  rw [List.append_nil] at hb'
  refine wpAny_call (codeAny_mono (F.run X.A.in1 X.stack s H ⟨us, []⟩ us vs Q E hr.in1 I.env0.in1 hb' r h) fun rr s' hq => ?_)
  cases rr with
  | error e => exact hx pins σ H s e s' I hq
  | ok fl =>
    cases fl with
    | ret u => exact I.after hq
    | next => exact False.elim hq
    | brk => exact False.elim hq
    | cont => exact False.elim hq
theorem run_at {pins : List (Addr × Obj)} {σ : L2.St} {H : Hp} {s : Shared} {Q : VK} {us : List Value} {vs : List V} (F : FnOk X.prog X.w X.K X.mg X.base CX k f fd ps sp) (hr : Room k X.A) (hb : Binds X.K fd ps []) (hx : Passes CX X E)
    (I : Inv X pins σ H s) (r : Vals vs us) (h : sp vs H Q E) : wpAny (model X.prog X.w) X.A (call (.ref f) us) (EP X pins σ Q) X.xe s :=
  run_fn F hr hb .nil hx I r (by rw [List.append_nil]; exact h)
/-- len(o) by the own __len__ -/
def rLenO (C : Addr) (sp : Sp) (E : XK) : List V → Hp → VK → Prop := fun xs H Q => ∃ a dx fs, xs = [.ref a] ∧ H a = some (.ins C dx fs) ∧ sp [.ref a] H (fun v H2 => ∃ n : Int, v = .int n ∧ (0 ≤ n ∧ n < 2 ^ 63) ∧ Q (.int n) H2) E
theorem call_lenO (hm : Meth X.K C "__len__" f) (F : FnOk X.prog X.w X.K X.mg X.base CX k f fd ps sp) (hr : Room (k + 1) X.A) (hb : Binds X.K fd ps []) (hx : Passes CX X E) : CallR X (.builtin "len") (rLenO C sp E) := by
  intro pins s σ H xs us Q I r h
  obtain ⟨a, dx, fs, rfl, ea, q⟩ := h
  obtain ⟨u, rfl, ru⟩ := vals1 r
  cases (show u = Value.ref a from ru)
  obtain ⟨mA, O, _⟩ := ins_get I.hok ea
  obtain ⟨od, J, _⟩ := O.look
  obtain ⟨m, fr⟩ := I.fr
  refine PySem.W.len_K fr I.ok.mod.kin J hm.at_ hm.fn (wpAny_mono (run_in1 F hr hb hx I r q) (fun u s1 h1 => ?_) fun _ _ e => e)
  obtain ⟨v, H2, I2, rv, n, rfl, hn, q2⟩ := h1
  obtain ⟨t, rfl⟩ := rv
  exact ⟨hn, .int n, H2, I2.tok _, ⟨_, rfl⟩, q2⟩
/-- o[i] by the own __getitem__ -/
def rIxO (C : Addr) (sp : Sp) (E : XK) : R2 := fun x y H Q => ∃ a dx fs, x = .ref a ∧ H a = some (.ins C dx fs) ∧ sp [.ref a, y] H Q E
theorem pe_ixO {a b : Expr} {ta tb : TE} {pos : Pos} (hm : Meth X.K C "__getitem__" f) (F : FnOk X.prog X.w X.K X.mg X.base CX k f fd ps sp) (hb : Binds X.K fd ps []) (hx : Passes CX X E)
    (hfi : PySem.W.fnIn X.K f = true) (hr1 : Room (k + 1) X.A) (ha : PE X a ta) (hbb : PE X b tb) (hs : PlainIx b)
    (hsl : ∀ o i, subscripted b true o i = runValue (.builtin "lifetime.subscript" ⟨[o, i], []⟩)) : PE X (.Subscript a b pos) (tOp (rIxO C sp E) ta tb) := by
  refine ⟨fun pins s σ H Q I h => ?_⟩
  refine PyProof.Rows.Subscript_ (binT ha hbb I h fun v u s2 x y H2 I2 rx ry h2 => ?_)
  obtain ⟨a', dx, fs, rfl, ea, q⟩ := h2
  cases (show v = Value.ref a' from rx)
  obtain ⟨mA, O, _⟩ := ins_get I2.hok ea
  obtain ⟨od, J, _⟩ := O.look
  obtain ⟨m, fr⟩ := I2.fr
  exact PySem.W.sub_K fr I2.ok.mod.kin J hm.at_ hfi hm.fn (run_in1 F hr1 hb hx I2 (.cons (show RelV (.ref a') (.ref a') from rfl) (.cons ry .nil)) q) (hsl _ _)
/-- o[i] = e by the own __setitem__ -/
def rSetO (C : Addr) (sp : Sp) (E : XK) : TSet := fun o i v H Q => ∃ a dx fs, o = .ref a ∧ H a = some (.ins C dx fs) ∧ sp [.ref a, i, v] H (fun _ H2 => Q H2) E
theorem set_own (hm : Meth X.K C "__setitem__" f) (hq : PySem.W.noSeq X.K C = true) (F : FnOk X.prog X.w X.K X.mg X.base CX k f fd ps sp) (hr : Room k X.A) (hb : Binds X.K fd ps []) (hx : Passes CX X E) : PSet X (rSetO C sp E) := by
  intro pins s σ H o i v ov iv u Q I ro ri rv h
  obtain ⟨a, dx, fs, rfl, ea, q⟩ := h
  cases (show ov = Value.ref a from ro)
  obtain ⟨mA, O, _⟩ := ins_get I.hok ea
  obtain ⟨od, J, _⟩ := O.look
  obtain ⟨m, fr⟩ := I.fr
  refine PySem.W.ksp_setItem fr I.ok.mod.kin J hq hm.at_ hm.fn (wpAny_mono (run_at F hr hb hx I (.cons (show RelV (.ref a) (.ref a) from rfl) (.cons ri (.cons rv .nil))) q) (fun u s1 h1 => ?_) fun _ _ e => e)
  obtain ⟨v, H2, I2, _, q2⟩ := h1
  exact ⟨H2, I2, q2⟩
/-- x in o by the own __contains__ that hands back a bool -/
def rInO (C : Addr) (sp : Sp) (E : XK) : R2 := fun x y H Q => ∃ a dx fs, y = .ref a ∧ H a = some (.ins C dx fs) ∧ sp [.ref a, x] H (fun v H2 => ∃ b : Bool, v = .bl b ∧ Q (.bl b) H2) E
theorem op_inO (hm : Meth X.K C "__contains__" f) (F : FnOk X.prog X.w X.K X.mg X.base CX k f fd ps sp) (hr : Room k X.A) (hb : Binds X.K fd ps []) (hx : Passes CX X E) : OpR X (compareOp .In) (rInO C sp E) := by
  intro pins s σ H x y v u Q I rx ry h
  obtain ⟨a, dx, fs, rfl, ea, q⟩ := h
  cases (show u = Value.ref a from ry)
  obtain ⟨mA, O, _⟩ := ins_get I.hok ea
  obtain ⟨od, J, _⟩ := O.look
  obtain ⟨m, fr⟩ := I.fr
  refine PySem.W.in_K fr I.ok.mod.kin J hm.at_ hm.fn (wpAny_mono (run_at F hr hb hx I (.cons (show RelV (.ref a) (.ref a) from rfl) (.cons rx .nil)) q) (fun u s1 h1 => ?_) fun _ _ e => e)
  obtain ⟨v, H2, I2, rv, b, rfl, q2⟩ := h1
  cases (show u = Value.bool b from rv)
  exact wpAny_truthy_bool ⟨.bl b, H2, I2, rfl, q2⟩
/-- neither NotImplemented .. is handed back: every V is fine -/
theorem cmpBack {pins : List (Addr × Obj)} {σ : L2.St} {Q : VK} {u : Value} {s : Shared} (h : EP X pins σ Q u s) : PySem.W.CmpBack (EP X pins σ Q) u s := by
  obtain ⟨v, H2, I2, rv, q2⟩ := h
  cases v with
  | non => cases rv; exact ⟨.non, H2, I2, rfl, q2⟩
  | bl b => cases rv; exact ⟨.bl b, H2, I2, rfl, q2⟩
  | int i => obtain ⟨t, rfl⟩ := rv; exact ⟨.int i, H2, I2, ⟨_, rfl⟩, q2⟩
  | str i => obtain ⟨t, rfl⟩ := rv; exact ⟨.str i, H2, I2, ⟨_, rfl⟩, q2⟩
  | byt i => obtain ⟨t, rfl⟩ := rv; exact ⟨.byt i, H2, I2, ⟨_, rfl⟩, q2⟩
  | flt i => obtain ⟨t, rfl⟩ := rv; exact ⟨.flt i, H2, I2, ⟨_, rfl⟩, q2⟩
  | ref i => cases rv; exact ⟨.ref i, H2, I2, rfl, q2⟩
  | ty i => cases rv; exact ⟨.ty i, H2, I2, rfl, q2⟩
/-- one op other, both instances of C -/
def rBinO (C : Addr) (sp : Sp) (E : XK) : R2 := fun x y H Q => ∃ a dx fs b dy gs, x = .ref a ∧ y = .ref b ∧ H a = some (.ins C dx fs) ∧ H b = some (.ins C dy gs) ∧ sp [.ref a, .ref b] H Q E
theorem op_binO {op : Operator} (hs : PySem.W.findIn X.K (.ref C) (PySem.dunder op.info.2) = some (some (.ref f))) (hfn : PySem.W.isFn X.K (.ref f) = true) (hc : PySem.W.selfFirst X.K C = true) (F : FnOk X.prog X.w X.K X.mg X.base CX k f fd ps sp) (hr : Room k X.A) (hb : Binds X.K fd ps []) (hx : Passes CX X E) : OpR X (binaryOp op) (rBinO C sp E) := by
  intro pins s σ H x y v u Q I rx ry h
  obtain ⟨a, dx, fs, b, dy, gs, rfl, rfl, ea, eb, q⟩ := h
  cases (show v = Value.ref a from rx)
  cases (show u = Value.ref b from ry)
  obtain ⟨mA, O, _⟩ := ins_get I.hok ea
  obtain ⟨od, J, _⟩ := O.look
  obtain ⟨mB, O2, _⟩ := ins_get I.hok eb
  obtain ⟨od2, J2, _⟩ := O2.look
  obtain ⟨m, fr⟩ := I.fr
  exact PySem.W.binop_K fr I.ok.mod.kin J J2.type hc hs hfn (wpAny_mono (run_at F hr hb hx I (.cons (show RelV (.ref a) (.ref a) from rfl) (.cons (show RelV (.ref b) (.ref b) from rfl) .nil)) q) (fun u s1 h1 => cmpBack h1) fun _ _ e => e)
/-- a comparison by the own method; the other one is of the same class -/
def rCmpO (C : Addr) (sp : Sp) (E : XK) : R2 := fun x y H Q => ∃ a dx fs b dy gs, x = .ref a ∧ y = .ref b ∧ H a = some (.ins C dx fs) ∧ H b = some (.ins C dy gs) ∧ sp [.ref a, .ref b] H Q E
theorem op_cmpO {op : CmpOp} (hop : compareOp op = richCompare op) (hs : PySem.W.findIn X.K (.ref C) (cmpInfo op).2.1 = some (some (.ref f))) (hfn : PySem.W.isFn X.K (.ref f) = true) (F : FnOk X.prog X.w X.K X.mg X.base CX k f fd ps sp) (hr : Room k X.A) (hb : Binds X.K fd ps []) (hx : Passes CX X E) : OpR X (compareOp op) (rCmpO C sp E) := by
  intro pins s σ H x y v u Q I rx ry h
  obtain ⟨a, dx, fs, b, dy, gs, rfl, rfl, ea, eb, q⟩ := h
  cases (show v = Value.ref a from rx)
  cases (show u = Value.ref b from ry)
  obtain ⟨mA, O, _⟩ := ins_get I.hok ea
  obtain ⟨od, J, _⟩ := O.look
  obtain ⟨mB, O2, _⟩ := ins_get I.hok eb
  obtain ⟨od2, J2, _⟩ := O2.look
  obtain ⟨m, fr⟩ := I.fr
  rw [hop]
  exact PySem.W.cmp_K (by have := hr.units; omega) fr I.ok.mod.kin J J2.type (by unfold PySem.W.notFirst; simp) hs hfn (wpAny_mono (run_at F hr hb hx I (.cons (show RelV (.ref a) (.ref a) from rfl) (.cons (show RelV (.ref b) (.ref b) from rfl) .nil)) q) (fun u s1 h1 => cmpBack h1) fun _ _ e => e)
/-- sum of a tuple of ints -/
def rSumT (K : PySem.W.Frag) : List V → Hp → VK → Prop := fun vs H Q => ∃ (a : Addr) (ns : List Int), vs = [V.ref a] ∧ SqT K H a (ns.map V.int) ∧ Q (.int ns.sum) H
theorem cr_sumT (hc : X.calm = true) : CallR X (.builtin "sum") (rSumT X.K) := by
  intro pins s σ H vs us Q I r h
  obtain ⟨a, ns, rfl, hs, q⟩ := h
  obtain ⟨its, rv, ⟨o, ho, hcl, n, hd⟩, _⟩ := I.tuple hs
  rw [Vals.ref1 r]
  have hi := rv.ints
  obtain ⟨xs, e⟩ := hi.allInts.items
  have hn : numsOf (intItems xs).toList = ns := by rw [← e]; exact hi.numsOf
  rw [nums_intItems] at hn
  have ht : s.heap.IsTuple a (intItems xs) := by
    rw [← e]
    exact ⟨o, ho, hcl, n, hd⟩
  refine PySem.W.ktm_sumG (I.ok.hd hc) ht fun h' tk t' hk => ⟨.int _, H, I.kept hk, ⟨_, rfl⟩, ?_⟩
  rw [preSum_eq, List.take_of_length_le (by simp), hn]
  exact q
end

/-! ### built-ins -/
section
variable {K : PySem.W.Frag} {σ : L2.St} {G G' H : Hp} {M M1 M2 M3 F : Mem} {R : Post} {ta tb te : TE} {x y : V} {d e : PyData} {ds : List PyData} {a : Bool} {i : Int}
def tyName : PyData → String
  | .none => "NoneType"
  | .bool _ => "bool"
  | .int _ => "int"
  | .str _ => "str"
  | .list _ => "list"
  | .tuple _ => "tuple"
  | .dict _ => "dict"
theorem tyx_of {v : V} (h : Dp K H v d) : TyX K H v (.type (tyName d)) := by
  cases h with
  | non => exact .base .non
  | bl b => exact .base (.bl b)
  | int i => exact .base (.int i)
  | str s => exact .base (.str s)
  | lst hs _ =>
    rcases hs with (hs | ⟨o, hs⟩) | ⟨o, its, n, hk, hc, _⟩
    · exact .base (.lst hs)
    · exact .base (.frz hs)
    · exact .kList hk hc
  | tup hs _ =>
    rcases hs with (hs | ⟨o, hs⟩) | ⟨o, its, n, hk, hc, _⟩
    · exact .base (.tup hs)
    · exact .fTuple hs
    · exact .kTuple hk hc
def isTyS (n T : String) : Bool := n == T || (n == "bool" && T == "int")
def isTy (d : PyData) (T : String) : Bool := isTyS (tyName d) T
/-- isinstance(x, T) of data, T one of these -/
theorem ev_isi {T : String} (hT : T = "int" ∨ T = "bool" ∨ T = "tuple" ∨ T = "list" ∨ T = "str") (h : Ev ta σ G M (isD K d M1)) : Ev (tCB (rIsi K) (tCons ta (tCons (tC (.ty T)) tNil))) σ G M (isV (.bl (isTy d T)) M1) :=
  ev_CB (Ps := [fun G v => Dp K G v d, fun _ v => v = .ty T]) (ea_cons h (ea_cons ev_c ea_nil)) fun G1 H F vs e m p Q q => by
    match vs, p with
    | [v, c], ⟨p1, p2, _⟩ =>
      subst p2
      refine ⟨v, .ty T, .type (tyName d), .type T, isTy d T, rfl, .ty T, tyx_of (dm p1 m.ex), kit_ty ?_, q _ _ _ _ (Ex.refl _) m ⟨rfl, rfl⟩⟩
      unfold isTy
      cases p1 <;> dsimp only [tyName] <;> rcases hT with rfl | rfl | rfl | rfl | rfl <;> decide +kernel
/-- all([..]), any([..]) over bools -/
theorem ev_all {bs : List Bool} (h : Ev ta σ G M (isD K (.list (bs.map .bool)) M1)) : Ev (tCB (rAll K) (tCons ta tNil)) σ G M (isV (.bl (bs.all id)) M1) :=
  ev_CB (Ps := [fun G v => Dp K G v (.list (bs.map .bool))]) (ea_cons h ea_nil) fun G1 H F vs e m p Q q => by
    match vs, p with
    | [v], ⟨p1, _⟩ =>
      obtain ⟨a, xs, rfl, hs, ha⟩ := dp_lst p1
      rw [dpAll_bls ha] at hs
      exact ⟨a, bs, rfl, ex_l m.ex hs, q _ _ _ _ (Ex.refl _) m ⟨rfl, rfl⟩⟩
theorem ev_any {bs : List Bool} (h : Ev ta σ G M (isD K (.list (bs.map .bool)) M1)) : Ev (tCB (rAny K) (tCons ta tNil)) σ G M (isV (.bl (bs.any id)) M1) :=
  ev_CB (Ps := [fun G v => Dp K G v (.list (bs.map .bool))]) (ea_cons h ea_nil) fun G1 H F vs e m p Q q => by
    match vs, p with
    | [v], ⟨p1, _⟩ =>
      obtain ⟨a, xs, rfl, hs, ha⟩ := dp_lst p1
      rw [dpAll_bls ha] at hs
      exact ⟨a, bs, rfl, ex_l m.ex hs, q _ _ _ _ (Ex.refl _) m ⟨rfl, rfl⟩⟩
theorem ev_sumL {ns : List Int} (h : Ev ta σ G M (isD K (.list (ns.map .int)) M1)) : Ev (tCB (rSum K) (tCons ta tNil)) σ G M (isV (.int ns.sum) M1) :=
  ev_CB (Ps := [fun G v => Dp K G v (.list (ns.map .int))]) (ea_cons h ea_nil) fun G1 H F vs e m p Q q => by
    match vs, p with
    | [v], ⟨p1, _⟩ =>
      obtain ⟨a, xs, rfl, hs, ha⟩ := dp_lst p1
      rw [dpAll_ints ha] at hs
      exact ⟨a, ns, rfl, ex_l m.ex hs, q _ _ _ _ (Ex.refl _) m ⟨rfl, rfl⟩⟩
theorem ev_sumT {ns : List Int} (h : Ev ta σ G M (isD K (.tuple (ns.map .int)) M1)) : Ev (tCB (rSumT K) (tCons ta tNil)) σ G M (isV (.int ns.sum) M1) :=
  ev_CB (Ps := [fun G v => Dp K G v (.tuple (ns.map .int))]) (ea_cons h ea_nil) fun G1 H F vs e m p Q q => by
    match vs, p with
    | [v], ⟨p1, _⟩ =>
      obtain ⟨a, xs, rfl, hs, ha⟩ := dp_tup p1
      rw [dpAll_ints ha] at hs
      exact ⟨a, ns, rfl, ex_t m.ex hs, q _ _ _ _ (Ex.refl _) m ⟨rfl, rfl⟩⟩
def rLenS (K : PySem.W.Frag) : List V → Hp → VK → Prop := fun xs H Q => ∃ p ys, xs = [.ref p] ∧ (SqL K H p ys ∨ SqT K H p ys) ∧ Q (.int ys.length) H
def rListS (K : PySem.W.Frag) : List V → Hp → VK → Prop := fun xs H Q => ∃ p ys, xs = [.ref p] ∧ (SqL K H p ys ∨ SqT K H p ys) ∧ ∀ l, H l = none → Q (.ref l) (upd H l (.lst ys))
def rTupS (K : PySem.W.Frag) : List V → Hp → VK → Prop := fun xs H Q => ∃ p ys, xs = [.ref p] ∧ ((SqL K H p ys ∧ ∀ l, H l = none → Q (.ref l) (upd H l (.tup ys))) ∨ (SqT K H p ys ∧ Q (.ref p) H))
def rInt1 : List V → Hp → VK → Prop := fun xs H Q => (∃ i, xs = [.int i] ∧ Q (.int i) H) ∨ ∃ k, xs = [.bl k] ∧ Q (.int (if k then 1 else 0)) H
theorem c_len {X : Cx} : CallR X (.builtin "len") (rLenS X.K) := call_len_seq
theorem c_list {X : Cx} : CallR X (.type "list") (rListS X.K) := call_list_of
theorem c_tup {X : Cx} : CallR X (.type "tuple") (rTupS X.K) := call_tuple_of
theorem c_int {X : Cx} : CallR X (.type "int") rInt1 := call_int1
/-- len of data -/
theorem ev_lenL (h : Ev ta σ G M (isD K (.list ds) M1)) : Ev (tCB (rLenS K) (tCons ta tNil)) σ G M (isV (.int (ds.length : Int)) M1) :=
  ev_CB (Ps := [fun G v => Dp K G v (.list ds)]) (ea_cons h ea_nil) fun G1 H F vs e m p Q q => by
    match vs, p with
    | [v], ⟨p1, _⟩ =>
      obtain ⟨a, xs, rfl, hs, ha⟩ := dp_lst p1
      exact ⟨a, xs, rfl, .inl (ex_l m.ex hs), q _ _ _ _ (Ex.refl _) m ⟨by rw [dpa_len ha], rfl⟩⟩
theorem ev_lenT (h : Ev ta σ G M (isD K (.tuple ds) M1)) : Ev (tCB (rLenS K) (tCons ta tNil)) σ G M (isV (.int (ds.length : Int)) M1) :=
  ev_CB (Ps := [fun G v => Dp K G v (.tuple ds)]) (ea_cons h ea_nil) fun G1 H F vs e m p Q q => by
    match vs, p with
    | [v], ⟨p1, _⟩ =>
      obtain ⟨a, xs, rfl, hs, ha⟩ := dp_tup p1
      exact ⟨a, xs, rfl, .inr (ex_t m.ex hs), q _ _ _ _ (Ex.refl _) m ⟨by rw [dpa_len ha], rfl⟩⟩
/-- len of a list at an address -/
theorem ev_lenA {p : Addr} {xs : List V} (h : Ev ta σ G M (isV (.ref p) M1)) (hl : AtL K G M1 p xs) : Ev (tCB (rLenS K) (tCons ta tNil)) σ G M (isV (.int (xs.length : Int)) M1) :=
  ev_CB (Ps := [fun _ v => v = .ref p]) (ea_cons h ea_nil) fun G1 H F vs e m p' Q q => by
    match vs, p' with
    | [v], ⟨p1, _⟩ =>
      subst p1
      exact ⟨p, xs, rfl, .inl (hl G1 H F e m), q _ _ _ _ (Ex.refl _) m ⟨rfl, rfl⟩⟩
/-- list(..): a new list, owned -/
theorem ev_listA {p : Addr} {xs : List V} (h : Ev ta σ G M (isV (.ref p) M1)) (hl : AtL K G M1 p xs) (hd : DpAll K G xs ds) : Ev (tCB (rListS K) (tCons ta tNil)) σ G M (own K ds M1) :=
  ev_CB (Ps := [fun _ v => v = .ref p]) (ea_cons h ea_nil) fun G1 H F vs e m p' Q q => by
    match vs, p' with
    | [v], ⟨p1, _⟩ =>
      subst p1
      exact ⟨p, xs, rfl, .inl (hl G1 H F e m), fun l hl => q _ G1 _ _ (Ex.refl _) (m.newMid hl) ⟨l, xs, rfl, rfl, dma hd e⟩⟩
theorem ev_listD (h : Ev ta σ G M (isD K (.list ds) M1)) : Ev (tCB (rListS K) (tCons ta tNil)) σ G M (own K ds M1) :=
  ev_CB (Ps := [fun G v => Dp K G v (.list ds)]) (ea_cons h ea_nil) fun G1 H F vs e m p Q q => by
    match vs, p with
    | [v], ⟨p1, _⟩ =>
      obtain ⟨a, xs, rfl, hs, ha⟩ := dp_lst p1
      exact ⟨a, xs, rfl, .inl (ex_l m.ex hs), fun l hl => q _ G1 _ _ (Ex.refl _) (m.newMid hl) ⟨l, xs, rfl, rfl, ha⟩⟩
theorem ev_listT (h : Ev ta σ G M (isD K (.tuple ds) M1)) : Ev (tCB (rListS K) (tCons ta tNil)) σ G M (own K ds M1) :=
  ev_CB (Ps := [fun G v => Dp K G v (.tuple ds)]) (ea_cons h ea_nil) fun G1 H F vs e m p Q q => by
    match vs, p with
    | [v], ⟨p1, _⟩ =>
      obtain ⟨a, xs, rfl, hs, ha⟩ := dp_tup p1
      exact ⟨a, xs, rfl, .inr (ex_t m.ex hs), fun l hl => q _ G1 _ _ (Ex.refl _) (m.newMid hl) ⟨l, xs, rfl, rfl, ha⟩⟩
theorem ev_tupD (h : Ev ta σ G M (isD K (.list ds) M1)) : Ev (tCB (rTupS K) (tCons ta tNil)) σ G M (isD K (.tuple ds) M1) :=
  ev_CB (Ps := [fun G v => Dp K G v (.list ds)]) (ea_cons h ea_nil) fun G1 H F vs e m p Q q => by
    match vs, p with
    | [v], ⟨p1, _⟩ =>
      obtain ⟨a, xs, rfl, hs, ha⟩ := dp_lst p1
      refine ⟨a, xs, rfl, .inl ⟨ex_l m.ex hs, fun l hl => ?_⟩⟩
      have g1 := m.free hl
      exact q _ _ _ _ (Ex.new g1) (m.newF hl) ⟨.tup (SqT.of upd_same) (dma ha (Ex.new g1)), rfl⟩
theorem ev_tupT (h : Ev ta σ G M (isD K (.tuple ds) M1)) : Ev (tCB (rTupS K) (tCons ta tNil)) σ G M (isD K (.tuple ds) M1) :=
  ev_CB (Ps := [fun G v => Dp K G v (.tuple ds)]) (ea_cons h ea_nil) fun G1 H F vs e m p Q q => by
    match vs, p with
    | [v], ⟨p1, _⟩ =>
      obtain ⟨a, xs, rfl, hs, ha⟩ := dp_tup p1
      exact ⟨a, xs, rfl, .inr ⟨ex_t m.ex hs, q _ _ _ _ (Ex.refl _) m ⟨p1, rfl⟩⟩⟩
theorem ev_int (h : Ev ta σ G M (isV (.int i) M1)) : Ev (tCB rInt1 (tCons ta tNil)) σ G M (isV (.int i) M1) :=
  ev_CB (Ps := [fun _ v => v = .int i]) (ea_cons h ea_nil) fun G1 H F vs e m p' Q q => by
    match vs, p' with
    | [v], ⟨p1, _⟩ =>
      subst p1
      exact .inl ⟨i, rfl, q _ _ _ _ (Ex.refl _) m ⟨rfl, rfl⟩⟩
theorem ev_intB {b : Bool} (h : Ev ta σ G M (isV (.bl b) M1)) : Ev (tCB rInt1 (tCons ta tNil)) σ G M (isV (.int (if b then 1 else 0)) M1) :=
  ev_CB (Ps := [fun _ v => v = .bl b]) (ea_cons h ea_nil) fun G1 H F vs e m p' Q q => by
    match vs, p' with
    | [v], ⟨p1, _⟩ =>
      subst p1
      exact .inr ⟨b, rfl, q _ _ _ _ (Ex.refl _) m ⟨rfl, rfl⟩⟩
/-- slices -/
theorem dpa_drop : ∀ {vs : List V} {ds : List PyData} (n : Nat), DpAll K G vs ds → DpAll K G (vs.drop n) (ds.drop n)
  | _, _, 0, h => h
  | _, [], n + 1, h => by cases h; exact .nil
  | _, d :: ds, n + 1, h => by
    cases h with
    | cons _ h2 => exact dpa_drop n h2
theorem dpa_take : ∀ {vs : List V} {ds : List PyData} (n : Nat), DpAll K G vs ds → DpAll K G (vs.take n) (ds.take n)
  | _, _, 0, h => .nil
  | _, [], n + 1, h => by cases h; exact .nil
  | _, d :: ds, n + 1, h => by
    cases h with
    | cons h1 h2 => exact .cons h1 (dpa_take n h2)
theorem dpa_rev : ∀ {vs : List V} {ds : List PyData}, DpAll K G vs ds → DpAll K G vs.reverse ds.reverse
  | _, [], h => by cases h; exact .nil
  | _, d :: ds, h => by
    cases h with
    | cons h1 h2 =>
      rw [List.reverse_cons, List.reverse_cons]
      exact dpa_app (dpa_rev h2) (.cons h1 .nil)
def cutD (ds : List PyData) (lo hi : Option Int) : List PyData := (ds.drop (HT.sIx ds.length 0 lo)).take (HT.sIx ds.length ds.length hi - HT.sIx ds.length 0 lo)
theorem dpa_cut {vs : List V} (h : DpAll K G vs ds) (lo hi : Option Int) : DpAll K G (cutV vs lo hi) (cutD ds lo hi) := by
  unfold cutV cutD
  rw [dpa_len h]
  exact dpa_take _ (dpa_drop _ h)
def EvO (to : TO) (σ : L2.St) (G : Hp) (M : Mem) (o : Option Int) (M' : Mem) : Prop := ∀ G1 H F, Ex G G1 → Me G1 (M ++ F) H → ∀ Q : Option Int → Hp → Prop, (∀ G2 H2, Ex G1 G2 → Me G2 (M' ++ F) H2 → Q o H2) → to σ H Q
theorem eo_none : EvO tNoPart σ G M none M := fun G1 H F e m Q q => q G1 H (Ex.refl _) m
theorem eo_some (h : Ev ta σ G M (isV (.int i) M1)) : EvO (tPart ta) σ G M (some i) M1 := fun G1 H F e m Q q => h G1 H F e m _ fun v G2 M2 H2 e2 m2 r => by
  obtain ⟨rfl, rfl⟩ := r
  exact ⟨i, rfl, q _ _ e2 m2⟩
theorem ev_slL {tl th : TO} {lo hi : Option Int} (h : Ev te σ G M (isD K (.list ds) M1)) (hl : EvO tl σ G M1 lo M1) (hh : EvO th σ G M1 hi M1) : Ev (tSl (rSlL K) te tl th) σ G M (own K (cutD ds lo hi) M1) := fun G1 H F e m Q q =>
  h G1 H F e m _ fun v G2 M2 H2 e2 m2 r => by
    obtain ⟨dv, rfl⟩ := r
    refine hl G2 H2 F (e.trans e2) m2 _ fun G3 H3 e3 m3 => hh G3 H3 F ((e.trans e2).trans e3) m3 _ fun G4 H4 e4 m4 => ?_
    obtain ⟨a, xs, rfl, hs, ha⟩ := dp_lst (dm dv (e3.trans e4))
    exact ⟨a, xs, rfl, ex_l m4.ex hs, fun p hp => q _ G4 _ _ ((e2.trans e3).trans e4) (m4.newMid hp) ⟨p, _, rfl, rfl, dpa_cut ha lo hi⟩⟩
theorem ev_slLA {tl th : TO} {lo hi : Option Int} {p : Addr} {xs : List V} (h : Ev te σ G M (isV (.ref p) M1)) (hA : AtL K G M1 p xs) (hd : DpAll K G xs ds) (hl : EvO tl σ G M1 lo M1) (hh : EvO th σ G M1 hi M1) : Ev (tSl (rSlL K) te tl th) σ G M (own K (cutD ds lo hi) M1) := fun G1 H F e m Q q =>
  h G1 H F e m _ fun v G2 M2 H2 e2 m2 r => by
    obtain ⟨rfl, rfl⟩ := r
    refine hl G2 H2 F (e.trans e2) m2 _ fun G3 H3 e3 m3 => hh G3 H3 F ((e.trans e2).trans e3) m3 _ fun G4 H4 e4 m4 => ?_
    have e14 := ((e.trans e2).trans e3).trans e4
    exact ⟨p, xs, rfl, hA _ _ _ e14 m4, fun p hp => q _ G4 _ _ ((e2.trans e3).trans e4) (m4.newMid hp) ⟨p, _, rfl, rfl, dpa_cut (dma hd e14) lo hi⟩⟩
theorem ev_revL (h : Ev te σ G M (isD K (.list ds) M1)) : Ev (tRevL K te) σ G M (own K ds.reverse M1) := fun G1 H F e m Q q =>
  h G1 H F e m _ fun v G2 M2 H2 e2 m2 r => by
    obtain ⟨dv, rfl⟩ := r
    obtain ⟨a, xs, rfl, hs, ha⟩ := dp_lst dv
    exact ⟨a, xs, rfl, ex_l m2.ex hs, fun p hp => q _ G2 _ _ e2 (m2.newMid hp) ⟨p, _, rfl, rfl, dpa_rev ha⟩⟩
/-! methods of an owned list -/
theorem ev_append {P1 : Hp → V → Prop} [Mono P1] {p : Addr} {xs : List V} {n : Nat} (h : Ev te σ G M (isV (.ref p) M)) (h2 : Ev ta σ G M (isP P1 M1)) (hl : M1[n]? = some (p, .lst xs)) (hl0 : ∃ (k : Nat) (ys : List V), M[k]? = some (p, HO.lst ys)) (hz : xs.length ≤ 100000) :
    Ev (tBM K "list" rAppend te (tCons ta tNil)) σ G M (fun G v M' => v = .non ∧ ∃ y, P1 G y ∧ M' = M1.set n (p, .lst (xs ++ [y]))) := fun G1 H F e m Q q =>
  h G1 H F e m _ fun v G2 M2 H2 e2 m2 r => by
    obtain ⟨rfl, rfl⟩ := r
    obtain ⟨k, ys, hk⟩ := hl0
    refine ⟨.inl ⟨rfl, ys, SqL.of (m2.getF hk)⟩, h2 G2 H2 F (e.trans e2) m2 _ fun y G3 M3 H3 e3 m3 r3 => ?_⟩
    obtain ⟨py, rfl⟩ := r3
    exact ⟨p, xs, y, rfl, rfl, m3.getF hl, sz_ok hz, q _ G3 _ _ (e2.trans e3) (m3.putF hl) ⟨rfl, y, py, rfl⟩⟩
end
/-! ### the rules that speak of the written part, it being named (within a comprehension's block too) -/
section
variable {X : Cx} {K : PySem.W.Frag}
theorem k_len (hK : X.K = K) : CallR X (.builtin "len") (rLenS K) := hK ▸ c_len
theorem k_list (hK : X.K = K) : CallR X (.type "list") (rListS K) := hK ▸ c_list
theorem k_tup (hK : X.K = K) : CallR X (.type "tuple") (rTupS K) := hK ▸ c_tup
theorem k_isi (hK : X.K = K) : CallR X (.builtin "isinstance") (rIsi K) := hK ▸ call_isi
theorem k_isiT (hK : X.K = K) : CallR X (.builtin "isinstance") (rIsiT K) := hK ▸ call_isiT
theorem k_all (hK : X.K = K) (hc : X.calm = true) : CallR X (.builtin "all") (rAll K) := hK ▸ cr_all hc
theorem k_any (hK : X.K = K) (hc : X.calm = true) : CallR X (.builtin "any") (rAny K) := hK ▸ cr_any hc
theorem k_sum (hK : X.K = K) (hc : X.calm = true) : CallR X (.builtin "sum") (rSum K) := hK ▸ cr_sum hc
theorem k_sumT (hK : X.K = K) (hc : X.calm = true) : CallR X (.builtin "sum") (rSumT K) := hK ▸ cr_sumT hc
theorem k_eqD (hK : X.K = K) (hu : X.A.units + 64 < cLine) : OpR X (compareOp .Eq) (rEqD K) := hK ▸ op_eqD hu
theorem k_neD (hK : X.K = K) (hu : X.A.units + 64 < cLine) : OpR X (compareOp .NotEq) (rNeD K) := hK ▸ op_neD hu
theorem k_ixL (hK : X.K = K) : IxR X (rIxL K) := hK ▸ ix_list
theorem k_ixT (hK : X.K = K) : IxR X (rIxT K) := hK ▸ ix_tup
theorem k_slL (hK : X.K = K) : SlR X (rSlL K) := hK ▸ sl_list
theorem k_fld {e : Expr} {ta : TE} {f : Str} {pos : Pos} (hK : X.K = K) (he : PE X e ta) (hb : attributeBase e f X.env (eval e X.env) = eval e X.env) : PE X (.Attribute e f pos) (tFld K ta f) := hK ▸ pe_fld he hb
theorem k_iL {tg e : Expr} {tl : TE} (hK : X.K = K) (h : PE X e tl) (hi : PI X tg e (iList X.K tl)) : PI X tg e (iList K tl) := hK ▸ hi
end
end SX

set_option Elab.async false
set_option linter.all false
set_option maxRecDepth 100000
/-! SXe: data that is read wherever it stands; objects made; more statements. -/
namespace SX
open PySem PySem.Spec L2

/-- data as it stands in the heap itself -/
def Da (K : PySem.W.Frag) (G : Hp) (M : Mem) (v : V) (d : PyData) : Prop := ∀ G1 H F, Ex G G1 → Me G1 (M ++ F) H → Dp K H v d
section
variable {E : XK} {K : PySem.W.Frag} {σ : L2.St} {G G' H : Hp} {M M1 M2 M3 F : Mem} {R : Post} {P P' : Po} {te ta tb : TE} {tt : TT} {t u : TS} {x y z v : V} {d e : PyData} {ds : List PyData} {a b : Bool} {i : Nat}
theorem Da.of (h : Dp K G v d) : Da K G M v d := fun _ _ _ e m => dm h (e.trans m.ex)
theorem Da.ex (h : Da K G M v d) (e : Ex G G') : Da K G' M v d := fun G1 H F e1 m => h G1 H F (e.trans e1) m
theorem Da.lst {p : Addr} {xs : List V} (h : AtL K G M p xs) (hd : DpAll K G xs ds) : Da K G M (.ref p) (.list ds) := fun G1 H F e m => .lst (h G1 H F e m) (dma hd (e.trans m.ex))
theorem ev_eqA (h1 : Ev ta σ G M (isV x M1)) (h2 : Ev tb σ G M1 (isV y M2)) (a1 : Da K G M2 x d) (a2 : Da K G M2 y e) (s1 : SeqAt.shaped d = true) (s2 : SeqAt.shaped e = true) : Ev (tOp (rEqD K) ta tb) σ G M (isV (.bl (PyData.eqv d e)) M2) :=
  ev_op h1 h2 fun G1 H F x' y' ex m p1 p2 Q q => by
    subst p1 p2
    exact ⟨d, e, a1 G1 H F ex m, a2 G1 H F ex m, s1, s2, q _ G1 _ H (Ex.refl _) m ⟨rfl, rfl⟩⟩
theorem ev_neA (h1 : Ev ta σ G M (isV x M1)) (h2 : Ev tb σ G M1 (isV y M2)) (a1 : Da K G M2 x d) (a2 : Da K G M2 y e) (s1 : SeqAt.shaped d = true) (s2 : SeqAt.shaped e = true) : Ev (tOp (rNeD K) ta tb) σ G M (isV (.bl (!PyData.eqv d e)) M2) :=
  ev_op h1 h2 fun G1 H F x' y' ex m p1 p2 Q q => by
    subst p1 p2
    exact ⟨d, e, a1 G1 H F ex m, a2 G1 H F ex m, s1, s2, q _ G1 _ H (Ex.refl _) m ⟨rfl, rfl⟩⟩
theorem ev_isiA {T : String} (hT : T = "int" ∨ T = "bool" ∨ T = "tuple" ∨ T = "list" ∨ T = "str") (h : Ev ta σ G M (isV x M1)) (hd : Da K G M1 x d) : Ev (tCB (rIsi K) (tCons ta (tCons (tC (.ty T)) tNil))) σ G M (isV (.bl (isTy d T)) M1) :=
  ev_CB (Ps := [fun _ v => v = x, fun _ v => v = .ty T]) (ea_cons h (ea_cons ev_c ea_nil)) fun G1 H F vs e m p Q q => by
    match vs, p with
    | [v, c], ⟨p1, p2, _⟩ =>
      subst p1 p2
      have p1 := hd G1 H F e m
      refine ⟨v, .ty T, .type (tyName d), .type T, isTy d T, rfl, .ty T, tyx_of p1, kit_ty ?_, q _ _ _ _ (Ex.refl _) m ⟨rfl, rfl⟩⟩
      unfold isTy
      cases p1 <;> dsimp only [tyName] <;> rcases hT with rfl | rfl | rfl | rfl | rfl <;> decide +kernel
theorem atI_int {α : Type} {xs : List α} {i : Int} {x : α} (h0 : 0 ≤ i) (h : xs[i.toNat]? = some x) : atI xs i = some x := by
  have := L2.atI_nat (j := i.toNat) h
  rwa [Int.toNat_of_nonneg h0] at this
/-- a new instance -/
theorem ev_make {α : Type} {pre : α → Hp → Mem → List V → Prop} {post : α → Mem → Post} {tA : TA} {E : XK} {C : Addr} {Ps : List (Hp → V → Prop)} (xx : Addr → Addr → α) (h : EvA tA σ G M Ps M1)
    (hp : ∀ G1 p dx vs, Ex G G1 → AllP G1 Ps vs → pre (xx p dx) G1 (M1 ++ [(p, .ins C dx [])]) (.ref p :: vs))
    (hq : ∀ G1 p dx v M2, Ex G G1 → post (xx p dx) (M1 ++ [(p, .ins C dx [])]) G1 v M2 → v = .non ∧ R G1 (.ref p) M2) : Ev (tMake C (spec pre post) [] E tA) σ G M R := fun G1 H F e m Q q =>
  h G1 H F e m _ fun vs G2 H2 e2 m2 a p dx hpn hdn hne => by
    have hp2 : upd H2 dx (.own p) p = none := by rw [upd_ne hne.symm]; exact hpn
    refine ⟨xx p dx, G2, _, F, (m2.new hdn).newMid hp2, by rw [List.append_nil]; exact hp G2 p dx vs (e.trans e2) a, fun v G3 M3 H3 e3 m3 r => ?_⟩
    obtain ⟨rfl, r3⟩ := hq G3 p dx v M3 ((e.trans e2).trans e3) r
    exact ⟨rfl, q _ G3 M3 H3 (e2.trans e3) m3 r3⟩
/-- o.f = e -/
theorem sv_fld {tv : TE} {f : Str} {p C dx : Addr} {fs : List (Str × V)} {n : Nat} (h : Ev tv σ G M R) (h1 : ∀ G1 v M1, Ex G G1 → R G1 v M1 → Ev ta σ G1 M1 (isV (.ref p) M1) ∧ M1[n]? = some (p, .ins C dx fs)) (hc : Cls K C) (hn : NoAttr K C f) (hl : fs.length < 1000)
    (q : ∀ G1 G2 v M1, Ex G G1 → Ex G1 G2 → R G1 v M1 → P.nx G2 σ (M1.set n (p, .ins C dx (putF f v fs)))) : Sv E (sFld K ta tv f) σ G M P := fun G1 H F D e m hd =>
  h G1 H F e m _ fun v G2 M2 H2 e2 m2 r2 => by
    obtain ⟨ha, hM⟩ := h1 G2 v M2 (e.trans e2) r2
    refine ha G2 H2 F (Ex.refl _) m2 _ fun w G3 M3 H3 e3 m3 r3 => ?_
    obtain ⟨rfl, rfl⟩ := r3
    exact ⟨p, C, dx, fs, rfl, m3.getF hM, hc, hn, hl, hd.nx _ _ _ _ (e2.trans e3) (m3.putF hM) (q G2 G3 v _ (e.trans e2) e3 r2)⟩
/-- what is owned may be frozen behind an expression -/
theorem Ev.frzLast {o : HO} {p : Addr} {M0 : Mem} (h : Ev te σ G M (fun G v M' => R G v M')) (hR : ∀ G1 v M1, R G1 v M1 → ∃ p o M0, M1 = M0 ++ [(p, o)] ∧ ∀ G2, Ex G1 G2 → G2 p = some o → P1 G2 v M0) : Ev te σ G M P1 := fun G1 H F e m Q q =>
  h G1 H F e m Q fun v G2 M2 H2 e2 m2 r => by
    obtain ⟨p, o, M0, rfl, k⟩ := hR G2 v M2 r
    obtain ⟨m3, e3⟩ := m2.freezeLast
    exact q v _ M0 H2 (e2.trans e3) m3 (k _ e3 upd_same)
/-- freezing within a run -/
theorem sv_frzLast {p : Addr} {o : HO} {M0 : Mem} (h : ∀ G', Ex G G' → G' p = some o → Sv E t σ G' M0 P) : Sv E t σ G (M0 ++ [(p, o)]) P := fun G1 H F D e m hd => by
  obtain ⟨m3, e3⟩ := m.freezeLast
  exact h _ (e.trans e3) upd_same _ H F D (Ex.refl _) m3 (hd.up e3)
/-- forgetting what is owned -/
theorem sv_less {M' : Mem} (h : Sv E t σ G M P) : Sv E t σ G (M ++ M') P := fun G1 H F D e m hd => h G1 H F D e m.dropLast hd
/-- what is wanted, of less -/
theorem post_less {M' : Mem} {R : Post} (h : Ev te σ G M (fun G v M2 => ∃ Mx, M2 = M1 ++ Mx ∧ R G v M1)) : Ev te σ G M (fun G v M2 => M2 = M1 ∧ R G v M1) := fun G1 H F e m Q q =>
  h G1 H F e m Q fun v G2 M2 H2 e2 m2 r => by
    obtain ⟨Mx, rfl, r⟩ := r
    exact q v G2 M1 H2 e2 m2.dropLast ⟨rfl, r⟩
theorem sv_retL {M' : Mem} (h : Ev te σ G M R) (k : ∀ v G' M1, Ex G G' → R G' v M1 → ∃ M0 Mx, M1 = M0 ++ Mx ∧ P.rt G' v M0) : Sv E (tRet te) σ G M P := fun G1 H F D e m hd =>
  h G1 H F e m _ fun v G2 M2 H2 e2 m2 r => by
    obtain ⟨M0, Mx, eM, r'⟩ := k v G2 M2 (e.trans e2) r
    subst eM
    exact hd.rt v G2 M0 H2 e2 m2.dropLast r'
end

/-! ### names for the pieces of a law's own draws -/
structure Deck where
  a : Int
  b : Int
  c : Int
def Deck.ho (D : Deck) : HO := .lst [.int D.a, .int D.b, .int D.c]
def stir (c b : Int) : Int := ((((c * 48271 + b * 69621) % 2147483647) * ((c * 48271 + b * 69621) % 2147483647) + b) % 2147483629 * 40692) % 2147483399
/-- what is drawn, the deck then -/
def dv (D : Deck) (n : Int) : Int := if D.a > 0 then D.a % n else (stir D.c (D.b + 1) / 8) % n
def dn (D : Deck) (n : Int) : Deck := if D.a > 0 then ⟨D.a / n, D.b, D.c⟩ else ⟨D.a, D.b + 1, D.c⟩
theorem dv_lo {D : Deck} {n : Int} (h : 0 < n) : 0 ≤ dv D n := by
  unfold dv
  split <;> exact Int.emod_nonneg _ (by omega)
theorem dv_hi {D : Deck} {n : Int} (h : 0 < n) : dv D n < n := by
  unfold dv
  split <;> exact Int.emod_lt_of_pos _ h
abbrev drawPre : (Addr × Nat × Deck × Int) → Hp → Mem → List V → Prop := fun x G M vs => vs = [.ref x.1, .int x.2.2.2] ∧ 0 < x.2.2.2 ∧ x.2.2.2 < 2 ^ 200 ∧ M[x.2.1]? = some (x.1, x.2.2.1.ho)
abbrev drawPost : (Addr × Nat × Deck × Int) → Mem → Post := fun x M => isV (.int (dv x.2.2.1 x.2.2.2)) (M.set x.2.1 (x.1, (dn x.2.2.1 x.2.2.2).ho))
theorem ev_draw {σ : L2.St} {G : Hp} {M : Mem} {tA : TA} {E : XK} {dk : Addr} {D : Deck} {n : Int} {M1 : Mem} (i : Nat) (h : EvA tA σ G M [fun _ v => v = .ref dk, fun _ v => v = .int n] M1) (hi : M1[i]? = some (dk, D.ho)) (h0 : 0 < n) (h1 : n < 2 ^ 200) :
    Ev (tCall (spec drawPre drawPost) [] E tA) σ G M (isV (.int (dv D n)) (M1.set i (dk, (dn D n).ho))) :=
  ev_call (dk, i, D, n) h fun G1 vs e a => by
    match vs, a with
    | [v, w], ⟨p1, p2, _⟩ =>
      subst p1 p2
      exact ⟨rfl, h0, h1, hi⟩
end SX

set_option Elab.async false
set_option linter.all false
set_option maxRecDepth 100000
/-! SXf: sheets: what the program's own small defs come to. -/
namespace SX
open PySem PySem.Spec L2

def isInt : PyData → Bool
  | .int _ => true
  | _ => false
def intOf : PyData → Int
  | .int n => n
  | _ => 0
def isWhole (d : PyData) (lo hi : Int) : Bool := isInt d && (decide (lo ≤ intOf d) && decide (intOf d ≤ hi))
theorem isInt_of {d : PyData} (h : isTy d "int" = true) (h2 : isTy d "bool" = false) : d = .int (intOf d) := by
  cases d with
  | int n => rfl
  | bool b =>
    have : isTy (.bool b) "bool" = true := by show isTyS "bool" "bool" = true; decide +kernel
    rw [this] at h2
    cases h2
  | none => exact absurd h (by show ¬ (isTyS "NoneType" "int" = true); decide +kernel)
  | str s => exact absurd h (by show ¬ (isTyS "str" "int" = true); decide +kernel)
  | list s => exact absurd h (by show ¬ (isTyS "list" "int" = true); decide +kernel)
  | tuple s => exact absurd h (by show ¬ (isTyS "tuple" "int" = true); decide +kernel)
  | dict s => exact absurd h (by show ¬ (isTyS "dict" "int" = true); decide +kernel)
theorem isTy_int (n : Int) : isTy (.int n) "int" = true := by show isTyS "int" "int" = true; decide +kernel
theorem isTy_int_b (n : Int) : isTy (.int n) "bool" = false := by show isTyS "int" "bool" = false; decide +kernel
theorem isTy_tup (n : List PyData) : isTy (.tuple n) "tuple" = true := by show isTyS "tuple" "tuple" = true; decide +kernel
theorem isTy_lst (n : List PyData) : isTy (.list n) "list" = true := by show isTyS "list" "list" = true; decide +kernel
theorem isInt_ty (d : PyData) : (isTy d "int" && !isTy d "bool") = isInt d := by
  cases h : (isTy d "int" && !isTy d "bool") with
  | true =>
    simp only [Bool.and_eq_true, Bool.not_eq_true'] at h
    rw [isInt_of h.1 h.2]
    rfl
  | false =>
    cases d with
    | int n =>
      rw [isTy_int, isTy_int_b] at h
      cases h
    | _ => rfl
theorem tup_of {d : PyData} (h : isTy d "tuple" = true) : ∃ ds, d = .tuple ds := by
  cases d with
  | tuple ds => exact ⟨ds, rfl⟩
  | int n => exact absurd h (by show ¬ (isTyS "int" "tuple" = true); decide +kernel)
  | bool b => exact absurd h (by show ¬ (isTyS "bool" "tuple" = true); decide +kernel)
  | none => exact absurd h (by show ¬ (isTyS "NoneType" "tuple" = true); decide +kernel)
  | str s => exact absurd h (by show ¬ (isTyS "str" "tuple" = true); decide +kernel)
  | list s => exact absurd h (by show ¬ (isTyS "list" "tuple" = true); decide +kernel)
  | dict s => exact absurd h (by show ¬ (isTyS "dict" "tuple" = true); decide +kernel)
theorem lst_of {d : PyData} (h : isTy d "list" = true) : ∃ ds, d = .list ds := by
  cases d with
  | list ds => exact ⟨ds, rfl⟩
  | int n => exact absurd h (by show ¬ (isTyS "int" "list" = true); decide +kernel)
  | bool b => exact absurd h (by show ¬ (isTyS "bool" "list" = true); decide +kernel)
  | none => exact absurd h (by show ¬ (isTyS "NoneType" "list" = true); decide +kernel)
  | str s => exact absurd h (by show ¬ (isTyS "str" "list" = true); decide +kernel)
  | tuple s => exact absurd h (by show ¬ (isTyS "tuple" "list" = true); decide +kernel)
  | dict s => exact absurd h (by show ¬ (isTyS "dict" "list" = true); decide +kernel)

abbrev wholePre (K : PySem.W.Frag) : (PyData × Int × Int) → Hp → Mem → List V → Prop := fun x G M vs => ∃ v, vs = [v, .int x.2.1, .int x.2.2] ∧ Dp K G v x.1
abbrev wholePost : (PyData × Int × Int) → Mem → Post := fun x M => isV (.bl (isWhole x.1 x.2.1 x.2.2)) M
/-- one argument, any data; a truth value back -/
abbrev d1Pre (K : PySem.W.Frag) : PyData → Hp → Mem → List V → Prop := fun d G M vs => ∃ v, vs = [v] ∧ Dp K G v d
abbrev b1Post (f : PyData → Bool) : PyData → Mem → Post := fun d M => isV (.bl (f d)) M
theorem ev_whole {K : PySem.W.Frag} {σ : L2.St} {G : Hp} {M M1 : Mem} {tA : TA} {E : XK} {d : PyData} {lo hi : Int} (h : EvA tA σ G M [fun G v => Dp K G v d, fun _ v => v = .int lo, fun _ v => v = .int hi] M1) :
    Ev (tCall (spec (wholePre K) wholePost) [] E tA) σ G M (isV (.bl (isWhole d lo hi)) M1) :=
  ev_call (d, lo, hi) h fun G1 vs e a => by
    match vs, a with
    | [v, w, u], ⟨p1, p2, p3, _⟩ =>
      subst p2 p3
      exact ⟨v, rfl, p1⟩
theorem ev_d1 {K : PySem.W.Frag} {σ : L2.St} {G : Hp} {M M1 : Mem} {ta : TE} {E : XK} {d : PyData} {f : PyData → Bool} (h : Ev ta σ G M (isD K d M1)) :
    Ev (tCall (spec (d1Pre K) (b1Post f)) [] E (tCons ta tNil)) σ G M (isV (.bl (f d)) M1) :=
  ev_call d (ea_cons h ea_nil) fun G1 vs e a => by
    match vs, a with
    | [v], ⟨p1, _⟩ => exact ⟨v, rfl, p1⟩
def horner (base : Int) (figs : List Int) (last : Int) : Int := figs.foldr (fun f v => v * base + f) last
/-! columns -/
def colD (c : List Int) : PyData := .tuple (c.map .int)
def isCol (base rows : Int) : PyData → Bool
  | .tuple ds => decide ((ds.length : Int) = rows) && ds.all fun d => isWhole d 0 (base - 1)
  | _ => false
def areCols (base rows : Int) : PyData → Bool
  | .list ds => ds.all fun d => isCol base rows d
  | _ => false
def GoodCol (b r : Int) (c : List Int) : Prop := (c.length : Int) = r ∧ ∀ f ∈ c, 0 ≤ f ∧ f < b
theorem isCol_good {b r : Int} {c : List Int} (h : GoodCol b r c) : isCol b r (colD c) = true := by
  unfold isCol colD
  simp only [List.length_map, Bool.and_eq_true, decide_eq_true_eq, List.all_eq_true, List.mem_map]
  refine ⟨h.1, ?_⟩
  rintro d ⟨f, hf, rfl⟩
  have := h.2 f hf
  exact Bool.and_eq_true_iff.mpr ⟨rfl, Bool.and_eq_true_iff.mpr ⟨decide_eq_true this.1, decide_eq_true (show f ≤ b - 1 by omega)⟩⟩
theorem areCols_good {b r : Int} {cs : List (List Int)} (h : ∀ c ∈ cs, GoodCol b r c) : areCols b r (.list (cs.map colD)) = true := by
  unfold areCols
  simp only [List.all_eq_true, List.mem_map]
  rintro d ⟨c, hc, rfl⟩
  exact isCol_good (h c hc)
def valueOf (b : Int) (cs : List (List Int)) : Int := horner b (cs.map List.sum) 0
/-! a sheet as it stands -/
theorem s_br : ¬ (("_base" : Str) = "_rows") := by decide +kernel
theorem s_bc : ¬ (("_base" : Str) = "_columns") := by decide +kernel
theorem s_rb : ¬ (("_rows" : Str) = "_base") := by decide +kernel
theorem s_rc : ¬ (("_rows" : Str) = "_columns") := by decide +kernel
theorem s_cb : ¬ (("_columns" : Str) = "_base") := by decide +kernel
theorem s_cr : ¬ (("_columns" : Str) = "_rows") := by decide +kernel
def shF (b r : V) (l : V) : List (Str × V) := putF "_columns" l (putF "_rows" r (putF "_base" b []))
theorem shF_b {b r l : V} : (shF b r l).lookup ("_base" : Str) = some b := by
  unfold shF
  rw [lookup_putF, if_neg s_bc, lookup_putF, if_neg s_br, lookup_putF, if_pos rfl]
theorem shF_r {b r l : V} : (shF b r l).lookup ("_rows" : Str) = some r := by
  unfold shF
  rw [lookup_putF, if_neg s_rc, lookup_putF, if_pos rfl]
theorem shF_c {b r l : V} : (shF b r l).lookup ("_columns" : Str) = some l := by
  unfold shF
  rw [lookup_putF, if_pos rfl]
theorem shF_no {b r l : V} {m : Str} (h1 : ¬ m = "_base") (h2 : ¬ m = "_rows") (h3 : ¬ m = "_columns") : (shF b r l).lookup m = none := by
  unfold shF
  rw [lookup_putF, if_neg h3, lookup_putF, if_neg h2, lookup_putF, if_neg h1]
  rfl
/-- a sheet at p, whoever owns its list -/
def ShAt (K : PySem.W.Frag) (C : Addr) (G : Hp) (M : Mem) (p : Addr) (b r : Int) (cs : List (List Int)) : Prop :=
  ∃ dx l xs, At G M p (.ins C dx (shF (.int b) (.int r) (.ref l))) ∧ AtL K G M l xs ∧ DpAll K G xs (cs.map colD)
theorem ShAt.ex {K : PySem.W.Frag} {C : Addr} {G G' : Hp} {M : Mem} {p : Addr} {b r : Int} {cs : List (List Int)} (h : ShAt K C G M p b r cs) (e : Ex G G') : ShAt K C G' M p b r cs := by
  obtain ⟨dx, l, xs, h1, h2, h3⟩ := h
  exact ⟨dx, l, xs, h1.ex e, h2.ex e, dma h3 e⟩
/-- a promise of a sheet's reading method -/
abbrev shPre (K : PySem.W.Frag) (C : Addr) : (Addr × Int × Int × List (List Int)) → Hp → Mem → List V → Prop := fun x G M vs => vs = [.ref x.1] ∧ ShAt K C G M x.1 x.2.1 x.2.2.1 x.2.2.2
theorem Ev.wk {te : TE} {σ : L2.St} {G : Hp} {M : Mem} {R : Post} (h : Ev te σ G M R) : ∀ {R' : Post}, (∀ G1 v M1, Ex G G1 → R G1 v M1 → R' G1 v M1) → Ev te σ G M R' := fun f => h.imp f
theorem kept_map {α : Type} (l : List α) (f : α → PyData) : kept (l.map f).length (fun _ => true) (fun i => ((l.map f)[i]?).getD .none) = l.map f := by
  rw [kept_all]
  apply List.ext_getElem?
  intro i
  rw [List.getElem?_map, List.getElem?_map]
  by_cases h : i < l.length
  · rw [List.getElem?_range (by rw [List.length_map]; exact h), List.getElem?_eq_getElem h]
    simp [List.getElem?_map, h]
  · rw [List.getElem?_eq_none (by simp; omega), List.getElem?_eq_none (by omega)]
    rfl
theorem kept_ids (ds : List PyData) : kept ds.length (fun _ => true) (fun i => (ds[i]?).getD .none) = ds := by
  have := kept_map ds id
  simpa using this
theorem kept_ext {n : Nat} {ds : List PyData} {fd : Nat → PyData} (hl : ds.length = n) (h : ∀ i d, ds[i]? = some d → fd i = d) : kept n (fun _ => true) fd = ds := by
  rw [kept_all]
  apply List.ext_getElem?
  intro i
  rw [List.getElem?_map]
  by_cases hi : i < n
  · rw [List.getElem?_range hi]
    have e : ds[i]? = some ds[i] := List.getElem?_eq_getElem (by omega)
    rw [e]
    exact congrArg some (h i _ e)
  · rw [List.getElem?_eq_none (by simp; omega), List.getElem?_eq_none (by omega)]
    rfl
theorem kept_const {n : Nat} {x : Int} : kept n (fun _ => true) (fun _ => PyData.int x) = (List.replicate n x).map PyData.int := by
  rw [kept_all, List.map_replicate]
  apply List.ext_getElem?
  intro k
  rw [List.getElem?_map]
  by_cases hk : k < n
  · rw [List.getElem?_range hk, List.getElem?_replicate, if_pos hk]
    rfl
  · rw [List.getElem?_eq_none (by simp; omega), List.getElem?_eq_none (by simp; omega)]
    rfl
/-- the list of the script -/
def spLaw (K : PySem.W.Frag) : Sp := fun vs H Q _ => ∃ (a : Addr) (ns : List Int), vs = [.ref a] ∧ SqL K H a (ns.map V.int) ∧ ns.length ≤ 63 ∧ ∀ H', Q (.bl true) H'
abbrev lawPre (K : PySem.W.Frag) : List Int → Hp → Mem → List V → Prop := fun ns G M vs => ∃ v, vs = [v] ∧ Dp K G v (.list (ns.map .int)) ∧ ns.length ≤ 63 ∧ M = []
abbrev lawPost : List Int → Mem → Post := fun _ M G v M' => v = .bl true
theorem law_fin {P : Program} {w : World} {K : PySem.W.Frag} {mg : Str → Option Value} {base : Heap} {CX : CXT} {k : Nat} {f : Addr} {fd : FuncData} {ps : List Str} (F : FnOk P w K mg base CX k f fd ps (spec (lawPre K) lawPost)) : FnOk P w K mg base CX k f fd ps (spLaw K) :=
  F.imp fun vs H Q E h => by
    obtain ⟨a, ns, rfl, hs, hl, q⟩ := h
    refine ⟨ns, H, [], [], ⟨Ex.refl H, fun p hp => (by cases hp), List.nodup_nil⟩, ⟨.ref a, rfl, .lst hs (ints_dpAll ns), hl, rfl⟩, fun v G' M' H' _ _ r => ?_⟩
    subst r
    exact q H'
end SX
namespace SX
open PySem PySem.Spec L2
section
variable {K : PySem.W.Frag} {σ : L2.St} {G : Hp} {M M1 : Mem} {tl te : TE} {own' : List Nat} {k : Nat} {ds : List PyData}
theorem et_yes : EvT tYes σ G M true M := fun _ _ _ _ m _ q => q _ _ (Ex.refl _) m
theorem kept_bools {f : PyData → Bool} : kept ds.length (fun _ => true) (fun i => .bool (f ((ds[i]?).getD .none))) = (ds.map f).map .bool := by
  refine kept_ext (by simp) fun i d hd => ?_
  rw [List.map_map, List.getElem?_map] at hd
  cases q : ds[i]? with
  | none => rw [q] at hd; cases hd
  | some z => rw [q] at hd; simpa using hd
theorem all_map_id {f : PyData → Bool} : (ds.map f).all id = ds.all f := by simp [List.all_map, Function.comp_def]
theorem any_map_id {f : PyData → Bool} : (ds.map f).any id = ds.any f := by simp [List.any_map, Function.comp_def]
theorem ev_bsL {f : PyData → Bool} (hs : Ev tl σ G M (isD K (.list ds) M1)) (hn : ds.length ≤ 100000)
    (he : ∀ (i : Nat) d x G', ds[i]? = some d → Ex G G' → Dp K G' x d → Ev te ((wipe σ own').set k (some x)) G' M1 (isV (.bl (f d)) M1)) (hw : ∀ x, wipe ((wipe σ own').set k (some x)) own' = wipe σ own') :
    Ev (tLc (iList K tl) (gName k) tYes te own') σ G M (isD K (.list ((ds.map f).map .bool)) M1) := by
  rw [← kept_bools]
  refine Ev.frz (ev_lcL (K := K) (fun _ => true) (fun _ => M1) _ hs hn (fun _ _ _ _ _ _ _ => et_yes) (fun i d x G' hd e dx _ => ?_) (fun _ _ => rfl) hw)
  rw [hd]
  exact ev_bD (he i d x G' hd e dx)
theorem ev_bsT {f : PyData → Bool} (hs : Ev tl σ G M (isD K (.tuple ds) M1)) (hn : ds.length ≤ 100000)
    (he : ∀ (i : Nat) d x G', ds[i]? = some d → Ex G G' → Dp K G' x d → Ev te ((wipe σ own').set k (some x)) G' M1 (isV (.bl (f d)) M1)) (hw : ∀ x, wipe ((wipe σ own').set k (some x)) own' = wipe σ own') :
    Ev (tLc (iTup K tl) (gName k) tYes te own') σ G M (isD K (.list ((ds.map f).map .bool)) M1) := by
  rw [← kept_bools]
  refine Ev.frz (ev_lcT (K := K) (fun _ => true) (fun _ => M1) _ hs hn (fun _ _ _ _ _ _ _ => et_yes) (fun i d x G' hd e dx _ => ?_) (fun _ _ => rfl) hw)
  rw [hd]
  exact ev_bD (he i d x G' hd e dx)
theorem ev_bsR {tn : TA} {n : Int} {f : Nat → Bool} (hs : EvA tn σ G M [fun _ v => v = .int n] M1) (hn : n ≤ 100000) (hn0 : -100000 ≤ n)
    (he : ∀ (i : Nat) G', i < n.toNat → Ex G G' → Ev te ((wipe σ own').set k (some (.int (0 + (i : Int))))) G' M1 (isV (.bl (f i)) M1)) (hw : ∀ x, wipe ((wipe σ own').set k (some x)) own' = wipe σ own') :
    Ev (tLc (iRng1 tn) (gName k) tYes te own') σ G M (isD K (.list (((List.range n.toNat).map f).map .bool)) M1) := by
  have := Ev.frz (ev_lcR (K := K) (own' := own') (k := k) (fun _ => true) (fun _ => M1) (fun i => .bool (f i)) hs hn hn0 (fun _ _ _ _ => et_yes) (fun i G' hi e _ => ev_bD (he i G' hi e)) (fun _ _ => rfl) hw)
  rw [kept_all] at this
  rw [List.map_map]
  exact this
theorem ev_allL {f : PyData → Bool} (hs : Ev tl σ G M (isD K (.list ds) M1)) (hn : ds.length ≤ 100000)
    (he : ∀ (i : Nat) d x G', ds[i]? = some d → Ex G G' → Dp K G' x d → Ev te ((wipe σ own').set k (some x)) G' M1 (isV (.bl (f d)) M1)) (hw : ∀ x, wipe ((wipe σ own').set k (some x)) own' = wipe σ own') :
    Ev (tCB (rAll K) (tCons (tLc (iList K tl) (gName k) tYes te own') tNil)) σ G M (isV (.bl (ds.all f)) M1) := by
  rw [← all_map_id]
  exact ev_all (ev_bsL hs hn he hw)
theorem ev_allT {f : PyData → Bool} (hs : Ev tl σ G M (isD K (.tuple ds) M1)) (hn : ds.length ≤ 100000)
    (he : ∀ (i : Nat) d x G', ds[i]? = some d → Ex G G' → Dp K G' x d → Ev te ((wipe σ own').set k (some x)) G' M1 (isV (.bl (f d)) M1)) (hw : ∀ x, wipe ((wipe σ own').set k (some x)) own' = wipe σ own') :
    Ev (tCB (rAll K) (tCons (tLc (iTup K tl) (gName k) tYes te own') tNil)) σ G M (isV (.bl (ds.all f)) M1) := by
  rw [← all_map_id]
  exact ev_all (ev_bsT hs hn he hw)
theorem ev_anyL {f : PyData → Bool} (hs : Ev tl σ G M (isD K (.list ds) M1)) (hn : ds.length ≤ 100000)
    (he : ∀ (i : Nat) d x G', ds[i]? = some d → Ex G G' → Dp K G' x d → Ev te ((wipe σ own').set k (some x)) G' M1 (isV (.bl (f d)) M1)) (hw : ∀ x, wipe ((wipe σ own').set k (some x)) own' = wipe σ own') :
    Ev (tCB (rAny K) (tCons (tLc (iList K tl) (gName k) tYes te own') tNil)) σ G M (isV (.bl (ds.any f)) M1) := by
  rw [← any_map_id]
  exact ev_any (ev_bsL hs hn he hw)
theorem ev_allR {tn : TA} {n : Int} {f : Nat → Bool} (hs : EvA tn σ G M [fun _ v => v = .int n] M1) (hn : n ≤ 100000) (hn0 : -100000 ≤ n)
    (he : ∀ (i : Nat) G', i < n.toNat → Ex G G' → Ev te ((wipe σ own').set k (some (.int (0 + (i : Int))))) G' M1 (isV (.bl (f i)) M1)) (hw : ∀ x, wipe ((wipe σ own').set k (some x)) own' = wipe σ own') :
    Ev (tCB (rAll K) (tCons (tLc (iRng1 tn) (gName k) tYes te own') tNil)) σ G M (isV (.bl ((List.range n.toNat).all f)) M1) := by
  have e : ((List.range n.toNat).map f).all id = (List.range n.toNat).all f := by simp [List.all_map, Function.comp_def]
  rw [← e]
  exact ev_all (K := K) (ev_bsR hs hn hn0 he hw)
end
end SX
namespace SX
open PySem PySem.Spec L2
abbrev placePre (K : PySem.W.Frag) : (Int × List Int × Int) → Hp → Mem → List V → Prop := fun x G M vs => ∃ v, vs = [.int x.1, v, .int x.2.2] ∧ Dp K G v (.list (x.2.1.map .int)) ∧ -(2 ^ 64) < x.1 ∧ x.1 < 2 ^ 64
abbrev placePost : (Int × List Int × Int) → Mem → Post := fun x M => isV (.int (horner x.1 x.2.1 x.2.2)) M
def dlen : PyData → Nat
  | .tuple ds => ds.length
  | .list ds => ds.length
  | _ => 0
/-- (base, rows, data): a truth value back; what is long is not let -/
abbrev colPre (K : PySem.W.Frag) : (Int × Int × PyData) → Hp → Mem → List V → Prop := fun x G M vs => ∃ v, vs = [.int x.1, .int x.2.1, v] ∧ Dp K G v x.2.2 ∧ dlen x.2.2 ≤ 100000
abbrev colPost (f : Int → Int → PyData → Bool) : (Int × Int × PyData) → Mem → Post := fun x M => isV (.bl (f x.1 x.2.1 x.2.2)) M
theorem ev_col {K : PySem.W.Frag} {σ : L2.St} {G : Hp} {M M1 : Mem} {tA : TA} {E : XK} {f : Int → Int → PyData → Bool} {d : PyData} {b r : Int} (h : EvA tA σ G M [fun _ v => v = .int b, fun _ v => v = .int r, fun G v => Dp K G v d] M1) (hz : dlen d ≤ 100000) :
    Ev (tCall (spec (colPre K) (colPost f)) [] E tA) σ G M (isV (.bl (f b r d)) M1) :=
  ev_call (b, r, d) h fun G1 vs e a => by
    match vs, a with
    | [v, w, u], ⟨p1, p2, p3, _⟩ =>
      subst p1 p2
      exact ⟨u, rfl, p3, hz⟩
end SX
namespace SX
open PySem PySem.Spec L2
theorem At.more {G : Hp} {M M' : Mem} {a : Addr} {o : HO} (h : At G M a o) : At G (M ++ M') a o := fun G1 H F e m => h G1 H (M' ++ F) e (by rw [List.append_assoc] at m; exact m)
theorem AtL.more {K : PySem.W.Frag} {G : Hp} {M M' : Mem} {a : Addr} {xs : List V} (h : AtL K G M a xs) : AtL K G (M ++ M') a xs := fun G1 H F e m => h G1 H (M' ++ F) e (by rw [List.append_assoc] at m; exact m)
/-- data; a list may be owned, its items stand still -/
def Dt (K : PySem.W.Frag) (G : Hp) (M : Mem) (v : V) (d : PyData) : Prop := Dp K G v d ∨ ∃ a xs ds, v = .ref a ∧ d = .list ds ∧ AtL K G M a xs ∧ DpAll K G xs ds
theorem Dt.ex {K : PySem.W.Frag} {G G' : Hp} {M : Mem} {v : V} {d : PyData} (h : Dt K G M v d) (e : Ex G G') : Dt K G' M v d := by
  rcases h with h | ⟨a, xs, ds, h1, h2, h3, h4⟩
  · exact .inl (dm h e)
  · exact .inr ⟨a, xs, ds, h1, h2, h3.ex e, dma h4 e⟩
theorem Dt.da {K : PySem.W.Frag} {G : Hp} {M : Mem} {v : V} {d : PyData} (h : Dt K G M v d) : Da K G M v d := by
  rcases h with h | ⟨a, xs, ds, rfl, rfl, h3, h4⟩
  · exact .of h
  · exact .lst h3 h4
theorem Dt.lst {K : PySem.W.Frag} {G : Hp} {M : Mem} {v : V} {ds : List PyData} (h : Dt K G M v (.list ds)) : ∃ a xs, v = .ref a ∧ AtL K G M a xs ∧ DpAll K G xs ds := by
  rcases h with h | ⟨a, xs, ds', h1, h2, h3, h4⟩
  · obtain ⟨a, xs, h1, h2, h3⟩ := dp_lst h
    exact ⟨a, xs, h1, .G h2, h3⟩
  · cases h2
    exact ⟨a, xs, h1, h3, h4⟩
abbrev colsPre (K : PySem.W.Frag) : (Int × Int × PyData) → Hp → Mem → List V → Prop := fun x G M vs => ∃ v, vs = [.int x.1, .int x.2.1, v] ∧ Dt K G M v x.2.2 ∧ dlen x.2.2 ≤ 100000 ∧ ∀ ds, x.2.2 = .list ds → ∀ c ∈ ds, dlen c ≤ 100000
theorem ev_cols {K : PySem.W.Frag} {σ : L2.St} {G : Hp} {M M1 : Mem} {tA : TA} {E : XK} {f : Int → Int → PyData → Bool} {d : PyData} {b r : Int} {x : V} (h : EvA tA σ G M [fun _ v => v = .int b, fun _ v => v = .int r, fun _ v => v = x] M1) (hd : Dt K G M1 x d) (hz : dlen d ≤ 100000) (hy : ∀ ds, d = .list ds → ∀ c ∈ ds, dlen c ≤ 100000) :
    Ev (tCall (spec (colsPre K) (colPost f)) [] E tA) σ G M (isV (.bl (f b r d)) M1) :=
  ev_call (b, r, d) h fun G1 vs e a => by
    match vs, a with
    | [v, w, u], ⟨p1, p2, p3, _⟩ =>
      subst p1 p2 p3
      exact ⟨u, rfl, hd.ex e, hz, hy⟩
/-- good arguments of a sheet -/
structure GoodSh (b r : Int) (cs : List (List Int)) : Prop where
  b2 : 2 ≤ b
  b12 : b ≤ 12
  r1 : 1 ≤ r
  r4 : r ≤ 4
  len : cs.length ≤ 10000
  col : ∀ c ∈ cs, GoodCol b r c
theorem dlen_colD (c : List Int) : dlen (colD c) = c.length := by simp [dlen, colD]
theorem GoodSh.clen {b r : Int} {cs : List (List Int)} (h : GoodSh b r cs) {c : List Int} (hc : c ∈ cs) : c.length ≤ 4 := by
  have := (h.col c hc).1
  have := h.r4
  omega
/-- a sheet is made: x = (p, dx, b, r, cs); columns a list of data that may be owned -/
abbrev mkShPre (K : PySem.W.Frag) (C : Addr) : (Addr × Addr × Int × Int × List (List Int)) → Hp → Mem → List V → Prop := fun x G M vs => ∃ a xs M0, vs = [.ref x.1, .int x.2.2.1, .int x.2.2.2.1, .ref a] ∧ M = M0 ++ [(x.1, .ins C x.2.1 [])] ∧ AtL K G M0 a xs ∧ DpAll K G xs (x.2.2.2.2.map colD) ∧ GoodSh x.2.2.1 x.2.2.2.1 x.2.2.2.2
abbrev mkShPost (K : PySem.W.Frag) (C : Addr) : (Addr × Addr × Int × Int × List (List Int)) → Mem → Post := fun x M G v M' => v = .non ∧ ∃ l xs M0, M = M0 ++ [(x.1, .ins C x.2.1 [])] ∧ M' = M0 ++ [(x.1, .ins C x.2.1 (shF (.int x.2.2.1) (.int x.2.2.2.1) (.ref l))), (l, .lst xs)] ∧ DpAll K G xs (x.2.2.2.2.map colD)
end SX
namespace SX
open PySem PySem.Spec L2
theorem ev_place {K : PySem.W.Frag} {σ : L2.St} {G : Hp} {M M1 : Mem} {tA : TA} {E : XK} {figs : List Int} {b last : Int} (h : EvA tA σ G M [fun _ v => v = .int b, fun G v => Dp K G v (.list (figs.map .int)), fun _ v => v = .int last] M1) (hb : -(2 ^ 64) < b ∧ b < 2 ^ 64) :
    Ev (tCall (spec (placePre K) placePost) [] E tA) σ G M (isV (.int (horner b figs last)) M1) :=
  ev_call (b, figs, last) h fun G1 vs e a => by
    match vs, a with
    | [v, w, u], ⟨p1, p2, p3, _⟩ =>
      subst p1 p3
      exact ⟨w, rfl, p2, hb⟩
abbrev shGPre (K : PySem.W.Frag) (C : Addr) : (Addr × Int × Int × List (List Int)) → Hp → Mem → List V → Prop := fun x G M vs => shPre K C x G M vs ∧ x.2.2.2.length ≤ 100000 ∧ (-(2 ^ 64) < x.2.1 ∧ x.2.1 < 2 ^ 64)
abbrev shIxPre (K : PySem.W.Frag) (C : Addr) : ((Addr × Int × Int × List (List Int)) × Int × List Int) → Hp → Mem → List V → Prop := fun x G M vs => vs = [.ref x.1.1, .int x.2.1] ∧ ShAt K C G M x.1.1 x.1.2.1 x.1.2.2.1 x.1.2.2.2 ∧ 0 ≤ x.2.1 ∧ x.1.2.2.2[x.2.1.toNat]? = some x.2.2
/-- [e for x in l] over a list at an address that stands still -/
theorem ev_mapA {K : PySem.W.Frag} {σ : L2.St} {G : Hp} {M M1 : Mem} {tl te : TE} {own' : List Nat} {k : Nat} {p : Addr} {xs : List V} {ds es : List PyData} (fd : Nat → PyData) (hs : Ev tl σ G M (isV (.ref p) M1)) (hA : AtL K G M1 p xs) (hd : DpAll K G xs ds) (hn : ds.length ≤ 100000)
    (he : ∀ (i : Nat) d x G', ds[i]? = some d → Ex G G' → Dp K G' x d → Ev te ((wipe σ own').set k (some x)) G' M1 (isD K (fd i) M1)) (hw : ∀ x, wipe ((wipe σ own').set k (some x)) own' = wipe σ own')
    (hk : kept ds.length (fun _ => true) fd = es) : Ev (tLc (iList K tl) (gName k) tYes te own') σ G M (own K es M1) := fun G1 H F e m Q q =>
  hs G1 H F e m _ fun v G2 M2 H2 e2 m2 r2 => by
    obtain ⟨rfl, rfl⟩ := r2
    have hln := dpa_len hd
    refine ⟨p, rfl, ⟨xs, hA _ _ _ (e.trans e2) m2⟩, fun D hD => lc_list (K := K) (a := p) (xs := xs) (fun i H' => ∃ G' vs, Ex G2 G' ∧ Me G' (M2 ++ (D, .lst vs) :: F) H' ∧ DpAll K G' vs (kept i (fun _ => true) fd)) ?_ ?_ ?_ ?_⟩
    · exact ⟨G2, [], Ex.refl _, by rw [mem_mid]; exact m2.newMid hD, .nil⟩
    · rintro i H' _ ⟨G', vs, e', m', _⟩
      exact hA _ _ _ ((e.trans e2).trans e') m'
    · rintro i x H' hx ⟨G', vs, e', m', da⟩
      obtain ⟨d, hd', dx⟩ := dpa_atV hd hx
      have hi : i < xs.length := (List.getElem?_eq_some_iff.mp hx).1
      refine ⟨hw x, lc_turn (K := K) (fd := fd) (Mi := fun _ => M2) (b := true) et_yes (fun _ => he i d x G' hd' ((e.trans e2).trans e') (dm dx ((e.trans e2).trans e'))) (fun z => by cases z) m' e' da ?_ ?_⟩
      · rw [dpa_len da]
        have := kept_len i (fun _ => true) fd
        exact sz_ok (by omega)
      · intro G3 vs' H3 e3 m3 d3
        exact ⟨G3, vs', e3, m3, by rw [kept_succ]; exact d3⟩
    · rintro H' ⟨G', vs, e', m', da⟩
      rw [hln, hk] at da
      rw [mem_mid] at m'
      exact q _ G' _ H' (e2.trans e') m' ⟨D, vs, rfl, rfl, da⟩
/-- len(o), o[i] of a sheet -/
theorem ev_lenO {α : Type} {pre : α → Hp → Mem → List V → Prop} {post : α → Mem → Post} {σ : L2.St} {G : Hp} {M M1 : Mem} {ta : TE} {C p dx : Addr} {fs : List (Str × V)} {E : XK} {n : Int} (xx : α) (h : Ev ta σ G M (isV (.ref p) M1)) (ha : At G M1 p (.ins C dx fs)) (hp : ∀ G1, Ex G G1 → pre xx G1 M1 [.ref p])
    (hq : ∀ G1 v M2, post xx M1 G1 v M2 → v = .int n ∧ M2 = M1) (hn : 0 ≤ n ∧ n < 2 ^ 63) : Ev (tCB (rLenO C (spec pre post) E) (tCons ta tNil)) σ G M (isV (.int n) M1) :=
  ev_CB (Ps := [fun _ v => v = .ref p]) (ea_cons h ea_nil) fun G1 H F vs e m p' Q q => by
    match vs, p' with
    | [v], ⟨p1, _⟩ =>
      subst p1
      refine ⟨p, dx, fs, rfl, ha G1 H F e m, xx, G1, M1, F, m, hp G1 e, fun v' G' M' H' e' m' r => ?_⟩
      obtain ⟨rfl, rfl⟩ := hq G' v' M' r
      exact ⟨n, rfl, hn, q _ G' _ H' e' m' ⟨rfl, rfl⟩⟩
theorem ev_ixO {α : Type} {pre : α → Hp → Mem → List V → Prop} {post : α → Mem → Post} {σ : L2.St} {G : Hp} {M M1 M2 : Mem} {ta tb : TE} {C p dx : Addr} {y : V} {fs : List (Str × V)} {E : XK} (xx : α) (h : Ev ta σ G M (isV (.ref p) M1)) (h2 : Ev tb σ G M1 (isV y M2)) (ha : At G M2 p (.ins C dx fs)) (hp : ∀ G1, Ex G G1 → pre xx G1 M2 [.ref p, y]) :
    Ev (tOp (rIxO C (spec pre post) E) ta tb) σ G M (post xx M2) :=
  ev_op h h2 fun G1 H F x' y' e m p1 p2 Q q => by
    subst p1 p2
    exact ⟨p, dx, fs, rfl, ha G1 H F e m, xx, G1, M2, F, m, hp G1 e, fun v' G' M' H' e' m' r => q v' G' M' H' e' m' r⟩
end SX
namespace SX
open PySem PySem.Spec L2
section
variable {K : PySem.W.Frag} {σ : L2.St} {G : Hp} {M M1 : Mem} {tl te : TE} {own' : List Nat} {k : Nat} {ds : List PyData} {p : Addr} {xs : List V}
theorem ev_allA {f : PyData → Bool} (hs : Ev tl σ G M (isV (.ref p) M1)) (hA : AtL K G M1 p xs) (hd : DpAll K G xs ds) (hn : ds.length ≤ 100000)
    (he : ∀ (i : Nat) d x G', ds[i]? = some d → Ex G G' → Dp K G' x d → Ev te ((wipe σ own').set k (some x)) G' M1 (isV (.bl (f d)) M1)) (hw : ∀ x, wipe ((wipe σ own').set k (some x)) own' = wipe σ own') :
    Ev (tCB (rAll K) (tCons (tLc (iList K tl) (gName k) tYes te own') tNil)) σ G M (isV (.bl (ds.all f)) M1) := by
  rw [← all_map_id]
  refine ev_all (Ev.frz (ev_mapA (K := K) (fun i => .bool (f ((ds[i]?).getD .none))) hs hA hd hn (fun i d x G' h e dx => ?_) hw kept_bools))
  rw [h]
  exact ev_bD (he i d x G' h e dx)
theorem ev_ixTA {ta tb : TE} {M2 : Mem} {x : V} {i : Int} (h1 : Ev ta σ G M (isV (.ref p) M1)) (h2 : Ev tb σ G M1 (isV (.int i) M2)) (hL : AtT K G M2 p xs) (hx : atI xs i = some x) : Ev (tOp (rIxT K) ta tb) σ G M (isV x M2) :=
  ev_op h1 h2 fun G1 H F x' y' e m p1 p2 Q q => by
    subst p1 p2
    exact ⟨p, xs, i, x, rfl, rfl, hL G1 H F e m, hx, q _ _ _ _ (Ex.refl _) m ⟨rfl, rfl⟩⟩
/-- a written tuple of any values -/
theorem ev_tupV {t : TA} {vs : List V} (h : EvA t σ G M (vs.map fun x => fun _ v => v = x) M1) (hl : vs.length ≤ 1000) : Ev (tTup t) σ G M (fun G v M' => ∃ p, v = .ref p ∧ M' = M1 ∧ G p = some (.tup vs)) := fun G1 H F e m Q q =>
  h G1 H F e m _ fun ws G2 H2 e2 m2 a => by
    have hv : ws = vs := by
      have : ∀ {xs vs : List V}, AllP G2 (xs.map fun x => fun _ v => v = x) vs → vs = xs := by
        intro xs
        induction xs with
        | nil =>
          intro vs a
          cases vs with
          | nil => rfl
          | cons _ _ => exact a.elim
        | cons x xs ih =>
          intro vs a
          cases vs with
          | nil => exact a.elim
          | cons v vs => rw [a.1, ih a.2]
      exact this a
    subst hv
    refine ⟨Nat.le_of_lt (small1000 hl), fun p hp => ?_⟩
    have g2 := m2.free hp
    exact q _ _ _ _ (e2.trans (Ex.new g2)) (m2.newF hp) ⟨p, rfl, rfl, upd_same⟩
/-- a sheet is made: the instance stands still, its list is owned -/
theorem ev_mkSh {tA : TA} {E : XK} {C a : Addr} {b r : Int} {cs : List (List Int)} (h : EvA tA σ G M [fun _ v => v = .int b, fun _ v => v = .int r, fun _ v => v = .ref a] M1) (hA : AtL K G M1 a xs) (hd : DpAll K G xs (cs.map colD)) (g : GoodSh b r cs) :
    Ev (tMake C (spec (mkShPre K C) (mkShPost K C)) [] E tA) σ G M (fun G1 v M' => ∃ p dx l ys, v = .ref p ∧ G1 p = some (.ins C dx (shF (.int b) (.int r) (.ref l))) ∧ M' = M1 ++ [(l, .lst ys)] ∧ DpAll K G1 ys (cs.map colD)) := by
  have h0 := ev_make (E := E) (C := C) (pre := mkShPre K C) (post := mkShPost K C) (R := fun G1 v M' => ∃ p dx l ys, v = .ref p ∧ M' = M1 ++ [(p, .ins C dx (shF (.int b) (.int r) (.ref l))), (l, .lst ys)] ∧ DpAll K G1 ys (cs.map colD)) (fun p dx => (p, dx, b, r, cs)) h
    (fun G1 p dx vs e q => by
      match vs, q with
      | [v1, v2, v3], ⟨p1, p2, p3, _⟩ =>
        subst p1 p2 p3
        exact ⟨a, xs, M1, rfl, rfl, hA.ex e, dma hd e, g⟩)
    (fun G1 p dx v M2 e q => by
      obtain ⟨rfl, l, ys, M0, e0, rfl, dd⟩ := q
      have := List.append_cancel_right e0
      subst this
      exact ⟨rfl, p, dx, l, ys, rfl, rfl, dd⟩)
  intro G1 H F e m Q q
  refine h0 G1 H F e m Q fun v G2 M2 H2 e2 m2 r2 => ?_
  obtain ⟨p, dx, l, ys, rfl, rfl, dd⟩ := r2
  rw [show (M1 ++ [(p, HO.ins C dx (shF (.int b) (.int r) (.ref l))), (l, HO.lst ys)]) ++ F = M1 ++ (p, HO.ins C dx (shF (.int b) (.int r) (.ref l))) :: ((l, HO.lst ys) :: F) by simp] at m2
  obtain ⟨m3, e3⟩ := m2.freezeMid
  refine q _ _ (M1 ++ [(l, .lst ys)]) H2 (e2.trans e3) (by rw [List.append_assoc]; exact m3) ⟨p, dx, l, ys, rfl, upd_same, rfl, dma dd e3⟩
/-- .. all of it stands still -/
theorem ev_mkShF {tA : TA} {E : XK} {C a : Addr} {b r : Int} {cs : List (List Int)} (h : EvA tA σ G M [fun _ v => v = .int b, fun _ v => v = .int r, fun _ v => v = .ref a] M1) (hA : AtL K G M1 a xs) (hd : DpAll K G xs (cs.map colD)) (g : GoodSh b r cs) :
    Ev (tMake C (spec (mkShPre K C) (mkShPost K C)) [] E tA) σ G M (fun G1 v M' => ∃ p, v = .ref p ∧ M' = M1 ∧ ∀ M2, ShAt K C G1 M2 p b r cs) := fun G1 H F e m Q q =>
  ev_mkSh h hA hd g G1 H F e m Q fun v G2 M2 H2 e2 m2 r2 => by
    obtain ⟨p, dx, l, ys, rfl, hp, rfl, dd⟩ := r2
    obtain ⟨m3, e3⟩ := m2.freezeLast
    exact q _ _ M1 H2 (e2.trans e3) m3 ⟨p, rfl, rfl, fun M2 => ⟨dx, l, ys, .G (e3 _ _ hp), .G (SqL.of upd_same), dma dd e3⟩⟩
end
end SX

set_option Elab.async false
set_option linter.all false
set_option maxRecDepth 100000
/-! SXg: data: shapes, equality; what laws draw. -/
namespace SX
open PySem PySem.Spec L2
open PyData

structure Sh (n : Nat) (d : PyData) : Prop where
  lay : PyData.canLay0 d = true
  dep : PyData.depth d ≤ n
theorem Sh.ok {n : Nat} {d : PyData} (h : Sh n d) (hn : n ≤ 64 := by decide) : SeqAt.shaped d = true := Bool.and_eq_true_iff.mpr ⟨h.lay, decide_eq_true (Nat.le_trans h.dep hn)⟩
theorem sh_int {n : Nat} (i : Int) : Sh n (.int i) := ⟨by simp only [canLay0], by simp only [PyData.depth]; omega⟩
theorem sh_bl {n : Nat} (i : Bool) : Sh n (.bool i) := ⟨by simp only [canLay0], by simp only [PyData.depth]; omega⟩
theorem sh_non {n : Nat} : Sh n .none := ⟨by simp only [canLay0], by simp only [PyData.depth]; omega⟩
theorem sh_all {n : Nat} : ∀ {ds : List PyData}, (∀ d ∈ ds, Sh n d) → PyData.canLayAll0 ds = true ∧ PyData.depthAll ds ≤ n
  | [], _ => ⟨by simp only [canLayAll0], by simp only [PyData.depthAll]; omega⟩
  | d :: ds, h => by
    have h1 := h d List.mem_cons_self
    have h2 := sh_all (ds := ds) fun e he => h e (List.mem_cons_of_mem _ he)
    refine ⟨?_, ?_⟩
    · simp only [canLayAll0, h1.lay, h2.1, Bool.and_self]
    · simp only [PyData.depthAll]
      have := h1.dep
      omega
theorem sh_lst {n : Nat} {ds : List PyData} (h : ∀ d ∈ ds, Sh n d) : Sh (n + 1) (.list ds) := by
  obtain ⟨h1, h2⟩ := sh_all h
  exact ⟨by simp only [canLay0]; exact h1, by simp only [PyData.depth]; omega⟩
theorem sh_tup {n : Nat} {ds : List PyData} (h : ∀ d ∈ ds, Sh n d) : Sh (n + 1) (.tuple ds) := by
  obtain ⟨h1, h2⟩ := sh_all h
  exact ⟨by simp only [canLay0]; exact h1, by simp only [PyData.depth]; omega⟩
theorem sh_ints {n : Nat} (ns : List Int) : Sh (n + 1) (.list (ns.map PyData.int)) := sh_lst fun d hd => by
  obtain ⟨i, _, rfl⟩ := List.mem_map.mp hd
  exact sh_int i
theorem sh_col {n : Nat} (c : List Int) : Sh (n + 1) (colD c) := sh_tup fun d hd => by
  obtain ⟨i, _, rfl⟩ := List.mem_map.mp hd
  exact sh_int i
theorem sh_cols {n : Nat} (cs : List (List Int)) : Sh (n + 2) (.list (cs.map colD)) := sh_lst fun d hd => by
  obtain ⟨i, _, rfl⟩ := List.mem_map.mp hd
  exact sh_col i
/-! equality of ints, lists of ints, columns -/
theorem eqv_ints : ∀ (a b : List Int), PyData.eqvAll (a.map PyData.int) (b.map PyData.int) = decide (a = b)
  | [], [] => by simp [PyData.eqvAll]
  | [], _ :: _ => by simp [PyData.eqvAll]
  | _ :: _, [] => by simp [PyData.eqvAll]
  | x :: a, y :: b => by
    simp only [List.map_cons, PyData.eqvAll, PyData.eqv, eqv_ints a b]
    by_cases h : x = y <;> simp [h]
theorem eqv_lst (a b : List Int) : PyData.eqv (.list (a.map PyData.int)) (.list (b.map PyData.int)) = decide (a = b) := by
  simp only [PyData.eqv, eqv_ints]
theorem eqv_col (a b : List Int) : PyData.eqv (colD a) (colD b) = decide (a = b) := by
  unfold colD
  simp only [PyData.eqv, eqv_ints]
theorem eqv_colsA : ∀ (a b : List (List Int)), PyData.eqvAll (a.map colD) (b.map colD) = decide (a = b)
  | [], [] => by simp [PyData.eqvAll]
  | [], _ :: _ => by simp [PyData.eqvAll]
  | _ :: _, [] => by simp [PyData.eqvAll]
  | x :: a, y :: b => by
    simp only [List.map_cons, PyData.eqvAll, eqv_col, eqv_colsA a b]
    by_cases h : x = y <;> simp [h]
theorem eqv_cols (a b : List (List Int)) : PyData.eqv (.list (a.map colD)) (.list (b.map colD)) = decide (a = b) := by
  simp only [PyData.eqv, eqv_colsA]
/-! the cells of a script, the deck of a cell -/
def cellsOf (ns : List Int) : List Int := if ns = [] then [0] else ns.take 63
theorem cellsOf_len (ns : List Int) : (cellsOf ns).length ≤ 63 := by
  unfold cellsOf
  split
  · simp
  · rw [List.length_take]
    omega
def deckOf (c : Int) : Deck := if 10 ^ 18 ≤ c then ⟨c - 10 ^ 18, 0, 1⟩ else ⟨0, 0, c % 2147483629 + 2⟩
abbrev cellsPre (K : PySem.W.Frag) : List Int → Hp → Mem → List V → Prop := fun ns G M vs => ∃ v, vs = [v] ∧ Dp K G v (.list (ns.map .int)) ∧ ns.length ≤ 63
abbrev cellsPost (K : PySem.W.Frag) : List Int → Mem → Post := fun ns M => isD K (.list ((cellsOf ns).map .int)) M
abbrev deckPre : Int → Hp → Mem → List V → Prop := fun c G M vs => vs = [.int c]
abbrev deckPost : Int → Mem → Post := fun c M G v M' => ∃ dk, v = .ref dk ∧ M' = M ++ [(dk, (deckOf c).ho)]
theorem ev_deck {σ : L2.St} {G : Hp} {M M1 : Mem} {tA : TA} {E : XK} {c : Int} (h : EvA tA σ G M [fun _ v => v = .int c] M1) : Ev (tCall (spec deckPre deckPost) [] E tA) σ G M (deckPost c M1) :=
  ev_call c h fun G1 vs e a => by
    match vs, a with
    | [v], ⟨p1, _⟩ =>
      subst p1
      rfl
theorem ev_cells {K : PySem.W.Frag} {σ : L2.St} {G : Hp} {M M1 : Mem} {tA : TA} {E : XK} {ns : List Int} (h : EvA tA σ G M [fun G v => Dp K G v (.list (ns.map .int))] M1) (hl : ns.length ≤ 63) : Ev (tCall (spec (cellsPre K) (cellsPost K)) [] E tA) σ G M (cellsPost K ns M1) :=
  ev_call ns h fun G1 vs e a => by
    match vs, a with
    | [v], ⟨p1, _⟩ => exact ⟨v, rfl, p1, hl⟩
/-- a new list of ints, owned, every item known -/
theorem ev_lstI {σ : L2.St} {G : Hp} {M M1 : Mem} {t : TA} {xs : List V} (h : EvA t σ G M (xs.map fun x => fun _ v => v = x) M1) (hl : xs.length ≤ 1000) : Ev (tLst t) σ G M (fun G v M' => ∃ p, v = .ref p ∧ M' = M1 ++ [(p, .lst xs)]) := fun G1 H F e m Q q =>
  h G1 H F e m _ fun vs G2 H2 e2 m2 a => by
    have hv : vs = xs := by
      have : ∀ {xs vs : List V}, AllP G2 (xs.map fun x => fun _ v => v = x) vs → vs = xs := by
        intro xs
        induction xs with
        | nil =>
          intro vs a
          cases vs with
          | nil => rfl
          | cons _ _ => exact a.elim
        | cons x xs ih =>
          intro vs a
          cases vs with
          | nil => exact a.elim
          | cons v vs => rw [a.1, ih a.2]
      exact this a
    subst hv
    exact ⟨Nat.le_of_lt (small1000 hl), fun p hp => q _ _ _ _ e2 (m2.newMid hp) ⟨p, rfl, rfl⟩⟩
theorem cutD_take {ds : List PyData} {n : Nat} : cutD ds none (some (n : Int)) = ds.take n := by
  unfold cutD
  rw [HT.sIx_none, show HT.sIx ds.length ds.length (some (n : Int)) = min n ds.length from HT.sIx_nat _ _ _]
  simp
end SX
namespace SX
open PySem PySem.Spec L2
/-- the law's own word: the due tuple of integers -/
def isCol2 (d e : PyData) : Bool := match d with
  | .tuple ds => PyData.eqv d e && ds.all isInt
  | _ => false
abbrev d2Post (f : PyData → PyData → Bool) : (PyData × PyData) → Mem → Post := fun x M => isV (.bl (f x.1 x.2)) M
abbrev col2Pre (K : PySem.W.Frag) : (PyData × PyData) → Hp → Mem → List V → Prop := fun x G M vs => ∃ v u, vs = [v, u] ∧ Dp K G v x.1 ∧ Dp K G u x.2 ∧ SeqAt.shaped x.1 = true ∧ SeqAt.shaped x.2 = true ∧ dlen x.1 ≤ 100000
theorem ev_col2 {K : PySem.W.Frag} {σ : L2.St} {G : Hp} {M M1 : Mem} {tA : TA} {E : XK} {d e : PyData} {f : PyData → PyData → Bool} (h : EvA tA σ G M [fun G v => Dp K G v d, fun G v => Dp K G v e] M1) (h1 : SeqAt.shaped d = true) (h2 : SeqAt.shaped e = true) (hz : dlen d ≤ 100000) :
    Ev (tCall (spec (col2Pre K) (d2Post f)) [] E tA) σ G M (isV (.bl (f d e)) M1) :=
  ev_call (d, e) h fun G1 vs ex a => by
    match vs, a with
    | [v, u], ⟨p1, p2, _⟩ => exact ⟨v, u, rfl, p1, p2, h1, h2, hz⟩
theorem isCol2_cols (a b : List Int) : isCol2 (colD a) (colD b) = decide (a = b) := by
  show (PyData.eqv (colD a) (colD b) && (a.map PyData.int).all isInt) = _
  rw [eqv_col]
  have : (a.map PyData.int).all isInt = true := by
    rw [List.all_eq_true]
    intro x hx
    obtain ⟨i, _, rfl⟩ := List.mem_map.mp hx
    rfl
  rw [this, Bool.and_true]
end SX

set_option Elab.async false
set_option linter.all false
set_option maxRecDepth 100000
/-! SXh: what laws of sheets reckon and draw. -/
namespace SX
open PySem PySem.Spec L2

theorem Ev.toDp {K : PySem.W.Frag} {te : TE} {σ : L2.St} {G : Hp} {M M1 : Mem} {x : V} {d : PyData} (h : Ev te σ G M (isV x M1)) (hd : Dp K G x d) : Ev te σ G M (isD K d M1) := h.impP fun G1 v e r => by
  rw [r]
  exact dm hd e
/-- a list of columns, wherever it stands -/
structure ColsAt (K : PySem.W.Frag) (G : Hp) (M : Mem) (a : Addr) (cs : List (List Int)) : Prop where
  ex : ∃ xs, AtL K G M a xs ∧ DpAll K G xs (cs.map colD)
theorem ColsAt.up {K : PySem.W.Frag} {G G' : Hp} {M : Mem} {a : Addr} {cs : List (List Int)} (h : ColsAt K G M a cs) (e : Ex G G') : ColsAt K G' M a cs := by
  obtain ⟨xs, h1, h2⟩ := h.ex
  exact ⟨xs, h1.ex e, dma h2 e⟩
theorem ColsAt.of {K : PySem.W.Frag} {G : Hp} {M : Mem} {a : Addr} {cs : List (List Int)} (h : Dp K G (.ref a) (.list (cs.map colD))) : ColsAt K G M a cs := by
  obtain ⟨b, xs, e, hs, ha⟩ := dp_lst h
  cases e
  exact ⟨xs, .G hs, ha⟩
theorem ColsAt.da {K : PySem.W.Frag} {G : Hp} {M : Mem} {a : Addr} {cs : List (List Int)} (h : ColsAt K G M a cs) : Da K G M (.ref a) (.list (cs.map colD)) := by
  obtain ⟨xs, h1, h2⟩ := h.ex
  exact Da.lst h1 h2
theorem ColsAt.more {K : PySem.W.Frag} {G : Hp} {M M' : Mem} {a : Addr} {cs : List (List Int)} (h : ColsAt K G M a cs) : ColsAt K G (M ++ M') a cs := by
  obtain ⟨xs, h1, h2⟩ := h.ex
  exact ⟨xs, fun G1 H F e m => h1 G1 H (M' ++ F) e (by rw [List.append_assoc] at m; exact m), h2⟩
theorem ShAt.more {K : PySem.W.Frag} {C : Addr} {G : Hp} {M M' : Mem} {p : Addr} {b r : Int} {cs : List (List Int)} (h : ShAt K C G M p b r cs) : ShAt K C G (M ++ M') p b r cs := by
  obtain ⟨dx, l, xs, h1, h2, h3⟩ := h
  exact ⟨dx, l, xs, h1.more, h2.more, h3⟩
/-! are_columns -/
abbrev arePre (K : PySem.W.Frag) : (Addr × Addr × List (List Int) × List (List Int)) → Hp → Mem → List V → Prop := fun x G M vs => vs = [.ref x.1, .ref x.2.1] ∧ ColsAt K G M x.1 x.2.2.1 ∧ ColsAt K G M x.2.1 x.2.2.2 ∧ x.2.2.1.length ≤ 100000 ∧ x.2.2.2.length ≤ 100000 ∧ ∀ c ∈ x.2.2.1, c.length ≤ 100000
abbrev arePost : (Addr × Addr × List (List Int) × List (List Int)) → Mem → Post := fun x M => isV (.bl (decide (x.2.2.1 = x.2.2.2))) M
theorem ev_are {K : PySem.W.Frag} {σ : L2.St} {G : Hp} {M M1 : Mem} {tA : TA} {E : XK} {a b : Addr} {fs cs : List (List Int)} (h : EvA tA σ G M [fun _ v => v = .ref a, fun _ v => v = .ref b] M1) (h1 : ColsAt K G M1 a fs) (h2 : ColsAt K G M1 b cs) (l1 : fs.length ≤ 100000) (l2 : cs.length ≤ 100000) (l3 : ∀ c ∈ fs, c.length ≤ 100000) :
    Ev (tCall (spec (arePre K) arePost) [] E tA) σ G M (isV (.bl (decide (fs = cs))) M1) :=
  ev_call (a, b, fs, cs) h fun G1 vs ex p => by
    match vs, p with
    | [v, u], ⟨p1, p2, _⟩ =>
      subst p1 p2
      exact ⟨rfl, h1.up ex, h2.up ex, l1, l2, l3⟩
theorem all_are {fs cs : List (List Int)} (h : fs.length = cs.length) : ((List.range cs.length).all fun i => isCol2 (colD ((fs[i]?).getD [])) (colD ((cs[i]?).getD []))) = decide (fs = cs) := by
  by_cases e : fs = cs
  · subst e
    rw [decide_eq_true rfl, List.all_eq_true]
    intro i _
    rw [isCol2_cols, decide_eq_true rfl]
  · rw [decide_eq_false e, Bool.eq_false_iff]
    intro z
    apply e
    apply List.ext_getElem h
    intro i h1 h2
    have := List.all_eq_true.mp z i (List.mem_range.mpr h2)
    rw [isCol2_cols, List.getElem?_eq_getElem h1, List.getElem?_eq_getElem h2] at this
    exact of_decide_eq_true this
/-! value -/
theorem horner_snoc (b : Int) (l : List Int) (x : Int) : horner b (l ++ [x]) 0 = horner b l 0 + x * b ^ l.length := by
  unfold horner
  rw [List.foldr_append]
  simp only [List.foldr_cons, List.foldr_nil]
  have : ∀ (l : List Int) (y : Int), l.foldr (fun f v => v * b + f) y = l.foldr (fun f v => v * b + f) 0 + y * b ^ l.length := by
    intro l y
    induction l with
    | nil => simp
    | cons f l ih =>
      simp only [List.foldr_cons, List.length_cons, ih, Int.pow_succ, Int.add_mul, Int.mul_assoc]
      omega
  rw [this]
  simp
theorem valueOf_snoc (b : Int) (cs : List (List Int)) (c : List Int) : valueOf b (cs ++ [c]) = valueOf b cs + c.sum * b ^ cs.length := by
  unfold valueOf
  rw [List.map_append, List.map_cons, List.map_nil, horner_snoc, List.length_map]
abbrev lvPre (K : PySem.W.Frag) : (Int × Addr × List (List Int)) → Hp → Mem → List V → Prop := fun x G M vs => vs = [.int x.1, .ref x.2.1] ∧ ColsAt K G M x.2.1 x.2.2 ∧ (∀ c ∈ x.2.2, -(2 ^ 64) < c.sum ∧ c.sum < 2 ^ 64) ∧ (-(2 ^ 64) < x.1 ∧ x.1 < 2 ^ 64)
abbrev lvPost : (Int × Addr × List (List Int)) → Mem → Post := fun x M => isV (.int (valueOf x.1 x.2.2)) M
theorem ev_lv {K : PySem.W.Frag} {σ : L2.St} {G : Hp} {M M1 : Mem} {tA : TA} {E : XK} {a : Addr} {b : Int} {cs : List (List Int)} (h : EvA tA σ G M [fun _ v => v = .int b, fun _ v => v = .ref a] M1) (h1 : ColsAt K G M1 a cs) (h2 : ∀ c ∈ cs, -(2 ^ 64) < c.sum ∧ c.sum < 2 ^ 64) (hb : -(2 ^ 64) < b ∧ b < 2 ^ 64) :
    Ev (tCall (spec (lvPre K) lvPost) [] E tA) σ G M (isV (.int (valueOf b cs)) M1) :=
  ev_call (b, a, cs) h fun G1 vs ex p => by
    match vs, p with
    | [v, u], ⟨p1, p2, _⟩ =>
      subst p1 p2
      exact ⟨rfl, h1.up ex, h2, hb⟩
theorem sum_lo : ∀ {c : List Int} {b : Int}, (∀ f ∈ c, 0 ≤ f ∧ f < b) → 0 ≤ c.sum ∧ c.sum ≤ c.length * b
  | [], b, _ => by simp
  | f :: c, b, h => by
    have h1 := h f List.mem_cons_self
    have h2 := sum_lo (c := c) fun g hg => h g (List.mem_cons_of_mem _ hg)
    simp only [List.sum_cons, List.length_cons, Int.natCast_add, Int.add_mul]
    omega
theorem GoodSh.sum {b r : Int} {cs : List (List Int)} (h : GoodSh b r cs) : ∀ c ∈ cs, -(2 ^ 64) < c.sum ∧ c.sum < 2 ^ 64 := fun c hc => by
  obtain ⟨h1, h2⟩ := sum_lo (h.col c hc).2
  have h3 := (h.col c hc).1
  have h4 := h.r4
  have h5 := h.b12
  have h6 := h.b2
  have : (c.length : Int) * b ≤ 4 * b := Int.mul_le_mul_of_nonneg_right (by omega) (by omega)
  omega
/-! drawn figures, columns, sheets -/
def drawsD (D : Deck) (b : Int) : Nat → Deck
  | 0 => D
  | n + 1 => dn (drawsD D b n) b
def drawsV (D : Deck) (b : Int) (n : Nat) : List Int := (List.range n).map fun i => dv (drawsD D b i) b
theorem drawsV_len (D : Deck) (b : Int) (n : Nat) : (drawsV D b n).length = n := by simp [drawsV]
theorem drawsV_mem {D : Deck} {b : Int} {n : Nat} (h : 0 < b) : ∀ f ∈ drawsV D b n, 0 ≤ f ∧ f < b := fun f hf => by
  obtain ⟨i, _, rfl⟩ := List.mem_map.mp hf
  exact ⟨dv_lo h, dv_hi h⟩
def colOf (D : Deck) (b r : Int) : List Int := if dv D 5 = 1 then List.replicate r.toNat (b - 1) else if dv D 5 = 0 then List.replicate r.toNat 0 else drawsV (dn D 5) b r.toNat
def colDk (D : Deck) (b r : Int) : Deck := drawsD (dn D 5) b r.toNat
theorem colOf_good {D : Deck} {b r : Int} (hb : 0 < b) (hr : 0 ≤ r) : GoodCol b r (colOf D b r) := by
  unfold colOf GoodCol
  split
  · refine ⟨by rw [List.length_replicate]; omega, fun f hf => ?_⟩
    rw [List.eq_of_mem_replicate hf]
    omega
  · split
    · refine ⟨by rw [List.length_replicate]; omega, fun f hf => ?_⟩
      rw [List.eq_of_mem_replicate hf]
      omega
    · exact ⟨by rw [drawsV_len]; omega, drawsV_mem hb⟩
abbrev lcolPre : (Addr × Nat × Deck × Int × Int) → Hp → Mem → List V → Prop := fun x G M vs => vs = [.ref x.1, .int x.2.2.2.1, .int x.2.2.2.2] ∧ 0 < x.2.2.2.1 ∧ x.2.2.2.1 < 2 ^ 200 ∧ 0 ≤ x.2.2.2.2 ∧ x.2.2.2.2 ≤ 1000 ∧ M[x.2.1]? = some (x.1, x.2.2.1.ho)
abbrev lcolPost (K : PySem.W.Frag) : (Addr × Nat × Deck × Int × Int) → Mem → Post := fun x M => isD K (colD (colOf x.2.2.1 x.2.2.2.1 x.2.2.2.2)) (M.set x.2.1 (x.1, (colDk x.2.2.1 x.2.2.2.1 x.2.2.2.2).ho))
theorem ev_lcol {K : PySem.W.Frag} {σ : L2.St} {G : Hp} {M M1 : Mem} {tA : TA} {E : XK} {dk : Addr} {D : Deck} {b r : Int} (i : Nat) (h : EvA tA σ G M [fun _ v => v = .ref dk, fun _ v => v = .int b, fun _ v => v = .int r] M1) (hi : M1[i]? = some (dk, D.ho)) (b0 : 0 < b) (b1 : b < 2 ^ 200) (r0 : 0 ≤ r) (r1 : r ≤ 1000) :
    Ev (tCall (spec lcolPre (lcolPost K)) [] E tA) σ G M (isD K (colD (colOf D b r)) (M1.set i (dk, (colDk D b r).ho))) :=
  ev_call (dk, i, D, b, r) h fun G1 vs e a => by
    match vs, a with
    | [v, w, u], ⟨p1, p2, p3, _⟩ =>
      subst p1 p2 p3
      exact ⟨rfl, b0, b1, r0, r1, hi⟩
/-- how many columns, the deck then -/
def manyOf (D : Deck) (most : Int) : Int := if dv (dn D 7) 3 = 0 then dv (dn (dn D 7) 3) (most + 1) else dv D 7
def manyDk (D : Deck) (most : Int) : Deck := if dv (dn D 7) 3 = 0 then dn (dn (dn D 7) 3) (most + 1) else dn (dn D 7) 3
def colsDk (D : Deck) (b r : Int) : Nat → Deck
  | 0 => D
  | n + 1 => colDk (colsDk D b r n) b r
def colsV (D : Deck) (b r : Int) (n : Nat) : List (List Int) := (List.range n).map fun i => colOf (colsDk D b r i) b r
def colsOf (D : Deck) (b r most : Int) : List (List Int) := colsV (manyDk D most) b r (manyOf D most).toNat
def colsEnd (D : Deck) (b r most : Int) : Deck := colsDk (manyDk D most) b r (manyOf D most).toNat
theorem manyOf_lo {D : Deck} {most : Int} (h : 0 ≤ most) : 0 ≤ manyOf D most := by
  unfold manyOf
  split
  · exact dv_lo (by omega)
  · exact dv_lo (by omega)
theorem manyOf_hi {D : Deck} {most : Int} (h : 0 ≤ most) : manyOf D most ≤ max 6 most := by
  unfold manyOf
  have h1 : dv (dn (dn D 7) 3) (most + 1) < most + 1 := dv_hi (by omega)
  have h2 : dv D 7 < 7 := dv_hi (by omega)
  split <;> omega
theorem colsOf_len {D : Deck} {b r most : Int} (h : 0 ≤ most) : ((colsOf D b r most).length : Int) ≤ max 6 most := by
  unfold colsOf colsV
  have := manyOf_hi (D := D) h
  have := manyOf_lo (D := D) h
  rw [List.length_map, List.length_range]
  omega
theorem colsOf_good {D : Deck} {b r most : Int} (hb : 0 < b) (hr : 0 ≤ r) : ∀ c ∈ colsOf D b r most, GoodCol b r c := fun c hc => by
  obtain ⟨i, _, rfl⟩ := List.mem_map.mp hc
  exact colOf_good hb hr
abbrev lcolsPre : (Addr × Nat × Deck × Int × Int × Int) → Hp → Mem → List V → Prop := fun x G M vs => vs = [.ref x.1, .int x.2.2.2.1, .int x.2.2.2.2.1, .int x.2.2.2.2.2] ∧ 0 < x.2.2.2.1 ∧ x.2.2.2.1 < 2 ^ 200 ∧ 0 ≤ x.2.2.2.2.1 ∧ x.2.2.2.2.1 ≤ 1000 ∧ 0 ≤ x.2.2.2.2.2 ∧ x.2.2.2.2.2 ≤ 1000 ∧ M[x.2.1]? = some (x.1, x.2.2.1.ho)
abbrev lcolsPost (K : PySem.W.Frag) : (Addr × Nat × Deck × Int × Int × Int) → Mem → Post := fun x M => own K ((colsOf x.2.2.1 x.2.2.2.1 x.2.2.2.2.1 x.2.2.2.2.2).map colD) (M.set x.2.1 (x.1, (colsEnd x.2.2.1 x.2.2.2.1 x.2.2.2.2.1 x.2.2.2.2.2).ho))
theorem ev_lcols {K : PySem.W.Frag} {σ : L2.St} {G : Hp} {M M1 : Mem} {tA : TA} {E : XK} {dk : Addr} {D : Deck} {b r most : Int} (i : Nat) (h : EvA tA σ G M [fun _ v => v = .ref dk, fun _ v => v = .int b, fun _ v => v = .int r, fun _ v => v = .int most] M1) (hi : M1[i]? = some (dk, D.ho)) (b0 : 0 < b) (b1 : b < 2 ^ 200) (r0 : 0 ≤ r) (r1 : r ≤ 1000)
    (m0 : 0 ≤ most) (m1 : most ≤ 1000) : Ev (tCall (spec lcolsPre (lcolsPost K)) [] E tA) σ G M (own K ((colsOf D b r most).map colD) (M1.set i (dk, (colsEnd D b r most).ho))) :=
  ev_call (dk, i, D, b, r, most) h fun G1 vs e a => by
    match vs, a with
    | [v, w, u, t], ⟨p1, p2, p3, p4, _⟩ =>
      subst p1 p2 p3 p4
      exact ⟨rfl, b0, b1, r0, r1, m0, m1, hi⟩
end SX
namespace SX
open PySem PySem.Spec L2
/-- the law's words of a sheet (p, its due columns at a, base, rows, columns) -/
abbrev plainPre (K : PySem.W.Frag) (C : Addr) : (Addr × Addr × Int × Int × List (List Int)) → Hp → Mem → List V → Prop := fun x G M vs => vs = [.ref x.1, .int x.2.2.1, .int x.2.2.2.1, .ref x.2.1] ∧ ShAt K C G M x.1 x.2.2.1 x.2.2.2.1 x.2.2.2.2 ∧ ColsAt K G M x.2.1 x.2.2.2.2 ∧ GoodSh x.2.2.1 x.2.2.2.1 x.2.2.2.2
abbrev worthPre (K : PySem.W.Frag) (C : Addr) : (Addr × Addr × Int × Int × List (List Int)) → Hp → Mem → List V → Prop := fun x G M vs => vs = [.ref x.1, .int x.2.2.1, .ref x.2.1] ∧ ShAt K C G M x.1 x.2.2.1 x.2.2.2.1 x.2.2.2.2 ∧ ColsAt K G M x.2.1 x.2.2.2.2 ∧ GoodSh x.2.2.1 x.2.2.2.1 x.2.2.2.2
abbrev plainPost : (Addr × Addr × Int × Int × List (List Int)) → Mem → Post := fun _ M => isV (.bl true) M
abbrev rightPre (K : PySem.W.Frag) (C : Addr) : ((Addr × Addr × Int × Int × List (List Int)) × Int) → Hp → Mem → List V → Prop := fun x G M vs => vs = [.ref x.1.1, .int x.1.2.2.1, .int x.1.2.2.2.1, .ref x.1.2.1, .int x.2] ∧ ShAt K C G M x.1.1 x.1.2.2.1 x.1.2.2.2.1 x.1.2.2.2.2 ∧ ColsAt K G M x.1.2.1 x.1.2.2.2.2 ∧ GoodSh x.1.2.2.1 x.1.2.2.2.1 x.1.2.2.2.2
section
variable {K : PySem.W.Frag} {C : Addr} {σ : L2.St} {G : Hp} {M M1 : Mem} {tA : TA} {E : XK} {p a : Addr} {b r t : Int} {cs : List (List Int)}
theorem ev_plain (h : EvA tA σ G M [fun _ v => v = .ref p, fun _ v => v = .int b, fun _ v => v = .int r, fun _ v => v = .ref a] M1) (hS : ShAt K C G M1 p b r cs) (hC : ColsAt K G M1 a cs) (g : GoodSh b r cs) :
    Ev (tCall (spec (plainPre K C) plainPost) [] E tA) σ G M (isV (.bl true) M1) :=
  ev_call (p, a, b, r, cs) h fun G1 vs e q => by
    match vs, q with
    | [v1, v2, v3, v4], ⟨p1, p2, p3, p4, _⟩ =>
      subst p1 p2 p3 p4
      exact ⟨rfl, hS.ex e, hC.up e, g⟩
theorem ev_worth (h : EvA tA σ G M [fun _ v => v = .ref p, fun _ v => v = .int b, fun _ v => v = .ref a] M1) (hS : ShAt K C G M1 p b r cs) (hC : ColsAt K G M1 a cs) (g : GoodSh b r cs) :
    Ev (tCall (spec (worthPre K C) plainPost) [] E tA) σ G M (isV (.bl true) M1) :=
  ev_call (p, a, b, r, cs) h fun G1 vs e q => by
    match vs, q with
    | [v1, v2, v3], ⟨p1, p2, p3, _⟩ =>
      subst p1 p2 p3
      exact ⟨rfl, hS.ex e, hC.up e, g⟩
theorem ev_right (h : EvA tA σ G M [fun _ v => v = .ref p, fun _ v => v = .int b, fun _ v => v = .int r, fun _ v => v = .ref a, fun _ v => v = .int t] M1) (hS : ShAt K C G M1 p b r cs) (hC : ColsAt K G M1 a cs) (g : GoodSh b r cs) :
    Ev (tCall (spec (rightPre K C) fun _ M => isV (.bl true) M) [] E tA) σ G M (isV (.bl true) M1) :=
  ev_call ((p, a, b, r, cs), t) h fun G1 vs e q => by
    match vs, q with
    | [v1, v2, v3, v4, v5], ⟨p1, p2, p3, p4, p5, _⟩ =>
      subst p1 p2 p3 p4 p5
      exact ⟨rfl, hS.ex e, hC.up e, g⟩
/-- methods of an owned list, without arguments -/
theorem ev_reverse {te : TE} {xs : List V} {n : Nat} (h : Ev te σ G M (isV (.ref p) M1)) (hl : M1[n]? = some (p, HO.lst xs)) :
    Ev (tBM0 K "list" rReverse te) σ G M (isV .non (M1.set n (p, .lst xs.reverse))) := fun G1 H F e m Q q =>
  h G1 H F e m _ fun v G2 M2 H2 e2 m2 r => by
    obtain ⟨rfl, rfl⟩ := r
    exact ⟨.inl ⟨rfl, xs, SqL.of (m2.getF hl)⟩, p, xs, rfl, rfl, m2.getF hl, q _ G2 _ _ e2 (m2.putF hl) ⟨rfl, rfl⟩⟩
theorem ev_clear {te : TE} {xs : List V} {n : Nat} (h : Ev te σ G M (isV (.ref p) M1)) (hl : M1[n]? = some (p, HO.lst xs)) :
    Ev (tBM0 K "list" rClear te) σ G M (isV .non (M1.set n (p, .lst []))) := fun G1 H F e m Q q =>
  h G1 H F e m _ fun v G2 M2 H2 e2 m2 r => by
    obtain ⟨rfl, rfl⟩ := r
    exact ⟨.inl ⟨rfl, xs, SqL.of (m2.getF hl)⟩, p, xs, rfl, rfl, m2.getF hl, q _ G2 _ _ e2 (m2.putF hl) ⟨rfl, rfl⟩⟩
end
end SX

set_option Elab.async false
set_option linter.all false
set_option maxRecDepth 100000
/-! SXi: errors: what raises within a try, what the suite asks of the error. -/
namespace SX
open PySem PySem.Spec L2

section
variable {X : Cx} {CX : CXT} {k : Nat} {C f : Addr} {fd : FuncData} {ps : List Str} {sp : Sp} {EE : L2.St → XK}
/-- the callee runs, its error is wished for at these slots -/
theorem run_atS {pins : List (Addr × Obj)} {σ : L2.St} {H : Hp} {s : Shared} {Q : VK} {us : List Value} {vs : List V} (F : FnOk X.prog X.w X.K X.mg X.base CX k f fd ps sp) (hr : Room k X.A) (hb : Binds X.K fd ps []) (hx : PassesAt CX X σ (EE σ))
    (I : Inv X pins σ H s) (r : Vals vs us) (h : sp vs H Q (EE σ)) : wpAny (model X.prog X.w) X.A (call (.ref f) us) (EP X pins σ Q) X.xe s := run_fnS F hr hb hx I r h
/-- a new instance, the error of its __init__ wished for at these slots -/
def tMakeS (C : Addr) (sp : Sp) (EE : L2.St → XK) (t : TA) : TE := fun σ H Q => t σ H fun vs H1 => ∀ x dx, H1 x = none → H1 dx = none → dx ≠ x →
  sp (.ref x :: vs) (upd (upd H1 dx (.own x)) x (.ins C dx [])) (fun v H2 => v = .non ∧ Q (.ref x) H2) (EE σ)
theorem run_makeS {pins : List (Addr × Obj)} {σ : L2.St} {H : Hp} {s : Shared} {Q : VK} {us : List Value} {vs : List V} (M : Mk X.K C f) (F : FnOk X.prog X.w X.K X.mg X.base CX k f fd ps sp) (hr : Room (k + 1) X.A) (hb : Binds X.K fd ps [])
    (hx : PassesAt CX X σ (EE σ)) (I : Inv X pins σ H s) (r : Vals vs us)
    (h : ∀ x dx, H x = none → H dx = none → dx ≠ x → sp (.ref x :: vs) (upd (upd H dx (.own x)) x (.ins C dx [])) (fun v H2 => v = .non ∧ Q (.ref x) H2) (EE σ)) :
    wpAny (model X.prog X.w) X.A (call (.ref C) us) (EP X pins σ Q) X.xe s := by
  have new := h (s.heap.objs.size + 1) s.heap.objs.size (I.hok.fresh (Nat.le_succ _)) (I.hok.fresh (Nat.le_refl _)) (Nat.ne_of_lt (Nat.lt_succ_self _))
  have J := Inv.made (C := C) I
  have rr : Vals (V.ref (s.heap.objs.size + 1) :: vs) (Value.ref (s.heap.objs.size + 1) :: us) := .cons rfl r
  have le : (Value.ref (s.heap.objs.size + 1) :: us ++ []).length = ps.length := by
    rw [List.append_nil, ← rr.length]
    exact F.len _ _ _ _ new
  have bb := hb _ (Value.ref (s.heap.objs.size + 1) :: us) J.kIn le
  rw [List.append_nil] at bb
  refine wpAny_call (make_map (f := f) I.kIn M.makes M.init (beq_iff_eq.mp M.fn) (codeAny_mono (F.run _ X.stack _ _ ⟨Value.ref (s.heap.objs.size + 1) :: us, []⟩ (Value.ref (s.heap.objs.size + 1) :: us) _ _ (EE σ) (hr.make C us []) (J.env0.make C us []) bb rr new) fun res s' out => ?_))
  match res, out with
  | .error e, out => exact hx pins _ _ e s' J out
  | .ok (.ret u), out =>
    obtain ⟨v, H', J3, rv, ev, q3⟩ := J.after out
    subst ev
    exact ⟨rv, ⟨V.ref (s.heap.objs.size + 1), H', J3, rfl, q3⟩⟩
theorem pe_makeS {x : Str} {p pos : Pos} {e : Expr} {es : List Expr} {t : TA} (M : Mk X.K C f) (F : FnOk X.prog X.w X.K X.mg X.base CX k f fd ps sp) (hr : Room (k + 1) X.A) (hg : Gl X x) (hm : X.mg x = some (.ref C)) (hb : Binds X.K fd ps []) (hx : ∀ σ, PassesAt CX X σ (EE σ))
    (ha : PA X (e :: es) t) (hdb : (x == ("__debug__" : Str)) = false := by decide) (he : starEach (e :: es) X.env = (false, eval e X.env) :: starEach es X.env := by rfl) (hpl : (backTo pos (starEach es X.env)).any (·.1) = false := by rfl) :
    PE X (.Call (.Name x p) (e :: es) [] pos) (tMakeS C sp EE t) := by
  refine ⟨fun pins s σ H Q I h => ?_⟩
  refine wpAny_Call_Name_kw (ld_glob I hg hm ?_ hdb)
  refine PySem.W.callWith_K (h₀ := X.base) I.ok.mod.kin M.kp (thn (ha.run pos pins s σ H _ I h) fun us s1 ⟨vs, H1, I1, r, q⟩ => ⟨I1.kIn, ?_⟩) he hpl
  exact run_makeS M F hr hb (hx σ) I1 r q
/-- o[i] = e by the own __setitem__, which may raise -/
def tSetOS (C : Addr) (sp : Sp) (EE : L2.St → XK) (to ti te : TE) : TS := fun D σ H => te σ H fun v H1 => to σ H1 fun o H2 => ti σ H2 fun i H3 => ∃ a dx fs, o = .ref a ∧ H3 a = some (.ins C dx fs) ∧ sp [.ref a, i, v] H3 (fun _ H4 => D.nx σ H4) (EE σ)
/-- one op other, both of the class C, which may raise -/
def tBinOS (C : Addr) (sp : Sp) (EE : L2.St → XK) (ta tb : TE) : TE := fun σ H Q => ta σ H fun x H1 => tb σ H1 fun y H2 => ∃ a dx fs b dy gs, x = .ref a ∧ y = .ref b ∧ H2 a = some (.ins C dx fs) ∧ H2 b = some (.ins C dy gs) ∧ sp [.ref a, .ref b] H2 Q (EE σ)
theorem pe_binOS {op : Operator} {a b : Expr} {ta tb : TE} {pos : Pos} (hs : PySem.W.findIn X.K (.ref C) (PySem.dunder op.info.2) = some (some (.ref f))) (hfn : PySem.W.isFn X.K (.ref f) = true) (hc : PySem.W.selfFirst X.K C = true) (F : FnOk X.prog X.w X.K X.mg X.base CX k f fd ps sp) (hr : Room k X.A) (hb : Binds X.K fd ps [])
    (hx : ∀ σ, PassesAt CX X σ (EE σ)) (ha : PE X a ta) (hbb : PE X b tb) : PE X (.BinOp a op b pos) (tBinOS C sp EE ta tb) := by
  refine ⟨fun pins s σ H Q I h => ?_⟩
  refine wpAny_BinOp (binT ha hbb I h fun v u s2 x y H2 I2 rx ry h2 => ?_)
  obtain ⟨p, dx, fs, q, dy, gs, rfl, rfl, ep, eq, z⟩ := h2
  cases (show v = Value.ref p from rx)
  cases (show u = Value.ref q from ry)
  obtain ⟨mA, O, _⟩ := ins_get I2.hok ep
  obtain ⟨od, J, _⟩ := O.look
  obtain ⟨mB, O2, _⟩ := ins_get I2.hok eq
  obtain ⟨od2, J2, _⟩ := O2.look
  obtain ⟨m, fr⟩ := I2.fr
  exact PySem.W.binop_K fr I2.ok.mod.kin J J2.type hc hs hfn (wpAny_mono (run_atS F hr hb (hx σ) I2 (.cons (show RelV (.ref p) (.ref p) from rfl) (.cons (show RelV (.ref q) (.ref q) from rfl) .nil)) z) (fun u s1 h1 => cmpBack h1) fun _ _ e => e)
/-- what one slot's store needs, as a target: the store may raise -/
theorem ps_setOS {o i value : Expr} {to ti te : TE} {pos pos' : Pos} (hm : Meth X.K C "__setitem__" f) (hq : PySem.W.noSeq X.K C = true) (F : FnOk X.prog X.w X.K X.mg X.base CX k f fd ps sp) (hr : Room k X.A) (hb : Binds X.K fd ps [])
    (hx : ∀ σ, PassesAt CX X σ (EE σ)) (he : PE X value te) (ho : PE X o to) (hi : PE X i ti)
    (hs : swapsWith value (some (.Subscript o i pos')) pos.line X.env = pure false := by rfl) : PS X (.Assign [.Subscript o i pos'] value pos) (tSetOS C sp EE to ti te) := by
  refine ⟨fun pins s σ H D I h => wpAny_Assign_Subscript ?_ hs⟩
  refine thn (he.run pins s σ H _ I h) fun u s1 ⟨x, H1, I1, rx, h1⟩ => thn (ho.run pins s1 σ H1 _ I1 h1) fun ov s2 ⟨y, H2, I2, ry, h2⟩ => thn (hi.run pins s2 σ H2 _ I2 h2) fun iv s3 ⟨z, H3, I3, rz, h3⟩ => ?_
  obtain ⟨p, dx, fs, rfl, ep, q⟩ := h3
  cases (show ov = Value.ref p from ry)
  obtain ⟨mA, O, _⟩ := ins_get I3.hok ep
  obtain ⟨od, J, _⟩ := O.look
  obtain ⟨m, fr⟩ := I3.fr
  refine PySem.W.ksp_setItem fr I3.ok.mod.kin J hq hm.at_ hm.fn (wpAny_mono (run_atS F hr hb (hx σ) I3 (.cons (show RelV (.ref p) (.ref p) from rfl) (.cons rz (.cons rx .nil))) q) (fun w s4 h4 => ?_) fun _ _ e => e)
  obtain ⟨v, H4, I4, _, q4⟩ := h4
  exact ⟨σ, H4, I4, q4⟩
end

/-! ### over the symbolic heap -/
section
variable {E : XK} {K : PySem.W.Frag} {σ : L2.St} {G G' H : Hp} {M M1 M2 M3 F : Mem} {R : Post} {P P' : Po} {te ta tb : TE} {t u : TS} {x y z : V} {i : Nat} {Xc : Value → Option Addr → Hp → Mem → Prop}
/-- an expression that raises, surely -/
def EvR (E : XK) (te : TE) (σ : L2.St) (G : Hp) (M : Mem) (Xc : Value → Option Addr → Hp → Mem → Prop) : Prop := ∀ G1 H F, Ex G G1 → Me G1 (M ++ F) H → (∀ c d G2 M2 H2, Ex G1 G2 → Me G2 (M2 ++ F) H2 → Xc c d G2 M2 → E c d H2) → ∀ Q : VK, te σ H Q
def EvAR (E : XK) (ta : TA) (σ : L2.St) (G : Hp) (M : Mem) (Xc : Value → Option Addr → Hp → Mem → Prop) : Prop := ∀ G1 H F, Ex G G1 → Me G1 (M ++ F) H → (∀ c d G2 M2 H2, Ex G1 G2 → Me G2 (M2 ++ F) H2 → Xc c d G2 M2 → E c d H2) → ∀ Q : List V → Hp → Prop, ta σ H Q
theorem er_one {tr : TA} (h : EvR E te σ G M Xc) : EvAR E (tCons te tr) σ G M Xc := fun G1 H F e m x Q => h G1 H F e m x _
theorem er_CB {r : List V → Hp → VK → Prop} {tA : TA} (h : EvAR E tA σ G M Xc) : EvR E (tCB r tA) σ G M Xc := fun G1 H F e m x Q => h G1 H F e m x _
theorem er_lst {tA : TA} (h : EvAR E tA σ G M Xc) : EvR E (tLst tA) σ G M Xc := fun G1 H F e m x Q => h G1 H F e m x _
theorem er_tup {tA : TA} (h : EvAR E tA σ G M Xc) : EvR E (tTup tA) σ G M Xc := fun G1 H F e m x Q => h G1 H F e m x _
theorem sv_setR {g : TG} (h : EvR E te σ G M P.ex) : Sv E (tAsg te g) σ G M P := fun G1 H F D e m hd => h G1 H F e m hd.ex _
theorem sv_dropR (h : EvR E te σ G M P.ex) : Sv E (tDrop te) σ G M P := fun G1 H F D e m hd => h G1 H F e m hd.ex _
theorem sv_retR (h : EvR E te σ G M P.ex) : Sv E (tRet te) σ G M P := fun G1 H F D e m hd => h G1 H F e m hd.ex _
/-- try: body, except x as n: suite. The body's errors are Xc's, all of them the clause's -/
theorem sv_tryAs {tw : WX → TS} {ts : Addr → Value → Option Addr → TS} {c : Value} {Wout : WX} (Xc : Value → Option Addr → Hp → Mem → Prop) (hB : ∀ W : WX, Sv (fun cls d H => W cls d σ H) (tw W) σ G M { P with ex := Xc })
    (hS : ∀ cls d a G2 M2, Ex G G2 → Xc cls d G2 M2 → PySem.W.exmOne K cls c = some true ∧ Sv E (ts a cls d) (σ.set i (some (.ref a))) G2 M2 { P with nx := fun G3 σ' M3 => P.nx G3 (σ'.set i none) M3, bk := fun G3 σ' M3 => P.bk G3 (σ'.set i none) M3, ct := fun G3 σ' M3 => P.ct G3 (σ'.set i none) M3 }) :
    Sv E (fun D σ H => tw (wAs K c i ts Wout D) D σ H) σ G M P := fun G1 H F D e m hd =>
  hB (wAs K c i ts Wout D) G1 H F D e m ⟨hd.nx, hd.rt, hd.bk, hd.ct, fun cls d G2 M2 H2 e2 m2 xc =>
    ⟨true, (hS cls d 0 G2 M2 (e.trans e2) xc).1, fun _ a _ => (hS cls d a G2 M2 (e.trans e2) xc).2 G2 H2 F _ (Ex.refl _) m2 ⟨fun σ' G3 M3 H3 e3 m3 n => hd.nx _ G3 M3 H3 (e2.trans e3) m3 n, fun v G3 M3 H3 e3 m3 n => hd.rt v G3 M3 H3 (e2.trans e3) m3 n,
      fun σ' G3 M3 H3 e3 m3 n => hd.bk _ G3 M3 H3 (e2.trans e3) m3 n, fun σ' G3 M3 H3 e3 m3 n => hd.ct _ G3 M3 H3 (e2.trans e3) m3 n, fun c' d' G3 M3 H3 e3 m3 n => hd.ex c' d' G3 M3 H3 (e2.trans e3) m3 n⟩, fun z => by cases z⟩⟩
/-- the store by __setitem__ -/
theorem sv_setO {α : Type} {pre : α → Hp → Mem → List V → Prop} {post : α → Mem → Post} {exc : α → Mem → Value → Option Addr → Hp → Mem → Prop} {EE : L2.St → XK} {to ti : TE} {C p dx : Addr} {fs : List (Str × V)} {Pp : Hp → V → Prop} [Mono Pp] (xx : V → α) (hE : EE σ = E) (h : Ev te σ G M (isP Pp M1)) (h1 : Ev to σ G M1 (isV (.ref p) M1)) (h2 : Ev ti σ G M1 (isV y M1))
    (ha : At G M1 p (.ins C dx fs)) (hp : ∀ v G1, Ex G G1 → Pp G1 v → pre (xx v) G1 M1 [.ref p, y, v])
    (hq : ∀ v w G1 M2, Ex G G1 → post (xx v) M1 G1 w M2 → P.nx G1 σ M2) (hx : ∀ v c d G1 M2, Ex G G1 → exc (xx v) M1 c d G1 M2 → P.ex c d G1 M2) : Sv E (tSetOS C (specX pre post exc) EE to ti te) σ G M P := fun G1 H F D e m hd =>
  h G1 H F e m _ fun v G2 M2' H2 e2 m2 r2 => by
    obtain ⟨pv, rfl⟩ := r2
    refine h1 G2 H2 F (e.trans e2) m2 _ fun v3 G3 M3' H3 e3 m3 r3 => ?_
    obtain ⟨rfl, rfl⟩ := r3
    refine h2 G3 H3 F ((e.trans e2).trans e3) m3 _ fun v4 G4 M4' H4 e4 m4 r4 => ?_
    obtain ⟨rfl, rfl⟩ := r4
    have e04 := ((e.trans e2).trans e3).trans e4
    refine ⟨p, dx, fs, rfl, ha G4 H4 F e04 m4, xx v, G4, M4', F, m4, hp v G4 e04 (Mono.mono _ _ _ (e3.trans e4) pv), fun w G5 M5 H5 e5 m5 r5 => hd.nx σ G5 M5 H5 (((e2.trans e3).trans e4).trans e5) m5 (hq v w G5 M5 (e04.trans e5) r5), fun c d G5 M5 H5 e5 m5 r5 => ?_⟩
    rw [hE]
    exact hd.ex c d G5 M5 H5 (((e2.trans e3).trans e4).trans e5) m5 (hx v c d G5 M5 (e04.trans e5) r5)
/-- one op other raises -/
theorem er_binO {α : Type} {pre : α → Hp → Mem → List V → Prop} {post : α → Mem → Post} {exc : α → Mem → Value → Option Addr → Hp → Mem → Prop} {EE : L2.St → XK} {C a dx b dy : Addr} {fs gs : List (Str × V)} (xx : α) (hE : EE σ = E) (h1 : Ev ta σ G M (isV (.ref a) M)) (h2 : Ev tb σ G M (isV (.ref b) M))
    (ha : At G M a (.ins C dx fs)) (hb : At G M b (.ins C dy gs)) (hp : ∀ G1, Ex G G1 → pre xx G1 M [.ref a, .ref b]) (hq : ∀ G1 v M2, ¬ post xx M G1 v M2) (hx : ∀ c d G1 M2, Ex G G1 → exc xx M c d G1 M2 → Xc c d G1 M2) : EvR E (tBinOS C (specX pre post exc) EE ta tb) σ G M Xc := fun G1 H F e m x Q =>
  h1 G1 H F e m _ fun v2 G2 M2' H2 e2 m2 r2 => by
    obtain ⟨rfl, rfl⟩ := r2
    refine h2 G2 H2 F (e.trans e2) m2 _ fun v3 G3 M3' H3 e3 m3 r3 => ?_
    obtain ⟨rfl, rfl⟩ := r3
    have e03 := (e.trans e2).trans e3
    refine ⟨a, dx, fs, b, dy, gs, rfl, rfl, ha G3 H3 F e03 m3, hb G3 H3 F e03 m3, xx, G3, M3', F, m3, hp G3 e03, fun v G4 M4 H4 e4 m4 r4 => absurd r4 (hq G4 v M4), fun c d G4 M4 H4 e4 m4 r4 => ?_⟩
    rw [hE]
    exact x c d G4 M4 H4 ((e2.trans e3).trans e4) m4 (hx c d G4 M4 (e03.trans e4) r4)
/-- .. does not raise -/
theorem ev_binOS {α : Type} {pre : α → Hp → Mem → List V → Prop} {post : α → Mem → Post} {exc : α → Mem → Value → Option Addr → Hp → Mem → Prop} {EE : L2.St → XK} {C a dx b dy : Addr} {fs gs : List (Str × V)} (xx : α) (h1 : Ev ta σ G M (isV (.ref a) M)) (h2 : Ev tb σ G M (isV (.ref b) M))
    (ha : At G M a (.ins C dx fs)) (hb : At G M b (.ins C dy gs)) (hp : ∀ G1, Ex G G1 → pre xx G1 M [.ref a, .ref b]) (hx : ∀ c d G1 M2, ¬ exc xx M c d G1 M2) : Ev (tBinOS C (specX pre post exc) EE ta tb) σ G M (post xx M) := fun G1 H F e m Q q =>
  h1 G1 H F e m _ fun v2 G2 M2' H2 e2 m2 r2 => by
    obtain ⟨rfl, rfl⟩ := r2
    refine h2 G2 H2 F (e.trans e2) m2 _ fun v3 G3 M3' H3 e3 m3 r3 => ?_
    obtain ⟨rfl, rfl⟩ := r3
    have e03 := (e.trans e2).trans e3
    exact ⟨a, dx, fs, b, dy, gs, rfl, rfl, ha G3 H3 F e03 m3, hb G3 H3 F e03 m3, xx, G3, M3', F, m3, hp G3 e03, fun v G4 M4 H4 e4 m4 r4 => q v G4 M4 H4 ((e2.trans e3).trans e4) m4 r4, fun c d G4 M4 H4 e4 m4 r4 => absurd r4 (hx c d G4 M4)⟩
/-- C(..): raises -/
theorem er_make {α : Type} {pre : α → Hp → Mem → List V → Prop} {post : α → Mem → Post} {exc : α → Mem → Value → Option Addr → Hp → Mem → Prop} {EE : L2.St → XK} {tA : TA} {C : Addr} {Ps : List (Hp → V → Prop)} (xx : Addr → Addr → List V → α) (hE : EE σ = E) (h : EvA tA σ G M Ps M1)
    (hp : ∀ G1 p dx vs, Ex G G1 → AllP G1 Ps vs → pre (xx p dx vs) G1 (M1 ++ [(p, .ins C dx [])]) (.ref p :: vs)) (hq : ∀ p dx vs G1 v M2, ¬ post (xx p dx vs) (M1 ++ [(p, .ins C dx [])]) G1 v M2)
    (hx : ∀ p dx vs c d G1 M2, Ex G G1 → exc (xx p dx vs) (M1 ++ [(p, .ins C dx [])]) c d G1 M2 → ∃ M0 Mx, M2 = M0 ++ Mx ∧ Xc c d G1 M0) : EvR E (tMakeS C (specX pre post exc) EE tA) σ G M Xc := fun G1 H F e m x Q =>
  h G1 H F e m _ fun vs G2 H2 e2 m2 a p dx hpn hdn hne => by
    have hp2 : upd H2 dx (.own p) p = none := by rw [upd_ne hne.symm]; exact hpn
    refine ⟨xx p dx vs, G2, _, F, (m2.new hdn).newMid hp2, hp G2 p dx vs (e.trans e2) a, fun v G3 M3 H3 e3 m3 r => absurd r (hq _ _ _ _ _ _), fun c d G3 M3 H3 e3 m3 r => ?_⟩
    obtain ⟨M0, Mx, eM, r'⟩ := hx p dx vs c d G3 M3 ((e.trans e2).trans e3) r
    subst eM
    rw [hE]
    exact x c d G3 M0 H3 (e2.trans e3) m3.dropLast r'
/-! isinstance of the error -/
end
/-- isinstance(e, (A, B, ..)) of the error that the suite holds -/
def rIsET (K : PySem.W.Frag) (D a : Addr) : List V → Hp → VK → Prop := fun xs H Q => ∃ (tp : Addr) (cs : List V) (us : List Value) (b : Bool), xs = [.ref a, .ref tp] ∧ H tp = some (.tup cs) ∧ Paired ClsV cs us ∧ PySem.W.kitAny K (.ref D) us = some b ∧ Q (.bl b) H
theorem call_isET {X : Cx} {a D : Addr} {oe : Obj} {pn : List (Addr × Obj)} (C : ExcC X.K D) (hz : Zc (.ref D) none oe) (hf : ∃ vs, oe.data = .fields vs) : CallR (X.suite a ((a, oe) :: pn)) (.builtin "isinstance") (rIsET X.K D a) := by
  intro pins s σ H xs us Q I r h
  obtain ⟨tp, cs, ws, b, rfl, hT, k, e, q⟩ := h
  obtain ⟨u1, u2, rfl, r1, r2⟩ := vals2 r
  cases (show u1 = Value.ref a from r1)
  cases (show u2 = Value.ref tp from r2)
  obtain ⟨hget, _⟩ := I.pin (a, oe) (List.mem_append.mpr (.inl List.mem_cons_self))
  obtain ⟨vs, hv⟩ := hf
  obtain ⟨_, its, rv, o, h1, h2, n, h3⟩ := (show ObjOk X.prog X.w H s.heap tp (.tup cs) from I.hok tp _ hT)
  have e3 := ClsV.all k rv
  subst e3
  have J : PySem.W.InstAt s.heap a oe D none := by
    obtain ⟨oc, od, oda, osl⟩ := oe
    obtain ⟨z1, z2⟩ := hz
    dsimp only at z1 z2 hv
    subst z1 z2 hv
    exact ⟨hget, rfl, rfl, trivial⟩
  obtain ⟨oc, od, dt, sl⟩ := o
  simp only at h2 h3
  subst h2 h3
  exact PySem.W.kia_tup (PySem.W.handS_kitx_exc C.hg C.hk C.hs C.hd C.ha C.hn C.ht C.hm) I.kIn J h1 e (fun z => nomatch z) fun tk => ⟨.bl b, H, I.tok tk, rfl, q⟩
/-- the same, the class and the dict as the suite names them -/
def rIsC (K : PySem.W.Frag) (cls : Value) (d : Option Addr) (a : Addr) : List V → Hp → VK → Prop := fun xs H Q => ∃ D, cls = .ref D ∧ d = none ∧ ExcC K D ∧ rIsE K D a xs H Q
def rIsCT (K : PySem.W.Frag) (cls : Value) (d : Option Addr) (a : Addr) : List V → Hp → VK → Prop := fun xs H Q => ∃ D, cls = .ref D ∧ d = none ∧ ExcC K D ∧ rIsET K D a xs H Q
theorem k_isC {X : Cx} {K : PySem.W.Frag} {a : Addr} {cls : Value} {d : Option Addr} {oe : Obj} {pn : List (Addr × Obj)} (hK : X.K = K) (hz : Zc cls d oe) (hf : ∃ vs, oe.data = .fields vs) : CallR (X.suite a ((a, oe) :: pn)) (.builtin "isinstance") (rIsC K cls d a) := by
  subst hK
  intro pins s σ H xs us Q I r h
  obtain ⟨D, rfl, rfl, hC, h⟩ := h
  exact call_isE hC hz hf pins s σ H xs us Q I r h
theorem k_isCT {X : Cx} {K : PySem.W.Frag} {a : Addr} {cls : Value} {d : Option Addr} {oe : Obj} {pn : List (Addr × Obj)} (hK : X.K = K) (hz : Zc cls d oe) (hf : ∃ vs, oe.data = .fields vs) : CallR (X.suite a ((a, oe) :: pn)) (.builtin "isinstance") (rIsCT K cls d a) := by
  subst hK
  intro pins s σ H xs us Q I r h
  obtain ⟨D, rfl, rfl, hC, h⟩ := h
  exact call_isET hC hz hf pins s σ H xs us Q I r h
section
variable {K : PySem.W.Frag} {σ : L2.St} {G : Hp} {M M1 : Mem} {ta : TE} {a D : Addr} {b : Bool}
theorem ev_isC {c : V} {cv : Value} (hD : ExcC K D) (h : Ev ta σ G M (isV (.ref a) M)) (hcv : ∀ u, RelV c u → u = cv) (hk : PySem.W.kitOne K (.ref D) cv = some b) : Ev (tCB (rIsC K (.ref D) none a) (tCons ta (tCons (tC c) tNil))) σ G M (isV (.bl b) M) :=
  ev_CB (Ps := [fun _ v => v = .ref a, fun _ v => v = c]) (ea_cons h (ea_cons ev_c ea_nil)) fun G1 H F vs e m p Q q => by
    match vs, p with
    | [v, w], ⟨p1, p2, _⟩ =>
      subst p1 p2
      exact ⟨D, rfl, rfl, hD, w, cv, b, rfl, hcv, hk, q _ _ _ _ (Ex.refl _) m ⟨rfl, rfl⟩⟩
theorem ev_isCT {t : TA} {cs : List V} {us : List Value} (hD : ExcC K D) (h : Ev ta σ G M (isV (.ref a) M)) (ht : EvA t σ G M (cs.map fun x => fun _ v => v = x) M) (hl : cs.length ≤ 1000) (hcs : Paired ClsV cs us) (hk : PySem.W.kitAny K (.ref D) us = some b) :
    Ev (tCB (rIsCT K (.ref D) none a) (tCons ta (tCons (tTup t) tNil))) σ G M (isV (.bl b) M) := fun G1 H F e m Q q =>
  h G1 H F e m _ fun v G2 M2 H2 e2 m2 r2 => by
    obtain ⟨rfl, rfl⟩ := r2
    refine ev_tupV ht hl G2 H2 F (e.trans e2) m2 _ fun w G3 M3 H3 e3 m3 r3 => ?_
    obtain ⟨p, rfl, rfl, hp⟩ := r3
    exact ⟨D, rfl, rfl, hD, p, cs, us, b, rfl, m3.ex _ _ hp, hcs, hk, q _ _ _ _ (e2.trans e3) m3 ⟨rfl, rfl⟩⟩
theorem own_rel {C : Addr} : ∀ u, RelV (.ref C) u → u = .ref C := fun u h => h
theorem ty_rel {n : String} : ∀ u, RelV (.ty n) u → u = .type n := fun u h => h
theorem cls_paired : ∀ (cs : List Addr), Paired ClsV (cs.map V.ref) (cs.map Value.ref)
  | [] => .nil
  | c :: cs => .cons (.own c) (cls_paired cs)
end
end SX

set_option Elab.async false
set_option linter.all false
set_option maxRecDepth 100000
/-! SXj: sheets: what is refused. -/
namespace SX
open PySem PySem.Spec L2

/-- what makes a sheet -/
def okSh (db dr dc : PyData) : Bool := isWhole db 2 12 && (isWhole dr 1 4 && areCols (intOf db) (intOf dr) dc)
structure MkS where
  p : Addr
  dx : Addr
  vb : V
  vr : V
  vc : V
  db : PyData
  dr : PyData
  dc : PyData
abbrev initPre (K : PySem.W.Frag) (C : Addr) : MkS → Hp → Mem → List V → Prop := fun x G M vs => vs = [.ref x.p, x.vb, x.vr, x.vc] ∧ ∃ M0, M = M0 ++ [(x.p, .ins C x.dx [])] ∧ Dp K G x.vb x.db ∧ Dp K G x.vr x.dr ∧ Dt K G M0 x.vc x.dc ∧ dlen x.dc ≤ 100000 ∧ ∀ ds, x.dc = .list ds → ∀ c ∈ ds, dlen c ≤ 100000
abbrev initPost (K : PySem.W.Frag) (C : Addr) : MkS → Mem → Post := fun x M G v M' => okSh x.db x.dr x.dc = true ∧ v = .non ∧ ∃ l xs M0 ds, M = M0 ++ [(x.p, .ins C x.dx [])] ∧ x.dc = .list ds ∧ M' = M0 ++ [(x.p, .ins C x.dx (shF x.vb x.vr (.ref l))), (l, .lst xs)] ∧ DpAll K G xs ds
abbrev initExc (CE : Addr) : MkS → Mem → Value → Option Addr → Hp → Mem → Prop := fun x M c d _ M' => okSh x.db x.dr x.dc = false ∧ c = .ref CE ∧ d = none ∧ M' = M
theorem okSh_good {b r : Int} {cs : List (List Int)} (g : GoodSh b r cs) : okSh (.int b) (.int r) (.list (cs.map colD)) = true := by
  have hw1 : isWhole (.int b) 2 12 = true := Bool.and_eq_true_iff.mpr ⟨rfl, Bool.and_eq_true_iff.mpr ⟨decide_eq_true g.b2, decide_eq_true g.b12⟩⟩
  have hw2 : isWhole (.int r) 1 4 = true := Bool.and_eq_true_iff.mpr ⟨rfl, Bool.and_eq_true_iff.mpr ⟨decide_eq_true g.r1, decide_eq_true g.r4⟩⟩
  unfold okSh
  rw [hw1, hw2]
  exact areCols_good g.col
theorem whole_int {d : PyData} {lo hi : Int} (h : isWhole d lo hi = true) : ∃ n, d = .int n ∧ lo ≤ n ∧ n ≤ hi := by
  unfold isWhole at h
  simp only [Bool.and_eq_true, decide_eq_true_eq] at h
  cases d with
  | int n => exact ⟨n, rfl, h.2.1, h.2.2⟩
  | _ => cases h.1
theorem isCol_of {b r : Int} {d : PyData} (h : isCol b r d = true) : ∃ c, d = colD c ∧ GoodCol b r c := by
  cases d with
  | tuple ds =>
    simp only [isCol, Bool.and_eq_true, decide_eq_true_eq, List.all_eq_true] at h
    obtain ⟨hl, ha⟩ := h
    refine ⟨ds.map intOf, ?_, by rw [List.length_map]; exact hl, fun f hf => ?_⟩
    · unfold colD
      rw [List.map_map]
      congr 1
      have : ds.map (PyData.int ∘ intOf) = ds.map id := by
        apply List.map_congr_left
        intro d hd
        obtain ⟨n, rfl, _⟩ := whole_int (ha d hd)
        rfl
      rw [this, List.map_id]
    · obtain ⟨d, hd, rfl⟩ := List.mem_map.mp hf
      obtain ⟨n, rfl, h1, h2⟩ := whole_int (ha d hd)
      exact ⟨h1, by show n < b; omega⟩
  | _ => cases h
/-- setting a column: x = (p, (b, r), l, xs, index, data); the list is owned at n -/
structure SetS where
  p : Addr
  dx : Addr
  l : Addr
  n : Nat
  b : Int
  r : Int
  xs : List V
  at_ : Int
  j : Nat
  v : V
  d : PyData
abbrev setPre (K : PySem.W.Frag) (C : Addr) : SetS → Hp → Mem → List V → Prop := fun x G M vs => vs = [.ref x.p, .int x.at_, x.v] ∧ At G M x.p (.ins C x.dx (shF (.int x.b) (.int x.r) (.ref x.l))) ∧ M[x.n]? = some (x.l, .lst x.xs) ∧ ixN x.xs.length x.at_ = some x.j ∧ Dp K G x.v x.d ∧ dlen x.d ≤ 100000
abbrev setPost (K : PySem.W.Frag) : SetS → Mem → Post := fun x M G v M' => isCol x.b x.r x.d = true ∧ v = .non ∧ ∃ y, Dp K G y x.d ∧ M' = M.set x.n (x.l, .lst (x.xs.set x.j y))
abbrev setExc (CE : Addr) : SetS → Mem → Value → Option Addr → Hp → Mem → Prop := fun x M c d _ M' => isCol x.b x.r x.d = false ∧ c = .ref CE ∧ d = none ∧ M' = M
/-- joining: x = ((p, b, r, cs), (q, b', r', cs')) -/
abbrev addPre (K : PySem.W.Frag) (C : Addr) : ((Addr × Int × Int × List (List Int)) × (Addr × Int × Int × List (List Int))) → Hp → Mem → List V → Prop := fun x G M vs => vs = [.ref x.1.1, .ref x.2.1] ∧ ShAt K C G M x.1.1 x.1.2.1 x.1.2.2.1 x.1.2.2.2 ∧ ShAt K C G M x.2.1 x.2.2.1 x.2.2.2.1 x.2.2.2.2 ∧
  GoodSh x.1.2.1 x.1.2.2.1 x.1.2.2.2 ∧ GoodSh x.2.2.1 x.2.2.2.1 x.2.2.2.2 ∧ x.1.2.2.2.length + x.2.2.2.2.length ≤ 10000
abbrev newSh (K : PySem.W.Frag) (C : Addr) (b r : Int) (cs : List (List Int)) (M : Mem) : Post := fun G1 v M' => ∃ p dx l ys, v = .ref p ∧ G1 p = some (.ins C dx (shF (.int b) (.int r) (.ref l))) ∧ M' = M ++ [(l, .lst ys)] ∧ DpAll K G1 ys (cs.map colD)
abbrev addPost (K : PySem.W.Frag) (C : Addr) : ((Addr × Int × Int × List (List Int)) × (Addr × Int × Int × List (List Int))) → Mem → Post := fun x M G v M' => (x.1.2.1 = x.2.2.1 ∧ x.1.2.2.1 = x.2.2.2.1) ∧ newSh K C x.1.2.1 x.1.2.2.1 (x.1.2.2.2 ++ x.2.2.2.2) M G v M'
abbrev addExc (CE : Addr) : ((Addr × Int × Int × List (List Int)) × (Addr × Int × Int × List (List Int))) → Mem → Value → Option Addr → Hp → Mem → Prop := fun x M c d _ M' => ¬ (x.1.2.1 = x.2.2.1 ∧ x.1.2.2.1 = x.2.2.2.1) ∧ c = .ref CE ∧ d = none ∧ M' = M
abbrev cutPre (K : PySem.W.Frag) (C : Addr) : ((Addr × Int × Int × List (List Int)) × Int × Int) → Hp → Mem → List V → Prop := fun x G M vs => vs = [.ref x.1.1, .int x.2.1, .int x.2.2] ∧ ShAt K C G M x.1.1 x.1.2.1 x.1.2.2.1 x.1.2.2.2 ∧ GoodSh x.1.2.1 x.1.2.2.1 x.1.2.2.2 ∧ 0 ≤ x.2.1 ∧ 0 ≤ x.2.2
def cutL (cs : List (List Int)) (lo hi : Int) : List (List Int) := (cs.drop lo.toNat).take (hi.toNat - lo.toNat)
abbrev cutPost (K : PySem.W.Frag) (C : Addr) : ((Addr × Int × Int × List (List Int)) × Int × Int) → Mem → Post := fun x M => newSh K C x.1.2.1 x.1.2.2.1 (cutL x.1.2.2.2 x.2.1 x.2.2) M
theorem cutD_cols {cs : List (List Int)} {lo hi : Int} (h0 : 0 ≤ lo) (h1 : 0 ≤ hi) : cutD (cs.map colD) (some lo) (some hi) = (cutL cs lo hi).map colD := by
  obtain ⟨a, rfl⟩ : ∃ a : Nat, lo = a := ⟨lo.toNat, by omega⟩
  obtain ⟨b, rfl⟩ : ∃ b : Nat, hi = b := ⟨hi.toNat, by omega⟩
  unfold cutD cutL
  rw [HT.sIx_nat, HT.sIx_nat, List.map_take, List.map_drop, List.length_map, Int.toNat_natCast, Int.toNat_natCast]
  by_cases h : a ≤ cs.length
  · rw [Nat.min_eq_left h]
    by_cases h' : b ≤ cs.length
    · rw [Nat.min_eq_left h']
    · rw [Nat.min_eq_right (by omega)]
      rw [List.take_of_length_le (by simp), List.take_of_length_le (by simp; omega)]
  · have e1 : (cs.map colD).drop (min a cs.length) = [] := List.drop_of_length_le (by rw [List.length_map]; omega)
    have e2 : (cs.map colD).drop a = [] := List.drop_of_length_le (by rw [List.length_map]; omega)
    rw [e1, e2, List.take_nil, List.take_nil]
theorem GoodSh.part {b r : Int} {cs ds : List (List Int)} (g : GoodSh b r cs) (h : ∀ c ∈ ds, c ∈ cs) (hl : ds.length ≤ 10000) : GoodSh b r ds := ⟨g.b2, g.b12, g.r1, g.r4, hl, fun c hc => g.col c (h c hc)⟩
theorem GoodSh.cut {b r : Int} {cs : List (List Int)} (g : GoodSh b r cs) (lo hi : Int) : GoodSh b r (cutL cs lo hi) := g.part (fun c hc => List.mem_of_mem_drop (List.mem_of_mem_take hc)) (by
  unfold cutL
  rw [List.length_take, List.length_drop]
  have := g.len
  omega)
end SX
namespace SX
open PySem PySem.Spec L2
abbrev setGPre (K : PySem.W.Frag) (C : Addr) : SetS → Hp → Mem → List V → Prop := fun x G M vs => setPre K C x G M vs ∧ isCol x.b x.r x.d = true
/-- a + b of two lists, wherever they stand -/
def rCatS (K : PySem.W.Frag) : R2 := fun x y H Q => ∃ l b xs zs, x = .ref l ∧ y = .ref b ∧ SqL K H l xs ∧ SqL K H b zs ∧ xs.length + zs.length ≤ sizeLine ∧ ∀ p, H p = none → Q (.ref p) (upd H p (.lst (xs ++ zs)))
theorem op_catS {X : Cx} : OpR X (binaryOp .Add) (rCatS X.K) := by
  intro pins s σ H x y v u Q I rx ry h
  obtain ⟨l, b, xs, zs, rfl, rfl, hl, hb, hz, q⟩ := h
  cases (show v = Value.ref l from rx)
  cases (show u = Value.ref b from ry)
  obtain ⟨its, r, ⟨o, n, eo, oc, od, oda⟩, z1⟩ := I.list hl
  obtain ⟨its2, r2, ⟨o2, n2, eo2, oc2, od2, oda2⟩, z2⟩ := I.list hb
  obtain ⟨c1, d1, dt1, s1⟩ := o
  obtain ⟨c2, d2, dt2, s2⟩ := o2
  dsimp only at oc od oda oc2 od2 oda2
  subst oc od oda oc2 od2 oda2
  have sz : its.toArray.size + its2.toArray.size ≤ sizeLine := by rw [List.size_toArray, List.size_toArray, ← r.length, ← r2.length]; exact hz
  refine PySem.concat_meets ⟨_, eo, rfl⟩ ⟨_, eo2, rfl⟩ PySem.noFill_list_add PySem.seq_list_add PySem.F.slot_list_add PySem.F.entry_list_add (PySem.F.args_list_add_2 _ _) (PyProof.Rows.list_addW l b its.toArray its2.toArray n n2 none none s1 s2 sz) ⟨eo, eo2, ?_⟩
  have ea : its.toArray ++ its2.toArray = (its ++ its2).toArray := by simp
  rw [ea]
  exact ⟨.ref _, _, I.lnew (t' := s.toks) (r.append r2) (by rw [List.length_append]; exact hz), rfl, q _ I.fresh⟩
theorem k_cat {X : Cx} {K : PySem.W.Frag} (hK : X.K = K) : OpR X (binaryOp .Add) (rCatS K) := hK ▸ op_catS
section
variable {K : PySem.W.Frag} {σ : L2.St} {G : Hp} {M M1 : Mem} {ta tb te : TE} {ds es : List PyData} {p q C : Addr} {xs ys : List V} {E : XK} {b r : Int} {cs : List (List Int)}
theorem ev_catA (h1 : Ev ta σ G M (isV (.ref p) M)) (h2 : Ev tb σ G M (isV (.ref q) M)) (a1 : AtL K G M p xs) (a2 : AtL K G M q ys) (d1 : DpAll K G xs ds) (d2 : DpAll K G ys es) (hl : ds.length + es.length ≤ 100000) :
    Ev (tOp (rCatS K) ta tb) σ G M (own K (ds ++ es) M) :=
  ev_op h1 h2 fun G1 H F x' y' e m p1 p2 Q k => by
    subst p1 p2
    refine ⟨p, q, xs, ys, rfl, rfl, a1 G1 H F e m, a2 G1 H F e m, ?_, fun l hl => k _ G1 _ _ (Ex.refl _) (m.newMid hl) ⟨l, xs ++ ys, rfl, rfl, dpa_app (dma d1 e) (dma d2 e)⟩⟩
    rw [dpa_len d1, dpa_len d2]
    exact Nat.le_of_lt (sz_ok hl)
theorem ev_mkSh3 {tb tr tc : TE} (hb : Ev tb σ G M (isV (.int b) M)) (hr : Ev tr σ G M (isV (.int r) M)) (hc : Ev tc σ G M (isD K (.list (cs.map colD)) M)) (g : GoodSh b r cs) :
    Ev (tMake C (spec (mkShPre K C) (mkShPost K C)) [] E (tCons tb (tCons tr (tCons tc tNil)))) σ G M (newSh K C b r cs M) := fun G1 H F e m Q k => by
  refine hb G1 H F e m _ fun v1 G2 M2 H2 e2 m2 r2 => ?_
  obtain ⟨rfl, rfl⟩ := r2
  refine hr G2 H2 F (e.trans e2) m2 _ fun v3 G3 M3 H3 e3 m3 r3 => ?_
  obtain ⟨rfl, rfl⟩ := r3
  refine hc G3 H3 F ((e.trans e2).trans e3) m3 _ fun v4 G4 M4 H4 e4 m4 r4 => ?_
  obtain ⟨d4, rfl⟩ := r4
  obtain ⟨a, zs, rfl, hz, hd⟩ := dp_lst d4
  exact ev_mkSh (K := K) (σ := [some (.int b), some (.int r), some (.ref a)]) (G := G4) (M := M4) (M1 := M4) (tA := tCons (tVar 0) (tCons (tVar 1) (tCons (tVar 2) tNil))) (E := E) (C := C) (ea_cons (ev_var rfl) (ea_cons (ev_var rfl) (ea_cons (ev_var rfl) ea_nil))) (.G hz) hd g G4 H4 F (Ex.refl _) m4 Q (fun v G5 M5 H5 e5 m5 r5 => k v G5 M5 H5 (((e2.trans e3).trans e4).trans e5) m5 r5)
    |> fun z => by
      obtain ⟨x1, hx1, x2, hx2, x3, hx3, z⟩ := z
      cases hx1
      cases hx2
      cases hx3
      exact z
/-- isinstance(o, C), o an instance of C -/
structure IsCls (K : PySem.W.Frag) (C : Addr) : Prop where
  ha : PySem.W.findIn K (.ref C) "__class__" = some (some (.builtin "object.__class__"))
  hn : PySem.W.specialIn K (.builtin "object.__class__") "__get__" = some (some (.builtin "getset_descriptor.__get__"))
  ht : PySem.W.takesIn K (.builtin "object.__class__") = some true
  hm : PySem.W.mroIn K C (.type "object") = some true
theorem ev_isiO {dx D : Addr} {fs : List (Str × V)} {b : Bool} (ic : IsCls K C) (cl : Cls K C) (hk : PySem.W.kitOne K (.ref C) (.ref D) = some b) (h : Ev ta σ G M (isV (.ref p) M1)) (hp : At G M1 p (.ins C dx fs)) : Ev (tCB (rIsi K) (tCons ta (tCons (tC (.ref D)) tNil))) σ G M (isV (.bl b) M1) :=
  ev_CB (Ps := [fun _ v => v = .ref p, fun _ v => v = .ref D]) (ea_cons h (ea_cons ev_c ea_nil)) fun G1 H F vs e m z Q k => by
    match vs, z with
    | [v, c], ⟨p1, p2, _⟩ =>
      subst p1 p2
      exact ⟨.ref p, .ref D, .ref C, .ref D, b, rfl, .own D, .base (.ins (hp G1 H F e m) cl ic.ha ic.hn ic.ht ic.hm), hk, k _ _ _ _ (Ex.refl _) m ⟨rfl, rfl⟩⟩
end
end SX

set_option Elab.async false
set_option linter.all false
set_option maxRecDepth 100000
/-! SXk: more of calls, sheets as values, comprehensions that unpack. -/
namespace SX
open PySem PySem.Spec L2

theorem k_gtup {X : Cx} {K : PySem.W.Frag} {pos : Pos} {es : List Expr} {k : Nat} {t : TGs} {n : Nat} (hK : X.K = K) (hc : X.calm = true) (h : PGs X es t)
    (hn : (assignEach es X.env).length = n := by rfl) (hst : (assignEach es X.env).findIdx? (·.1) = none := by rfl) : PG X (.Tuple es k pos) (gTup K n t) := hK ▸ pg_tup hc h hn hst
section
variable {E : XK} {K : PySem.W.Frag} {σ : L2.St} {G G' H : Hp} {M M1 M2 M3 F : Mem} {R : Post} {P P' : Po} {te ta tb : TE} {tt tu : TT} {t u : TS} {x y z v : V} {d e : PyData} {ds : List PyData} {a b : Bool} {P1 P2 : Hp → V → Prop} {C : Addr} {Ps : List (Hp → V → Prop)}
/-- a call whose names depend on the values -/
theorem ev_callD {α : Type} {pre : α → Hp → Mem → List V → Prop} {post : α → Mem → Post} {t : TA} {E : XK} (h : EvA t σ G M Ps M1) (hp : ∀ G1 vs, Ex G G1 → AllP G1 Ps vs → ∃ xx, pre xx G1 M1 vs ∧ ∀ G2 v M2, Ex G1 G2 → post xx M1 G2 v M2 → R G2 v M2) :
    Ev (tCall (spec pre post) [] E t) σ G M R := fun G1 H F e m Q q =>
  h G1 H F e m _ fun vs G2 H2 e2 m2 a => by
    obtain ⟨xx, p, r⟩ := hp G2 vs (e.trans e2) a
    exact ⟨xx, G2, M1, F, m2, by rw [List.append_nil]; exact p, fun v G' M' H' e' m' r' => q v G' M' H' (e2.trans e') m' (r G' v M' e' r')⟩
theorem et_orM (h1 : EvT tt σ G M false M1) (h2 : EvT tu σ G M1 b M2) : EvT (tOr tt tu) σ G M b M2 := fun G1 H F e m Q q => h1 G1 H F e m _ fun G2 H2 e2 m2 => by
  show (if false = true then _ else _)
  rw [if_neg Bool.false_ne_true]
  exact h2 G2 H2 F (e.trans e2) m2 Q fun G3 H3 e3 m3 => q G3 H3 (e2.trans e3) m3
/-- a != b: what stands at an address, data -/
theorem ev_neAD (h1 : Ev ta σ G M (isV x M1)) (h2 : Ev tb σ G M1 (isD K e M2)) (a1 : Da K G M2 x d) (s1 : SeqAt.shaped d = true) (s2 : SeqAt.shaped e = true) : Ev (tOp (rNeD K) ta tb) σ G M (isV (.bl (!PyData.eqv d e)) M2) :=
  ev_op h1 h2 fun G1 H F x' y' ex m p1 p2 Q q => by
    subst p1
    exact ⟨d, e, a1 G1 H F ex m, dm p2 m.ex, s1, s2, q _ G1 _ H (Ex.refl _) m ⟨rfl, rfl⟩⟩
/-- o[i] = e by the own method, where it does not raise -/
theorem sv_setG {α : Type} {pre : α → Hp → Mem → List V → Prop} {post : α → Mem → Post} {to ti : TE} {E' : XK} {p dx : Addr} {fs : List (Str × V)} {Pp : Hp → V → Prop} [Mono Pp] (xx : V → α) (h : Ev te σ G M (isP Pp M1)) (h1 : Ev to σ G M1 (isV (.ref p) M1)) (h2 : Ev ti σ G M1 (isV y M1))
    (ha : At G M1 p (.ins C dx fs)) (hp : ∀ v G1, Ex G G1 → Pp G1 v → pre (xx v) G1 M1 [.ref p, y, v])
    (hq : ∀ v w G1 M2, Ex G G1 → post (xx v) M1 G1 w M2 → P.nx G1 σ M2) : Sv E (tAsg te (gSub to ti (rSetO C (spec pre post) E'))) σ G M P := fun G1 H F D e m hd =>
  h G1 H F e m _ fun v G2 M2' H2 e2 m2 r2 => by
    obtain ⟨pv, rfl⟩ := r2
    refine h1 G2 H2 F (e.trans e2) m2 _ fun v3 G3 M3' H3 e3 m3 r3 => ?_
    obtain ⟨rfl, rfl⟩ := r3
    refine h2 G3 H3 F ((e.trans e2).trans e3) m3 _ fun v4 G4 M4' H4 e4 m4 r4 => ?_
    obtain ⟨rfl, rfl⟩ := r4
    have e04 := ((e.trans e2).trans e3).trans e4
    exact ⟨p, dx, fs, rfl, ha G4 H4 F e04 m4, xx v, G4, M4', F, m4, hp v G4 e04 (Mono.mono _ _ _ (e3.trans e4) pv), fun w G5 M5 H5 e5 m5 r5 => hd.nx σ G5 M5 H5 (((e2.trans e3).trans e4).trans e5) m5 (hq v w G5 M5 (e04.trans e5) r5)⟩
/-- a sheet that stands still -/
def ShFz (K : PySem.W.Frag) (C : Addr) (b r : Int) (cs : List (List Int)) (G : Hp) (v : V) : Prop := ∃ p dx l xs, v = .ref p ∧ G p = some (.ins C dx (shF (.int b) (.int r) (.ref l))) ∧ SqL K G l xs ∧ DpAll K G xs (cs.map colD)
instance {b r : Int} {cs : List (List Int)} : Mono (ShFz K C b r cs) := ⟨fun G G' v e h => by
  obtain ⟨p, dx, l, xs, h1, h2, h3, h4⟩ := h
  exact ⟨p, dx, l, xs, h1, e _ _ h2, ex_l e h3, dma h4 e⟩⟩
theorem ShFz.at_ {b r : Int} {cs : List (List Int)} (h : ShFz K C b r cs G v) : ∃ p, v = .ref p ∧ ∀ M, ShAt K C G M p b r cs := by
  obtain ⟨p, dx, l, xs, h1, h2, h3, h4⟩ := h
  exact ⟨p, h1, fun M => ⟨dx, l, xs, .G h2, .G h3, h4⟩⟩
theorem Ev.frzSh {b r : Int} {cs : List (List Int)} (h : Ev te σ G M (newSh K C b r cs M1)) : Ev te σ G M (isP (ShFz K C b r cs) M1) := fun G1 H F e m Q q =>
  h G1 H F e m Q fun v G2 M2 H2 e2 m2 r => by
    obtain ⟨p, dx, l, ys, rfl, hp, rfl, hd⟩ := r
    obtain ⟨m3, e3⟩ := m2.freezeLast
    exact q _ _ M1 H2 (e2.trans e3) m3 ⟨⟨p, dx, l, ys, rfl, e3 _ _ hp, SqL.of upd_same, dma hd e3⟩, rfl⟩
abbrev addGPre (K : PySem.W.Frag) (C : Addr) : ((Addr × Int × Int × List (List Int)) × (Addr × Int × Int × List (List Int))) → Hp → Mem → List V → Prop := fun x G M vs => addPre K C x G M vs ∧ x.1.2.1 = x.2.2.1 ∧ x.1.2.2.1 = x.2.2.2.1
/-- one + other, alike -/
theorem ev_addO [Mono P1] {E' : XK} {b r : Int} {cs cs' : List (List Int)} (h1 : Ev ta σ G M (isP P1 M1)) (h2 : Ev tb σ G M1 (isP P2 M2)) (c1 : ∀ G1 v, Ex G G1 → P1 G1 v → ∃ p, v = .ref p ∧ ShAt K C G1 M2 p b r cs) (c2 : ∀ G1 v, Ex G G1 → P2 G1 v → ∃ p, v = .ref p ∧ ShAt K C G1 M2 p b r cs')
    (g : GoodSh b r cs) (g' : GoodSh b r cs') (hl : cs.length + cs'.length ≤ 10000) : Ev (tOp (rBinO C (spec (addGPre K C) (addPost K C)) E') ta tb) σ G M (newSh K C b r (cs ++ cs') M2) :=
  ev_op h1 h2 fun G1 H F x' y' e m p1 p2 Q k => by
    obtain ⟨p, rfl, s1⟩ := c1 G1 _ e p1
    obtain ⟨q, rfl, s2⟩ := c2 G1 _ e p2
    obtain ⟨dx, l, xs, k1, k2, k3⟩ := s1
    obtain ⟨dy, l', ys, j1, j2, j3⟩ := s2
    exact ⟨p, dx, _, q, dy, _, rfl, rfl, k1 G1 H F (Ex.refl _) m, j1 G1 H F (Ex.refl _) m, ((p, b, r, cs), (q, b, r, cs')), G1, M2, F, m, ⟨⟨rfl, ⟨dx, l, xs, k1, k2, k3⟩, ⟨dy, l', ys, j1, j2, j3⟩, g, g', hl⟩, rfl, rfl⟩, fun v G' M' H' e' m' r' => k v G' M' H' e' m' r'.2⟩
/-- one.cut(lo, hi) -/
theorem ev_cut {E' : XK} {b r lo hi : Int} {cs : List (List Int)} {p : Addr} {tA : TA} (h : Ev ta σ G M (isV (.ref p) M)) (hS : ShAt K C G M p b r cs) (g : GoodSh b r cs) (hA : EvA tA σ G M [fun _ v => v = .int lo, fun _ v => v = .int hi] M) (h0 : 0 ≤ lo) (h1 : 0 ≤ hi) (hn : ¬ (("cut" : Str) = "_base") := by decide +kernel) (hn2 : ¬ (("cut" : Str) = "_rows") := by decide +kernel) (hn3 : ¬ (("cut" : Str) = "_columns") := by decide +kernel) :
    Ev (tMeth C "cut" (spec (cutPre K C) (cutPost K C)) [] E' ta tA) σ G M (newSh K C b r (cutL cs lo hi) M) := by
  obtain ⟨dx, l, xs, k1, k2, k3⟩ := hS
  exact ev_meth (pre := cutPre K C) (post := cutPost K C) ((p, b, r, cs), lo, hi) h k1 (shF_no hn hn2 hn3) hA fun G1 vs e a => by
    match vs, a with
    | [v, w], ⟨p1, p2, _⟩ =>
      subst p1 p2
      exact ⟨rfl, ⟨dx, l, xs, k1.ex e, k2.ex e, dma k3 e⟩, g, h0, h1⟩
/-- are_columns of data -/
theorem ev_areD {tA : TA} {E' : XK} {fs cs : List (List Int)} (h : EvA tA σ G M [fun G v => Dp K G v (.list (fs.map colD)), fun G v => Dp K G v (.list (cs.map colD))] M1) (l1 : fs.length ≤ 100000) (l2 : cs.length ≤ 100000) (l3 : ∀ c ∈ fs, c.length ≤ 100000) :
    Ev (tCall (spec (arePre K) arePost) [] E' tA) σ G M (isV (.bl (decide (fs = cs))) M1) :=
  ev_callD h fun G1 vs ex p => by
    match vs, p with
    | [v, u], ⟨p1, p2, _⟩ =>
      obtain ⟨a, xs, rfl, _⟩ := dp_lst p1
      obtain ⟨a', xs', rfl, _⟩ := dp_lst p2
      exact ⟨(a, a', fs, cs), ⟨rfl, .of p1, .of p2, l1, l2, l3⟩, fun _ _ _ _ r => r⟩
/-- all([.. for x, y in l]), every turn true -/
theorem ev_allP2 {tl : TE} {own' : List Nat} {k1 k2 : Nat} (hs : Ev tl σ G M (isP P1 M1))
    (hx : ∀ G1 v, Ex G G1 → P1 G1 v → ∃ oa ws, v = .ref oa ∧ ws.length ≤ 100000 ∧ SqL K G1 oa ws ∧ ∀ (i : Nat) x, ws[i]? = some x → ∃ t q c, x = .ref t ∧ SqT K G1 t [q, c] ∧ ∀ G2, Ex G1 G2 → Ev te (((wipe σ own').set k1 (some q)).set k2 (some c)) G2 M1 (isV (.bl true) M1))
    (hw : ∀ x y, wipe (((wipe σ own').set k1 (some x)).set k2 (some y)) own' = wipe σ own') :
    Ev (tCB (rAll K) (tCons (tLc (iList K tl) (gTup K 2 (gCons (gName k1) (gCons (gName k2) gNil))) tYes te own') tNil)) σ G M (isV (.bl true) M1) := by
  have key : Ev (tLc (iList K tl) (gTup K 2 (gCons (gName k1) (gCons (gName k2) gNil))) tYes te own') σ G M (isP (fun G v => ∃ n : Nat, Dp K G v (.list ((List.replicate n true).map .bool))) M1) := fun G1 H F e m Q q =>
    hs G1 H F e m _ fun v G2 M2 H2 e2 m2 r2 => by
      obtain ⟨pv, rfl⟩ := r2
      obtain ⟨oa, ws, rfl, hl, hq, hi⟩ := hx G2 v (e.trans e2) pv
      refine ⟨oa, rfl, ⟨ws, ex_l m2.ex hq⟩, fun D hD => lc_list (K := K) (a := oa) (xs := ws) (fun i H' => ∃ G' vs, Ex G2 G' ∧ Me G' (M2 ++ (D, .lst vs) :: F) H' ∧ DpAll K G' vs ((List.replicate i true).map .bool)) ?_ ?_ ?_ ?_⟩
      · exact ⟨G2, [], Ex.refl _, by rw [mem_mid]; exact m2.newMid hD, .nil⟩
      · rintro i H' _ ⟨G', vs, e', m', _⟩
        exact ex_l m'.ex (ex_l e' hq)
      · rintro i x H' hx' ⟨G', vs, e', m', da⟩
        obtain ⟨t, q', c, rfl, ht, hb⟩ := hi i x hx'
        have hil : i < ws.length := (List.getElem?_eq_some_iff.mp hx').1
        refine ⟨t, [q', c], rfl, ex_t m'.ex (ex_t e' ht), rfl, q', [c], rfl, c, [], rfl, rfl, hw q' c, ?_⟩
        refine (et_yes : EvT tYes (((wipe σ own').set k1 (some q')).set k2 (some c)) G' M2 true M2) G' H' _ (Ex.refl _) m' _ fun G5 H5 e5 m5 => ?_
        rw [if_pos rfl]
        refine hb G5 (e'.trans e5) G5 H5 _ (Ex.refl _) m5 _ fun y G4 M4 H4 e4 m4 r4 => ?_
        obtain ⟨rfl, rfl⟩ := r4
        have hm : (M4 ++ (D, HO.lst vs) :: F)[M4.length]? = some (D, .lst vs) := by
          rw [List.getElem?_append_right (Nat.le_refl _), Nat.sub_self]
          rfl
        have hvl : vs.length = i := by rw [dpa_len da, List.length_map, List.length_replicate]
        refine ⟨vs, m4.get hm, by rw [hvl]; exact sz_ok (by omega), G4, vs ++ [.bl true], (e'.trans e5).trans e4, ?_, ?_⟩
        · have := m4.put (o' := .lst (vs ++ [.bl true])) hm
          rw [List.set_append_right _ _ (Nat.le_refl _), Nat.sub_self] at this
          exact this
        · rw [List.replicate_succ', List.map_append]
          exact dpa_app (dma da (e5.trans e4)) (.cons (.bl true) .nil)
      · rintro H' ⟨G', vs, e', m', da⟩
        rw [mem_mid] at m'
        obtain ⟨m3, e3⟩ := m'.freezeLast
        exact q _ _ M2 H' ((e2.trans e').trans e3) m3 ⟨⟨ws.length, .lst (SqL.of upd_same) (dma da e3)⟩, rfl⟩
  exact ev_CB (M1 := M1) (Ps := [fun G v => ∃ n : Nat, Dp K G v (.list ((List.replicate n true).map .bool))]) (fun G1 H F e m Q q => key G1 H F e m _ fun v G2 M2 H2 e2 m2 r => by
    obtain ⟨p, eM⟩ := r
    rw [eM] at m2
    exact q [v] G2 H2 e2 m2 ⟨p, trivial⟩) fun G1 H F vs e m p Q q => by
    match vs, p with
    | [v], ⟨⟨n, p1⟩, _⟩ =>
      obtain ⟨a, xs, rfl, hs, ha⟩ := dp_lst p1
      rw [dpAll_bls ha] at hs
      refine ⟨a, List.replicate n true, rfl, ex_l m.ex hs, ?_⟩
      rw [show (List.replicate n true).all id = true by simp]
      exact q _ _ _ _ (Ex.refl _) m ⟨rfl, rfl⟩
/-- the pairs of a sheet and its due columns -/
def OthF (K : PySem.W.Frag) (os : List (Addr × List (List Int))) (G : Hp) (v : V) : Prop := ∃ oa ws, v = .ref oa ∧ ws.length ≤ 1000 ∧ SqL K G oa ws ∧ ∀ (i : Nat) x, ws[i]? = some x → ∃ t q c cs', x = .ref t ∧ SqT K G t [.ref q, c] ∧ Dp K G c (.list (cs'.map colD)) ∧ (q, cs') ∈ os
instance {os : List (Addr × List (List Int))} : Mono (OthF K os) := ⟨fun G G' v e h => by
  obtain ⟨oa, ws, h1, h2, h3, h4⟩ := h
  refine ⟨oa, ws, h1, h2, ex_l e h3, fun i x hx => ?_⟩
  obtain ⟨t, q, c, cs', k1, k2, k3, k4⟩ := h4 i x hx
  exact ⟨t, q, c, cs', k1, ex_t e k2, dm k3 e, k4⟩⟩
end
/-- (sheet p, dict, its list l owned at n, base, rows, its items, its length as cs, the others) -/
structure OwnS where
  p : Addr
  dx : Addr
  l : Addr
  n : Nat
  b : Int
  r : Int
  xs : List V
  cs : List (List Int)
  os : List (Addr × List (List Int))
abbrev ownPre (K : PySem.W.Frag) (C : Addr) : OwnS → Hp → Mem → List V → Prop := fun x G M vs => ∃ cv ov, vs = [.ref x.p, .int x.b, .int x.r, cv, ov] ∧ At G M x.p (.ins C x.dx (shF (.int x.b) (.int x.r) (.ref x.l))) ∧ M[x.n]? = some (x.l, .lst x.xs) ∧ x.xs.length = x.cs.length ∧ GoodSh x.b x.r x.cs ∧
  Dp K G cv (.list (x.cs.map colD)) ∧ OthF K x.os G ov ∧ G x.p = some (.ins C x.dx (shF (.int x.b) (.int x.r) (.ref x.l))) ∧ ∀ q cs', (q, cs') ∈ x.os → GoodSh x.b x.r cs' ∧ ∀ ys, ShAt K C G (M.set x.n (x.l, .lst ys)) q x.b x.r cs'
abbrev ownPost : OwnS → Mem → Post := fun x M _ v M' => v = .bl true ∧ ∃ ys, M' = M.set x.n (x.l, .lst ys)
end SX
namespace SX
open PySem PySem.Spec L2
abbrev powPre : (Int × Nat) → Hp → Mem → List V → Prop := fun x G M vs => vs = [.int x.1, .int (x.2 : Int)] ∧ (-(2 ^ 64) < x.1 ∧ x.1 < 2 ^ 64) ∧ x.2 ≤ 100000
abbrev powPost : (Int × Nat) → Mem → Post := fun x M => isV (.int (x.1 ^ x.2)) M
theorem horner_last (b : Int) : ∀ (l : List Int) (y : Int), horner b l y = horner b l 0 + b ^ l.length * y
  | [], y => by simp [horner]
  | f :: l, y => by
    have ih := horner_last b l y
    unfold horner at ih ⊢
    simp only [List.foldr_cons, List.length_cons]
    rw [ih, Int.add_mul, Int.pow_succ, Int.mul_assoc, Int.mul_comm y b, ← Int.mul_assoc]
    omega
theorem valueOf_app (b : Int) (cs ds : List (List Int)) : valueOf b (cs ++ ds) = valueOf b cs + b ^ cs.length * valueOf b ds := by
  have := horner_last b (cs.map List.sum) (horner b (ds.map List.sum) 0)
  rw [List.length_map] at this
  unfold valueOf
  rw [← this, List.map_append]
  unfold horner
  rw [List.foldr_append]
/-- two sheets that are not alike -/
abbrev joinPre (K : PySem.W.Frag) (C : Addr) : ((Addr × Int × Int × List (List Int)) × (Addr × Int × Int × List (List Int))) → Hp → Mem → List V → Prop := fun x G M vs => addPre K C x G M vs ∧ ¬ (x.1.2.1 = x.2.2.1 ∧ x.1.2.2.1 = x.2.2.2.1)
abbrev joinPost (K : PySem.W.Frag) : ((Addr × Int × Int × List (List Int)) × (Addr × Int × Int × List (List Int))) → Mem → Post := fun x M => isD K (.list [.bool true, .bool true, .bool false]) M
end SX
namespace SX
open PySem PySem.Spec L2
/-- the law's words of a sheet (p, base, rows, columns), the due columns as data -/
abbrev rightGPre (K : PySem.W.Frag) (C : Addr) : (Addr × Int × Int × List (List Int)) → Hp → Mem → List V → Prop := fun x G M vs => ∃ cv, vs = [.ref x.1, .int x.2.1, .int x.2.2.1, cv] ∧ ShAt K C G M x.1 x.2.1 x.2.2.1 x.2.2.2 ∧ Dp K G cv (.list (x.2.2.2.map colD)) ∧ GoodSh x.2.1 x.2.2.1 x.2.2.2
abbrev rightGPost : (Addr × Int × Int × List (List Int)) → Mem → Post := fun _ M => isV (.bl true) M
theorem ev_rightG {K : PySem.W.Frag} {C : Addr} {σ : L2.St} {G : Hp} {M M1 : Mem} {tA : TA} {E : XK} {p : Addr} {b r : Int} {cs : List (List Int)} (h : EvA tA σ G M [fun _ v => v = .ref p, fun _ v => v = .int b, fun _ v => v = .int r, fun G v => Dp K G v (.list (cs.map colD))] M1) (hS : ShAt K C G M1 p b r cs) (g : GoodSh b r cs) :
    Ev (tCall (spec (rightGPre K C) rightGPost) [] E tA) σ G M (isV (.bl true) M1) :=
  ev_call (p, b, r, cs) h fun G1 vs e q => by
    match vs, q with
    | [v1, v2, v3, v4], ⟨p1, p2, p3, p4, _⟩ =>
      subst p1 p2 p3
      exact ⟨v4, rfl, hS.ex e, p4, g⟩
theorem cutL_len {cs : List (List Int)} {lo hi : Int} (h0 : 0 ≤ lo) (h1 : lo ≤ hi) (h2 : hi ≤ cs.length) : ((cutL cs lo hi).length : Int) = hi - lo := by
  unfold cutL
  rw [List.length_take, List.length_drop]
  omega
theorem cutL_cat {cs : List (List Int)} {lo hi : Int} (h0 : 0 ≤ lo) (h1 : lo ≤ hi) : cutL cs 0 lo ++ cutL cs lo hi = cutL cs 0 hi := by
  unfold cutL
  rw [Int.toNat_zero, List.drop_zero, Nat.sub_zero, Nat.sub_zero, ← List.take_add]
  congr 1
  omega
theorem cutL_all {cs : List (List Int)} {hi : Int} (h0 : 0 ≤ hi) : cutL cs 0 hi ++ cutL cs hi cs.length = cs := by
  unfold cutL
  rw [Int.toNat_zero, List.drop_zero, Nat.sub_zero, Int.toNat_natCast]
  have : (cs.drop hi.toNat).take (cs.length - hi.toNat) = cs.drop hi.toNat := List.take_of_length_le (by rw [List.length_drop]; omega)
  rw [this, List.take_append_drop]
structure PartS where
  dk : Addr
  i : Nat
  D : Deck
  p : Addr
  b : Int
  r : Int
  cs : List (List Int)
abbrev partPre (K : PySem.W.Frag) (C : Addr) : PartS → Hp → Mem → List V → Prop := fun x G M vs => ∃ cv, vs = [.ref x.dk, .ref x.p, cv, .int x.b, .int x.r] ∧ M[x.i]? = some (x.dk, x.D.ho) ∧ (∀ o, ShAt K C G (M.set x.i (x.dk, o)) x.p x.b x.r x.cs) ∧ Dp K G cv (.list (x.cs.map colD)) ∧ GoodSh x.b x.r x.cs ∧ x.cs.length ≤ 1000
def partDk (D : Deck) (n : Int) : Deck := dn (dn D (n + 1)) (n + 1 - dv D (n + 1))
def strDk (D : Deck) : Deck := dn (if dv D 3 ≠ 0 then dn (if dv D 3 ≠ 1 then dn (dn D 3) 10 else dn D 3) 3 else (if dv D 3 ≠ 1 then dn (dn D 3) 10 else dn D 3)) 3
abbrev partPost : PartS → Mem → Post := fun x M => isV (.bl true) (M.set x.i (x.dk, (partDk x.D x.cs.length).ho))
abbrev strPost : PartS → Mem → Post := fun x M => isV (.bl true) (M.set x.i (x.dk, (strDk x.D).ho))
end SX
namespace SX
open PySem PySem.Spec L2
section
variable {K : PySem.W.Frag} {C : Addr} {σ : L2.St} {G : Hp} {M M1 M2 M3 M4 : Mem} {tA : TA} {E : XK} {ta tb tc td te tf : TE}
theorem allP2 {P1 P2 : Hp → V → Prop} : ∀ {vs : List V}, AllP G [P1, P2] vs → ∃ v w, vs = [v, w] ∧ P1 G v ∧ P2 G w
  | [v, w], ⟨a, b, _⟩ => ⟨v, w, rfl, a, b⟩
theorem allP3 {P1 P2 P3 : Hp → V → Prop} : ∀ {vs : List V}, AllP G [P1, P2, P3] vs → ∃ v w u, vs = [v, w, u] ∧ P1 G v ∧ P2 G w ∧ P3 G u
  | [v, w, u], ⟨a, b, c, _⟩ => ⟨v, w, u, rfl, a, b, c⟩
theorem allP5 {P1 P2 P3 P4 P5 : Hp → V → Prop} : ∀ {vs : List V}, AllP G [P1, P2, P3, P4, P5] vs → ∃ v w u x y, vs = [v, w, u, x, y] ∧ P1 G v ∧ P2 G w ∧ P3 G u ∧ P4 G x ∧ P5 G y
  | [v, w, u, x, y], ⟨a, b, c, d, e, _⟩ => ⟨v, w, u, x, y, rfl, a, b, c, d, e⟩
theorem ev_own (x : OwnS) (h : EvA tA σ G M [fun _ v => v = .ref x.p, fun _ v => v = .int x.b, fun _ v => v = .int x.r, fun G v => Dp K G v (.list (x.cs.map colD)), OthF K x.os] M1) (hp : G x.p = some (.ins C x.dx (shF (.int x.b) (.int x.r) (.ref x.l)))) (hl : M1[x.n]? = some (x.l, .lst x.xs)) (hn : x.xs.length = x.cs.length) (g : GoodSh x.b x.r x.cs)
    (ho : ∀ q cs', (q, cs') ∈ x.os → GoodSh x.b x.r cs' ∧ ∀ ys, ShAt K C G (M1.set x.n (x.l, .lst ys)) q x.b x.r cs') : Ev (tCall (spec (ownPre K C) ownPost) [] E tA) σ G M (fun _ v M' => v = .bl true ∧ ∃ ys, M' = M1.set x.n (x.l, .lst ys)) :=
  ev_call x h fun G1 vs e q => by
    obtain ⟨v1, v2, v3, v4, v5, rfl, p1, p2, p3, p4, p5⟩ := allP5 q
    subst p1 p2 p3
    exact ⟨v4, v5, rfl, .G (e _ _ hp), hl, hn, g, p4, p5, e _ _ hp, fun q cs' hq => ⟨(ho q cs' hq).1, fun ys => ((ho q cs' hq).2 ys).ex e⟩⟩
/-- (sheet, due columns) -/
def PrF (K : PySem.W.Frag) (q : Addr) (cs : List (List Int)) (G : Hp) (v : V) : Prop := ∃ t c, v = .ref t ∧ SqT K G t [.ref q, c] ∧ Dp K G c (.list (cs.map colD))
instance {q : Addr} {cs : List (List Int)} : Mono (PrF K q cs) := ⟨fun G G' v e h => by
  obtain ⟨t, c, h1, h2, h3⟩ := h
  exact ⟨t, c, h1, ex_t e h2, dm h3 e⟩⟩
theorem ev_pr {q : Addr} {cs : List (List Int)} (h1 : Ev ta σ G M (isV (.ref q) M)) (h2 : Ev tb σ G M (isD K (.list (cs.map colD)) M1)) : Ev (tTup (tCons ta (tCons tb tNil))) σ G M (isP (PrF K q cs) M1) := fun G1 H F e m Q k =>
  ea_cons h1 (ea_cons h2 ea_nil) G1 H F e m _ fun vs G2 H2 e2 m2 a => by
      obtain ⟨v, w, rfl, p1, p2⟩ := allP2 a
      subst p1
      refine ⟨Nat.le_of_lt (small1000 (by show 2 ≤ 1000; decide)), fun p hp => ?_⟩
      have g2 := m2.free hp
      exact k _ _ _ _ (e2.trans (Ex.new g2)) (m2.newF hp) ⟨⟨p, w, rfl, SqT.of upd_same, dm p2 (Ex.new g2)⟩, rfl⟩
theorem othF_of {os : List (Addr × List (List Int))} {ws : List V} {oa : Addr} (hq : SqL K G oa ws) (hl : ws.length ≤ 1000) (h : ∀ x ∈ ws, ∃ q cs, (q, cs) ∈ os ∧ PrF K q cs G x) : OthF K os G (.ref oa) :=
  ⟨oa, ws, rfl, hl, hq, fun i x hx => by
    obtain ⟨q, cs, hm, t, c, h1, h2, h3⟩ := h x (List.mem_of_getElem? hx)
    exact ⟨t, q, c, cs, h1, h2, h3, hm⟩⟩
theorem ev_oth2 {q q' : Addr} {cs cs' : List (List Int)} (h1 : Ev ta σ G M (isV (.ref q) M)) (h2 : Ev tb σ G M (isD K (.list (cs.map colD)) M1)) (h3 : Ev tc σ G M1 (isV (.ref q') M1)) (h4 : Ev td σ G M1 (isD K (.list (cs'.map colD)) M2)) :
    Ev (tLst (tCons (tTup (tCons ta (tCons tb tNil))) (tCons (tTup (tCons tc (tCons td tNil))) tNil))) σ G M (isP (OthF K [(q, cs), (q', cs')]) M2) := fun G1 H F e m Q k =>
  ea_cons (ev_pr h1 h2) (ea_cons (ev_pr h3 h4) ea_nil) G1 H F e m _ fun vs G2 H2 e2 m2 a => by
      obtain ⟨v, w, rfl, p1, p2⟩ := allP2 a
      refine ⟨Nat.le_of_lt (small1000 (by show 2 ≤ 1000; decide)), fun p hp => ?_⟩
      have g2 := m2.free hp
      refine k _ _ _ _ (e2.trans (Ex.new g2)) (m2.newF hp) ⟨othF_of (SqL.of upd_same) (by show _ ≤ 1000; simp) fun x hx => ?_, rfl⟩
      rcases List.mem_cons.mp hx with rfl | hx
      · exact ⟨q, cs, List.mem_cons_self, Mono.mono _ _ _ (Ex.new g2) p1⟩
      · cases List.mem_singleton.mp hx
        exact ⟨q', cs', by simp, Mono.mono _ _ _ (Ex.new g2) p2⟩
theorem ev_oth3 {q q' q'' : Addr} {cs cs' cs'' : List (List Int)} (h1 : Ev ta σ G M (isV (.ref q) M)) (h2 : Ev tb σ G M (isD K (.list (cs.map colD)) M1)) (h3 : Ev tc σ G M1 (isV (.ref q') M1)) (h4 : Ev td σ G M1 (isD K (.list (cs'.map colD)) M2)) (h5 : Ev te σ G M2 (isV (.ref q'') M2)) (h6 : Ev tf σ G M2 (isD K (.list (cs''.map colD)) M3)) :
    Ev (tLst (tCons (tTup (tCons ta (tCons tb tNil))) (tCons (tTup (tCons tc (tCons td tNil))) (tCons (tTup (tCons te (tCons tf tNil))) tNil)))) σ G M (isP (OthF K [(q, cs), (q', cs'), (q'', cs'')]) M3) := fun G1 H F e m Q k =>
  ea_cons (ev_pr h1 h2) (ea_cons (ev_pr h3 h4) (ea_cons (ev_pr h5 h6) ea_nil)) G1 H F e m _ fun vs G2 H2 e2 m2 a => by
      obtain ⟨v, w, u, rfl, p1, p2, p3⟩ := allP3 a
      refine ⟨Nat.le_of_lt (small1000 (by show 3 ≤ 1000; decide)), fun p hp => ?_⟩
      have g2 := m2.free hp
      refine k _ _ _ _ (e2.trans (Ex.new g2)) (m2.newF hp) ⟨othF_of (SqL.of upd_same) (by show _ ≤ 1000; simp) fun x hx => ?_, rfl⟩
      rcases List.mem_cons.mp hx with rfl | hx
      · exact ⟨q, cs, List.mem_cons_self, Mono.mono _ _ _ (Ex.new g2) p1⟩
      · rcases List.mem_cons.mp hx with rfl | hx
        · exact ⟨q', cs', by simp, Mono.mono _ _ _ (Ex.new g2) p2⟩
        · cases List.mem_singleton.mp hx
          exact ⟨q'', cs'', by simp, Mono.mono _ _ _ (Ex.new g2) p3⟩
end
end SX
namespace SX
open PySem PySem.Spec L2
section
variable {K : PySem.W.Frag} {C : Addr} {σ : L2.St} {G : Hp} {M M1 M2 M3 M4 : Mem} {P : Po} {tA : TA} {E : XK} {ta tb tc td te tf : TE} {t u : TS}
theorem kept_same {n : Nat} {d : PyData} : kept n (fun _ => true) (fun _ => d) = List.replicate n d := by
  rw [kept_all]
  apply List.ext_getElem?
  intro k
  by_cases hk : k < n
  · rw [List.getElem?_map, List.getElem?_range hk, List.getElem?_replicate, if_pos hk]
    rfl
  · rw [List.getElem?_eq_none (by simp; omega), List.getElem?_eq_none (by simp; omega)]
theorem ev_join {p q : Addr} {b r b' r' : Int} {cs cs' : List (List Int)} (h : EvA tA σ G M [fun _ v => v = .ref p, fun _ v => v = .ref q] M1) (hS : ShAt K C G M1 p b r cs) (hT : ShAt K C G M1 q b' r' cs') (g : GoodSh b r cs) (g' : GoodSh b' r' cs') (hl : cs.length + cs'.length ≤ 10000) (hn : ¬ (b = b' ∧ r = r')) :
    Ev (tCall (spec (joinPre K C) (joinPost K)) [] E tA) σ G M (isD K (.list [.bool true, .bool true, .bool false]) M1) :=
  ev_call ((p, b, r, cs), q, b', r', cs') h fun G1 vs e a => by
    obtain ⟨v, w, rfl, p1, p2⟩ := allP2 a
    subst p1 p2
    exact ⟨⟨rfl, hS.ex e, hT.ex e, g, g', hl⟩, hn⟩
theorem eqv_ttf : PyData.eqv (.list [.bool true, .bool true, .bool false]) (.list [.bool true, .bool true, .bool false]) = true := by decide +kernel
theorem sh_ttf : SeqAt.shaped (.list [.bool true, .bool true, .bool false]) = true := by decide +kernel
/-- if not f(..): .. , where f says True and leaves what is not named -/
theorem sv_ifN {R' : Mem → Prop} (h : Ev te σ G M (fun _ v M' => v = .bl true ∧ R' M')) (k : ∀ G' M', Ex G G' → R' M' → Sv E u σ G' M' P) : Sv E (tIfS (tNot (tB te)) t u) σ G M P := fun G1 H F D e m hd =>
  h G1 H F e m _ fun v G2 M2 H2 e2 m2 r => by
    obtain ⟨rfl, r'⟩ := r
    refine ⟨true, rfl, ?_⟩
    show (if (!true) = true then _ else _)
    rw [if_neg (by decide)]
    exact k G2 M2 (e.trans e2) r' G2 H2 F D (Ex.refl _) m2 (hd.up e2)
theorem allP5' {P1 P2 P3 P4 P5 : Hp → V → Prop} : ∀ {vs : List V}, AllP G [P1, P2, P3, P4, P5] vs → ∃ v w u x y, vs = [v, w, u, x, y] ∧ P1 G v ∧ P2 G w ∧ P3 G u ∧ P4 G x ∧ P5 G y := allP5
theorem ev_part {post : PartS → Mem → Post} (x : PartS) (h : EvA tA σ G M [fun _ v => v = .ref x.dk, fun _ v => v = .ref x.p, fun G v => Dp K G v (.list (x.cs.map colD)), fun _ v => v = .int x.b, fun _ v => v = .int x.r] M1) (hi : M1[x.i]? = some (x.dk, x.D.ho)) (hS : ∀ o, ShAt K C G (M1.set x.i (x.dk, o)) x.p x.b x.r x.cs) (g : GoodSh x.b x.r x.cs) (hn : x.cs.length ≤ 1000) :
    Ev (tCall (spec (partPre K C) post) [] E tA) σ G M (post x M1) :=
  ev_call x h fun G1 vs e a => by
    obtain ⟨v1, v2, v3, v4, v5, rfl, p1, p2, p3, p4, p5⟩ := allP5 a
    subst p1 p2 p4 p5
    exact ⟨v3, rfl, hi, fun o => (hS o).ex e, p3, g, hn⟩
theorem ev_catD {ds es : List PyData} (h1 : Ev ta σ G M (isD K (.list ds) M1)) (h2 : Ev tb σ G M1 (isD K (.list es) M2)) (hl : ds.length + es.length ≤ 100000) :
    Ev (tOp (rCatS K) ta tb) σ G M (own K (ds ++ es) M2) :=
  ev_op h1 h2 fun G1 H F x' y' e m p1 p2 Q k => by
    obtain ⟨p, xs, rfl, hx, dx⟩ := dp_lst p1
    obtain ⟨q, ys, rfl, hy, dy⟩ := dp_lst p2
    refine ⟨p, q, xs, ys, rfl, rfl, ex_l m.ex hx, ex_l m.ex hy, ?_, fun l hl => k _ G1 _ _ (Ex.refl _) (m.newMid hl) ⟨l, xs ++ ys, rfl, rfl, dpa_app dx dy⟩⟩
    rw [dpa_len dx, dpa_len dy]
    exact Nat.le_of_lt (sz_ok hl)
theorem ev_pow {b : Int} {n : Nat} (h : EvA tA σ G M [fun _ v => v = .int b, fun _ v => v = .int (n : Int)] M1) (hb : -(2 ^ 64) < b ∧ b < 2 ^ 64) (hn : n ≤ 100000) : Ev (tCall (spec powPre powPost) [] E tA) σ G M (isV (.int (b ^ n)) M1) :=
  ev_call (b, n) h fun G1 vs e a => by
    obtain ⟨v, w, rfl, p1, p2⟩ := allP2 a
    subst p1 p2
    exact ⟨rfl, hb, hn⟩
theorem pow_bd {b : Int} {n : Nat} (h0 : 0 ≤ b) (h1 : b ≤ 12) : 0 ≤ b ^ n ∧ b ^ n ≤ 16 ^ n := by
  induction n with
  | zero => simp
  | succ n ih =>
    rw [Int.pow_succ, Int.pow_succ]
    exact ⟨Int.mul_nonneg ih.1 h0, Int.mul_le_mul ih.2 (by omega) h0 (Int.le_trans ih.1 ih.2)⟩
theorem p16 (n : Nat) : (16 : Int) ^ n = ((2 ^ (4 * n) : Nat) : Int) := by
  rw [Nat.pow_mul]
  norm_cast
theorem pow_wide {b : Int} {n : Nat} (h0 : 0 ≤ b) (h1 : b ≤ 12) : (b ^ n).natAbs < 2 ^ (4 * n + 1) := by
  have := pow_bd (n := n) h0 h1
  rw [p16] at this
  rw [Nat.pow_succ]
  have : 0 < 2 ^ (4 * n) := Nat.two_pow_pos _
  omega
theorem horner_bd {b : Int} (h0 : 0 ≤ b) (h1 : b ≤ 12) : ∀ (l : List Int), (∀ f ∈ l, 0 ≤ f ∧ f ≤ 48) → 0 ≤ horner b l 0 ∧ horner b l 0 ≤ 48 * (16 ^ l.length - 1)
  | [], _ => by simp [horner]
  | f :: l, h => by
    have ih := horner_bd h0 h1 l fun g hg => h g (List.mem_cons_of_mem _ hg)
    have hf := h f List.mem_cons_self
    have e : horner b (f :: l) 0 = horner b l 0 * b + f := rfl
    rw [e, List.length_cons, Int.pow_succ]
    have a1 : 0 ≤ horner b l 0 * b := Int.mul_nonneg ih.1 h0
    have a2 : horner b l 0 * b ≤ horner b l 0 * 12 := Int.mul_le_mul_of_nonneg_left h1 ih.1
    have a3 : (0 : Int) ≤ 16 ^ l.length - 1 := by
      have := ih.1
      have := ih.2
      omega
    omega
theorem value_wide {b r : Int} {cs : List (List Int)} (g : GoodSh b r cs) : (valueOf b cs).natAbs < 2 ^ (4 * cs.length + 6) := by
  have gb := g.b2
  have gb' := g.b12
  have gr := g.r4
  have := horner_bd (b := b) (by omega) gb' (cs.map List.sum) (fun f hf => by
    obtain ⟨c, hc, rfl⟩ := List.mem_map.mp hf
    have h1 := sum_lo (g.col c hc).2
    have h2 := (g.col c hc).1
    have : (c.length : Int) * b ≤ 4 * 12 := Int.mul_le_mul (by omega) gb' (by omega) (by decide)
    omega)
  rw [List.length_map, p16] at this
  have e : 2 ^ (4 * cs.length + 6) = 2 ^ (4 * cs.length) * 64 := Nat.pow_add _ _ _
  have hp : 0 < 2 ^ (4 * cs.length) := Nat.two_pow_pos _
  unfold valueOf
  rw [e]
  omega
end
end SX

set_option Elab.async false
set_option linter.all false
set_option maxRecDepth 100000
/-! SXl: tuples cut and joined, values unpacked, lists of owned lists; columns set, good or not. -/
namespace SX
open PySem PySem.Spec L2
theorem k_catA {X : Cx} {K : PySem.W.Frag} (hK : X.K = K) : OpR X (binaryOp .Add) (rCatA K) := hK ▸ op_catA
theorem k_slA {X : Cx} {K : PySem.W.Frag} (hK : X.K = K) : SlR X (rSlA K) := hK ▸ sl_tupA
section
variable {E : XK} {K : PySem.W.Frag} {σ : L2.St} {G G' H : Hp} {M M1 M2 M3 F : Mem} {R : Post} {P P' : Po} {te ta tb : TE} {tt tu : TT} {t u : TS} {x y z v : V} {d e : PyData} {ds es : List PyData} {a b : Bool} {P1 P2 : Hp → V → Prop} {C : Addr} {Ps : List (Hp → V → Prop)}
theorem dpa_nil {xs : List V} (h : DpAll K G xs []) : xs = [] := by cases h; rfl
theorem dpa_set : ∀ {xs : List V} {ds : List PyData} {i : Nat}, DpAll K G xs ds → Dp K G x d → DpAll K G (xs.set i x) (ds.set i d)
  | _, [], _, h, _ => by cases h; exact .nil
  | _, e :: ds, 0, h, hd => by
    cases h with
    | cons _ h2 => exact .cons hd h2
  | _, e :: ds, i + 1, h, hd => by
    cases h with
    | cons h1 h2 => exact .cons h1 (dpa_set (i := i) h2 hd)
theorem ev_catT (h1 : Ev ta σ G M (isD K (.tuple ds) M1)) (h2 : Ev tb σ G M1 (isD K (.tuple es) M2)) (hl : ds.length + es.length ≤ 100000) : Ev (tOp (rCatA K) ta tb) σ G M (isD K (.tuple (ds ++ es)) M2) :=
  ev_op h1 h2 fun G1 H F x' y' ex m p1 p2 Q k => by
    obtain ⟨p, xs, rfl, hx, dx⟩ := dp_tup p1
    obtain ⟨q, ys, rfl, hy, dy⟩ := dp_tup p2
    refine ⟨p, q, xs, ys, rfl, rfl, ex_t m.ex hx, ex_t m.ex hy, ?_, fun z => ?_, fun _ z => ?_, fun _ _ l hl => ?_⟩
    · rw [dpa_len dx, dpa_len dy]
      exact Nat.le_of_lt (sz_ok hl)
    · subst z
      have : ds = [] := List.length_eq_zero_iff.mp (by rw [← dpa_len dx]; rfl)
      subst this
      exact k _ G1 _ _ (Ex.refl _) m ⟨p2, rfl⟩
    · subst z
      have : es = [] := List.length_eq_zero_iff.mp (by rw [← dpa_len dy]; rfl)
      subst this
      rw [List.append_nil] at k
      exact k _ G1 _ _ (Ex.refl _) m ⟨p1, rfl⟩
    · have g1 := m.free hl
      exact k _ _ _ _ (Ex.new g1) (m.newF hl) ⟨.tup (SqT.of upd_same) (dma (dpa_app dx dy) (Ex.new g1)), rfl⟩
theorem ev_slT {tl th : TO} {lo hi : Option Int} (h : Ev te σ G M (isD K (.tuple ds) M1)) (hl : EvO tl σ G M1 lo M1) (hh : EvO th σ G M1 hi M1) : Ev (tSl (rSlA K) te tl th) σ G M (isD K (.tuple (cutD ds lo hi)) M1) := fun G1 H F e m Q q =>
  h G1 H F e m _ fun v G2 M2 H2 e2 m2 r => by
    obtain ⟨dv, rfl⟩ := r
    refine hl G2 H2 F (e.trans e2) m2 _ fun G3 H3 e3 m3 => hh G3 H3 F ((e.trans e2).trans e3) m3 _ fun G4 H4 e4 m4 => ?_
    obtain ⟨a, xs, rfl, hs, ha⟩ := dp_tup (dm dv (e3.trans e4))
    refine ⟨a, xs, rfl, ex_t m4.ex hs, fun z => ?_, fun _ p hp => ?_⟩
    · have hc : cutD ds lo hi = ds := by
        unfold cutD
        rw [← dpa_len ha, z.1, z.2, List.drop_zero, Nat.sub_zero, List.take_of_length_le (by rw [dpa_len ha]; exact Nat.le_refl _)]
      rw [hc] at q
      exact q _ G4 _ _ ((e2.trans e3).trans e4) m4 ⟨.tup hs ha, rfl⟩
    · have g1 := m4.free hp
      exact q _ _ _ _ (((e2.trans e3).trans e4).trans (Ex.new g1)) (m4.newF hp) ⟨.tup (SqT.of upd_same) (dma (dpa_cut ha lo hi) (Ex.new g1)), rfl⟩
theorem cutD_drop {ds : List PyData} {n : Nat} : cutD ds (some (n : Int)) none = ds.drop n := by
  unfold cutD
  rw [HT.sIx_none, show HT.sIx ds.length 0 (some (n : Int)) = min n ds.length from HT.sIx_nat _ _ _]
  by_cases h : n ≤ ds.length
  · rw [Nat.min_eq_left h, List.take_of_length_le (by rw [List.length_drop]; exact Nat.le_refl _)]
  · rw [Nat.min_eq_right (by omega), List.drop_of_length_le (Nat.le_refl _), List.drop_of_length_le (by omega), List.take_nil]
/-- tuple(..) of a list at an address -/
theorem ev_tupA {p : Addr} {xs : List V} (h : Ev ta σ G M (isV (.ref p) M1)) (hl : AtL K G M1 p xs) (hd : DpAll K G xs ds) : Ev (tCB (rTupS K) (tCons ta tNil)) σ G M (isD K (.tuple ds) M1) :=
  ev_CB (Ps := [fun _ v => v = .ref p]) (ea_cons h ea_nil) fun G1 H F vs e m p' Q q => by
    match vs, p' with
    | [v], ⟨p1, _⟩ =>
      subst p1
      refine ⟨p, xs, rfl, .inl ⟨hl G1 H F e m, fun l hl' => ?_⟩⟩
      have g1 := m.free hl'
      exact q _ _ _ _ (Ex.new g1) (m.newF hl') ⟨.tup (SqT.of upd_same) (dma (dma hd e) (Ex.new g1)), rfl⟩
/-- a, b = data -/
theorem sv_unp2 {i j : Nat} (h : Ev te σ G M (isD K (.tuple [d, e]) M1)) (k : ∀ x y G', Ex G G' → Dp K G' x d → Dp K G' y e → Sv E u ((σ.set i (some x)).set j (some y)) G' M1 P) : Sv E (tSeq (tAsg te (gTup K 2 (gCons (gName i) (gCons (gName j) gNil)))) u) σ G M P := fun G1 H F D ex m hd =>
  h G1 H F ex m _ fun v G2 M2 H2 e2 m2 r => by
    obtain ⟨dv, rfl⟩ := r
    obtain ⟨a, xs, rfl, hs, ha⟩ := dp_tup dv
    cases ha with
    | cons h1 h2 =>
      cases h2 with
      | cons h2 h3 =>
        cases h3
        exact ⟨a, _, rfl, ex_t m2.ex hs, rfl, _, _, rfl, _, _, rfl, rfl, k _ _ G2 (ex.trans e2) h1 h2 G2 H2 F D (Ex.refl _) m2 (hd.up e2)⟩
theorem sv_tgP {i j : Nat} {tb : TS} {t : Addr} {q c : V} (ht : SqT K G t [q, c]) (h : Sv E tb ((σ.set i (some q)).set j (some c)) G M P) : Sv E (tTgt (gTup K 2 (gCons (gName i) (gCons (gName j) gNil))) (.ref t) tb) σ G M P := fun G1 H F D e m hd =>
  ⟨t, _, rfl, ex_t m.ex (ex_t e ht), rfl, _, _, rfl, _, _, rfl, rfl, h G1 H F D e m hd⟩
/-- what is owned and not needed is forgotten -/
theorem sv_sub {M' : Mem} (hs : M'.Sublist M) (h : Sv E t σ G M' P) : Sv E t σ G M P := fun G1 H F D e m hd => h G1 H F D e (m.sub (hs.append_right F)) hd
/-- [.. for i in range(n)], each a new list, owned -/
def memL (as : List Addr) (xss : List (List V)) : Mem := (as.zip xss).map fun x => (x.1, HO.lst x.2)
theorem ev_lcRO {own' : List Nat} {k : Nat} {tn : TA} {nn : Int} {ds : List PyData} (hs : EvA tn σ G M [fun _ v => v = .int nn] M) (hn : nn ≤ 100000) (hn0 : -100000 ≤ nn)
    (he : ∀ (i : Nat) G' Mx, i < nn.toNat → Ex G G' → Ev te ((wipe σ own').set k (some (.int (0 + (i : Int))))) G' (M ++ Mx) (own K ds (M ++ Mx)))
    (hw : ∀ x, wipe ((wipe σ own').set k (some x)) own' = wipe σ own') :
    Ev (tLc (iRng1 tn) (gName k) tYes te own') σ G M (fun G1 v M' => ∃ p as xss, v = .ref p ∧ G1 p = some (.lst (as.map V.ref)) ∧ as.length = nn.toNat ∧ xss.length = nn.toNat ∧ M' = M ++ memL as xss ∧ ∀ xs ∈ xss, DpAll K G1 xs ds) := fun G1 H F e m Q q =>
  hs G1 H F e m _ fun vs0 G2 H2 e2 m2 r2 => by
    match vs0, r2 with
    | [v], r2 =>
    obtain ⟨rfl, _⟩ := r2
    refine ⟨nn, rfl, by omega, by omega, fun D hD => lc_range (lo := 0) (n := nn.toNat) (fun i H' => ∃ G' as xss, Ex G2 G' ∧ Me G' ((M ++ memL as xss) ++ (D, .lst (as.map V.ref)) :: F) H' ∧ as.length = i ∧ xss.length = i ∧ ∀ xs ∈ xss, DpAll K G' xs ds) ?_ ?_ ?_⟩
    · refine ⟨G2, [], [], Ex.refl _, ?_, rfl, rfl, fun _ h => by cases h⟩
      show Me G2 ((M ++ []) ++ (D, .lst []) :: F) _
      rw [List.append_nil, mem_mid]
      exact m2.newMid hD
    · rintro i H' hi ⟨G', as, xss, e', m', ha, hx, hd⟩
      refine ⟨hw _, (et_yes : EvT tYes ((wipe σ own').set k (some (.int (0 + (i : Int))))) G' (M ++ memL as xss) true (M ++ memL as xss)) G' H' _ (Ex.refl _) m' _ fun G3 H3 e3 m3 => ?_⟩
      rw [if_pos rfl]
      refine he i G3 (memL as xss) hi (((e.trans e2).trans e').trans e3) G3 H3 _ (Ex.refl _) m3 _ fun y G4 M4 H4 e4 m4 r4 => ?_
      obtain ⟨p, vs, rfl, rfl, dp⟩ := r4
      have hm : (((M ++ memL as xss) ++ [(p, HO.lst vs)]) ++ (D, HO.lst (as.map V.ref)) :: F)[((M ++ memL as xss) ++ [(p, HO.lst vs)]).length]? = some (D, .lst (as.map V.ref)) := by
        rw [List.getElem?_append_right (Nat.le_refl _), Nat.sub_self]
        rfl
      refine ⟨as.map V.ref, m4.get hm, by rw [List.length_map, ha]; exact sz_ok (by omega), G4, as ++ [p], xss ++ [vs], (e'.trans e3).trans e4, ?_, by simp [ha], by simp [hx], fun xs h => ?_⟩
      · have := m4.put (o' := .lst (as.map V.ref ++ [.ref p])) hm
        rw [List.set_append_right _ _ (Nat.le_refl _), Nat.sub_self] at this
        have hz : memL (as ++ [p]) (xss ++ [vs]) = memL as xss ++ [(p, .lst vs)] := by
          unfold memL
          rw [List.zip_append (by rw [ha, hx]), List.map_append]
          rfl
        rw [hz, List.map_append, ← List.append_assoc]
        exact this
      · rcases List.mem_append.mp h with h | h
        · exact dma (hd xs h) (e3.trans e4)
        · cases List.mem_singleton.mp h
          exact dp
    · rintro H' ⟨G', as, xss, e', m', ha, hx, hd⟩
      rw [mem_mid] at m'
      obtain ⟨m3, e3⟩ := m'.freezeLast
      exact q _ _ _ H' ((e2.trans e').trans e3) m3 ⟨D, as, xss, rfl, upd_same, ha, hx, rfl, fun xs h => dma (hd xs h) e3⟩
end
/-! what is worth setting -/
abbrev lcolGPost (K : PySem.W.Frag) : (Addr × Nat × Deck × Int × Int) → Mem → Post := fun x M => isD K (colD (drawsV x.2.2.1 x.2.2.2.1 x.2.2.2.2.toNat)) (M.set x.2.1 (x.1, (drawsD x.2.2.1 x.2.2.2.1 x.2.2.2.2.toNat).ho))
theorem ev_lcolG {K : PySem.W.Frag} {σ : L2.St} {G : Hp} {M M1 : Mem} {tA : TA} {E : XK} {dk : Addr} {D : Deck} {b r : Int} (i : Nat) (h : EvA tA σ G M [fun _ v => v = .ref dk, fun _ v => v = .int b, fun _ v => v = .int r] M1) (hi : M1[i]? = some (dk, D.ho)) (b0 : 0 < b) (b1 : b < 2 ^ 200) (r0 : 0 ≤ r) (r1 : r ≤ 1000) :
    Ev (tCall (spec lcolPre (lcolGPost K)) [] E tA) σ G M (isD K (colD (drawsV D b r.toNat)) (M1.set i (dk, (drawsD D b r.toNat).ho))) :=
  ev_call (dk, i, D, b, r) h fun G1 vs e a => by
    obtain ⟨v, w, u, rfl, p1, p2, p3⟩ := allP3 a
    subst p1 p2 p3
    exact ⟨rfl, b0, b1, r0, r1, hi⟩
theorem drawsV_good {D : Deck} {b r : Int} (hb : 0 < b) (hr : 0 ≤ r) : GoodCol b r (drawsV D b r.toNat) := ⟨by rw [drawsV_len]; omega, drawsV_mem hb⟩
def bads (b : Int) : List PyData := [.int b, .int (-1), .bool true, .bool false, .none, .str "1", .int (b + 10 ^ (20 : Int).toNat)]
theorem bads_no {b : Int} {n : Nat} : isWhole ((bads b)[n]?.getD .none) 0 (b - 1) = false := by
  have h1 : isWhole (.int b) 0 (b - 1) = false := by
    have : decide (b ≤ b - 1) = false := decide_eq_false (by omega)
    show (true && (decide (0 ≤ b) && decide (b ≤ b - 1))) = false
    rw [this]
    simp
  have h2 : isWhole (.int (b + 10 ^ (20 : Int).toNat)) 0 (b - 1) = false := by
    have : decide (b + 10 ^ (20 : Int).toNat ≤ b - 1) = false := decide_eq_false (by
      have : (10 : Int) ^ (20 : Int).toNat = 100000000000000000000 := by decide
      omega)
    show (true && (_ && decide (b + 10 ^ (20 : Int).toNat ≤ b - 1))) = false
    rw [this]
    simp
  match n with
  | 0 => exact h1
  | 1 => rfl
  | 2 => rfl
  | 3 => rfl
  | 4 => rfl
  | 5 => rfl
  | 6 => exact h2
  | n + 7 => rfl
def wDk (D : Deck) (b r : Int) : Deck := drawsD (dn D 14) b r.toNat
def wCol (D : Deck) (b r : Int) : List Int := drawsV (dn D 14) b r.toNat
def worthV (D : Deck) (b r : Int) : Bool × PyData :=
  if dv D 14 < 7 then (false, .tuple (((wCol D b r).map .int).set (dv (wDk D b r) r).toNat ((bads b)[(dv D 14).toNat]?.getD .none)))
  else if dv D 14 = 7 then (false, .tuple ((wCol D b r).map .int ++ [.int 0]))
  else if dv D 14 = 8 then (false, .tuple (((wCol D b r).map .int).drop 1))
  else if dv D 14 = 9 then (false, .list ((wCol D b r).map .int))
  else (true, colD (wCol D b r))
theorem isCol_worth {D : Deck} {b r : Int} (hb : 0 < b) (hr : 1 ≤ r) : isCol b r (worthV D b r).2 = (worthV D b r).1 := by
  have g : GoodCol b r (wCol D b r) := drawsV_good hb (by omega)
  have hl := g.1
  unfold worthV
  split
  · have q0 : 0 ≤ dv (wDk D b r) r := dv_lo (by omega)
    have q1 : dv (wDk D b r) r < r := dv_hi (by omega)
    show (decide _ && _) = false
    rw [Bool.and_eq_false_iff]
    refine .inr ?_
    rw [List.all_eq_false]
    refine ⟨(bads b)[(dv D 14).toNat]?.getD .none, List.mem_of_getElem? (i := (dv (wDk D b r) r).toNat) ?_, by rw [bads_no]; decide⟩
    rw [List.getElem?_set_self (by rw [List.length_map]; omega)]
  · split
    · show (decide _ && _) = false
      rw [decide_eq_false, Bool.false_and]
      rw [List.length_append, List.length_map]
      simp only [List.length_cons, List.length_nil]
      omega
    · split
      · show (decide _ && _) = false
        rw [decide_eq_false, Bool.false_and]
        rw [List.length_drop, List.length_map]
        omega
      · split
        · rfl
        · exact isCol_good g
theorem dlen_worth {D : Deck} {b r : Int} (hb : 0 < b) (hr : 1 ≤ r) (h4 : r ≤ 4) : dlen (worthV D b r).2 ≤ 5 := by
  have g : GoodCol b r (wCol D b r) := drawsV_good hb (by omega)
  have hl := g.1
  unfold worthV
  split
  · simp only [dlen, List.length_set, List.length_map]
    omega
  · split
    · simp only [dlen, List.length_append, List.length_map, List.length_cons, List.length_nil]
      omega
    · split
      · simp only [dlen, List.length_drop, List.length_map]
        omega
      · split
        · simp only [dlen, List.length_map]
          omega
        · rw [dlen_colD]
          omega
abbrev lworthPost (K : PySem.W.Frag) : (Addr × Nat × Deck × Int × Int) → Mem → Post := fun x M => isD K (.tuple [.bool (worthV x.2.2.1 x.2.2.2.1 x.2.2.2.2).1, (worthV x.2.2.1 x.2.2.2.1 x.2.2.2.2).2]) (M.set x.2.1 (x.1, (dn (wDk x.2.2.1 x.2.2.2.1 x.2.2.2.2) x.2.2.2.2).ho))
abbrev lworthPre : (Addr × Nat × Deck × Int × Int) → Hp → Mem → List V → Prop := fun x G M vs => vs = [.ref x.1, .int x.2.2.2.1, .int x.2.2.2.2] ∧ (2 ≤ x.2.2.2.1 ∧ x.2.2.2.1 ≤ 12) ∧ (1 ≤ x.2.2.2.2 ∧ x.2.2.2.2 ≤ 4) ∧ M[x.2.1]? = some (x.1, x.2.2.1.ho)
/-- a try to set -/
abbrev ltryPost (K : PySem.W.Frag) : SetS → Mem → Post := fun x M G v M' => (isCol x.b x.r x.d = true ∧ Dp K G v (.list []) ∧ ∃ y, Dp K G y x.d ∧ M' = M.set x.n (x.l, .lst (x.xs.set x.j y))) ∨ (isCol x.b x.r x.d = false ∧ Dp K G v (.list [.bool true, .bool true, .bool false]) ∧ M' = M)
end SX
namespace SX
open PySem PySem.Spec L2
section
variable {K : PySem.W.Frag} {C : Addr} {σ : L2.St} {G G' : Hp} {M M1 M2 Mx : Mem} {P : Po} {tA : TA} {E : XK} {ta tb tc td te tf : TE} {t u : TS}
theorem ev_areX {fs cs : List (List Int)} {b : Addr} (h : EvA tA σ G M [fun G v => Dp K G v (.list (fs.map colD)), fun _ v => v = .ref b] M1) (hC : ColsAt K G M1 b cs) (l1 : fs.length ≤ 100000) (l2 : cs.length ≤ 100000) (l3 : ∀ c ∈ fs, c.length ≤ 100000) :
    Ev (tCall (spec (arePre K) arePost) [] E tA) σ G M (isV (.bl (decide (fs = cs))) M1) :=
  ev_callD h fun G1 vs ex p => by
    obtain ⟨v, u, rfl, p1, p2⟩ := allP2 p
    subst p2
    obtain ⟨a, xs, rfl, _⟩ := dp_lst p1
    exact ⟨(a, b, fs, cs), ⟨rfl, .of p1, hC.up ex, l1, l2, l3⟩, fun _ _ _ _ r => r⟩
abbrev right3Pre (K : PySem.W.Frag) (C : Addr) : ((Addr × Addr × Int × Int × List (List Int)) × Int) → Hp → Mem → List V → Prop := fun x G M vs => vs = [.ref x.1.1, .int x.1.2.2.1, .ref x.1.2.1, .int x.2] ∧ ShAt K C G M x.1.1 x.1.2.2.1 x.1.2.2.2.1 x.1.2.2.2.2 ∧ ColsAt K G M x.1.2.1 x.1.2.2.2.2 ∧ GoodSh x.1.2.2.1 x.1.2.2.2.1 x.1.2.2.2.2
abbrev right3Post : ((Addr × Addr × Int × Int × List (List Int)) × Int) → Mem → Post := fun _ M => isV (.bl true) M
theorem allP4 {P1 P2 P3 P4 : Hp → V → Prop} : ∀ {vs : List V}, AllP G [P1, P2, P3, P4] vs → ∃ v w u x, vs = [v, w, u, x] ∧ P1 G v ∧ P2 G w ∧ P3 G u ∧ P4 G x
  | [v, w, u, x], ⟨a, b, c, d, _⟩ => ⟨v, w, u, x, rfl, a, b, c, d⟩
theorem ev_right3 {p a : Addr} {b r t : Int} {cs : List (List Int)} (h : EvA tA σ G M [fun _ v => v = .ref p, fun _ v => v = .int b, fun _ v => v = .ref a, fun _ v => v = .int t] M1) (hS : ShAt K C G M1 p b r cs) (hC : ColsAt K G M1 a cs) (g : GoodSh b r cs) :
    Ev (tCall (spec (right3Pre K C) right3Post) [] E tA) σ G M (isV (.bl true) M1) :=
  ev_call ((p, a, b, r, cs), t) h fun G1 vs e q => by
    obtain ⟨v1, v2, v3, v4, rfl, p1, p2, p3, p4⟩ := allP4 q
    subst p1 p2 p3 p4
    exact ⟨rfl, hS.ex e, hC.up e, g⟩
theorem at4 (f : Nat → V) (z : Int) : atI [f 0, f 1, f 2, f 3] (z % 4) = some (f (z % 4).toNat) := by
  have h0 : 0 ≤ z % 4 := Int.emod_nonneg _ (by decide)
  have h1 : z % 4 < 4 := Int.emod_lt_of_pos _ (by decide)
  generalize z % 4 = w at h0 h1
  have : w = 0 ∨ w = 1 ∨ w = 2 ∨ w = 3 := by omega
  rcases this with rfl | rfl | rfl | rfl <;> rfl
theorem at4' (f : Nat → V) (z : Int) (h0 : 0 ≤ z) (h1 : z < 4) : atI [f 0, f 1, f 2, f 3] z = some (f z.toNat) := by
  have : z = 0 ∨ z = 1 ∨ z = 2 ∨ z = 3 := by omega
  rcases this with rfl | rfl | rfl | rfl <;> rfl
structure AllS where
  sa : Addr
  ea : Addr
  P : Nat → Addr
  A : Nat → Addr
  CS : Nat → List (List Int)
  b : Int
  r : Int
  start : Int
  t : Int
abbrev allRPre (K : PySem.W.Frag) (C : Addr) : AllS → Hp → Mem → List V → Prop := fun x G M vs => vs = [.ref x.sa, .int x.b, .ref x.ea, .int x.start, .int x.t] ∧ AtL K G M x.sa [.ref (x.P 0), .ref (x.P 1), .ref (x.P 2), .ref (x.P 3)] ∧ AtL K G M x.ea [.ref (x.A 0), .ref (x.A 1), .ref (x.A 2), .ref (x.A 3)] ∧
  (∀ k, k < 4 → ShAt K C G M (x.P k) x.b x.r (x.CS k) ∧ ColsAt K G M (x.A k) (x.CS k) ∧ GoodSh x.b x.r (x.CS k))
abbrev allRPost : AllS → Mem → Post := fun _ M => isV (.bl true) M
theorem ev_allR4 (x : AllS) (h : EvA tA σ G M [fun _ v => v = .ref x.sa, fun _ v => v = .int x.b, fun _ v => v = .ref x.ea, fun _ v => v = .int x.start, fun _ v => v = .int x.t] M1) (h1 : AtL K G M1 x.sa [.ref (x.P 0), .ref (x.P 1), .ref (x.P 2), .ref (x.P 3)]) (h2 : AtL K G M1 x.ea [.ref (x.A 0), .ref (x.A 1), .ref (x.A 2), .ref (x.A 3)])
    (h3 : ∀ k, k < 4 → ShAt K C G M1 (x.P k) x.b x.r (x.CS k) ∧ ColsAt K G M1 (x.A k) (x.CS k) ∧ GoodSh x.b x.r (x.CS k)) : Ev (tCall (spec (allRPre K C) allRPost) [] E tA) σ G M (isV (.bl true) M1) :=
  ev_call x h fun G1 vs e q => by
    obtain ⟨v1, v2, v3, v4, v5, rfl, p1, p2, p3, p4, p5⟩ := allP5 q
    subst p1 p2 p3 p4 p5
    exact ⟨rfl, h1.ex e, h2.ex e, fun k hk => ⟨(h3 k hk).1.ex e, (h3 k hk).2.1.up e, (h3 k hk).2.2⟩⟩
/-- [p0, p1, a new sheet, a new sheet] -/
theorem ev_lst4 {t0 t1 t2 t3 : TE} {p0 p1 : Addr} {b r : Int} {cs2 cs3 : List (List Int)} (h0 : Ev t0 σ G M (isV (.ref p0) M)) (h1 : Ev t1 σ G M (isV (.ref p1) M)) (h2 : Ev t2 σ G M (newSh K C b r cs2 M)) (h3 : ∀ G' x, Ex G G' → Ev t3 σ G' (M ++ [x]) (newSh K C b r cs3 (M ++ [x]))) :
    Ev (tLst (tCons t0 (tCons t1 (tCons t2 (tCons t3 tNil))))) σ G M (fun G v M' => ∃ sa p2 dx2 l2 y2 p3 dx3 l3 y3, v = .ref sa ∧ G sa = some (.lst [.ref p0, .ref p1, .ref p2, .ref p3]) ∧ G p2 = some (.ins C dx2 (shF (.int b) (.int r) (.ref l2))) ∧ G p3 = some (.ins C dx3 (shF (.int b) (.int r) (.ref l3))) ∧
      M' = M ++ [(l2, .lst y2), (l3, .lst y3)] ∧ DpAll K G y2 (cs2.map colD) ∧ DpAll K G y3 (cs3.map colD)) := fun G1 H F e m Q q =>
  h0 G1 H F e m _ fun v G2 M2 H2 e2 m2 r => by
    obtain ⟨rfl, rfl⟩ := r
    refine h1 G2 H2 F (e.trans e2) m2 _ fun v G3 M3 H3 e3 m3 r => ?_
    obtain ⟨rfl, rfl⟩ := r
    refine h2 G3 H3 F ((e.trans e2).trans e3) m3 _ fun v G4 M4 H4 e4 m4 r => ?_
    obtain ⟨p2, dx2, l2, y2, rfl, hp2, rfl, hd2⟩ := r
    refine h3 G4 _ (((e.trans e2).trans e3).trans e4) G4 H4 F (Ex.refl _) m4 _ fun v G5 M5 H5 e5 m5 r => ?_
    obtain ⟨p3, dx3, l3, y3, rfl, hp3, rfl, hd3⟩ := r
    refine ⟨Nat.le_of_lt (small1000 (by show 4 ≤ 1000; decide)), fun sa hsa => ?_⟩
    have g1 := m5.free hsa
    have e6 := Ex.new (o := .lst [.ref p0, .ref p1, .ref p2, .ref p3]) g1
    refine q _ _ _ _ ((((e2.trans e3).trans e4).trans e5).trans e6) (m5.newF hsa) ⟨sa, p2, dx2, l2, y2, p3, dx3, l3, y3, rfl, upd_same, (e5.trans e6) _ _ hp2, e6 _ _ hp3, by simp, dma hd2 (e5.trans e6), dma hd3 e6⟩
/-! what four sheets own -/
def mem9 (L A : Nat → Addr) (X Z : Nat → List V) (hl : Addr) (hs : List V) : Mem := [(L 0, .lst (X 0)), (L 1, .lst (X 1)), (L 2, .lst (X 2)), (L 3, .lst (X 3)), (A 0, .lst (Z 0)), (A 1, .lst (Z 1)), (A 2, .lst (Z 2)), (A 3, .lst (Z 3)), (hl, .lst hs)]
def up {α : Type} (f : Nat → α) (k : Nat) (v : α) : Nat → α := fun j => if j = k then v else f j
variable {L A : Nat → Addr} {X Z : Nat → List V} {hl : Addr} {hs y : List V} {k : Nat}
theorem mem9_X (h : k < 4) : (mem9 L A X Z hl hs ++ Mx)[k]? = some (L k, .lst (X k)) := by
  match k, h with
  | 0, _ => rfl
  | 1, _ => rfl
  | 2, _ => rfl
  | 3, _ => rfl
theorem mem9_Z (h : k < 4) : (mem9 L A X Z hl hs ++ Mx)[4 + k]? = some (A k, .lst (Z k)) := by
  match k, h with
  | 0, _ => rfl
  | 1, _ => rfl
  | 2, _ => rfl
  | 3, _ => rfl
theorem mem9_setX (h : k < 4) : (mem9 L A X Z hl hs ++ Mx).set k (L k, .lst y) = mem9 L A (up X k y) Z hl hs ++ Mx := by
  match k, h with
  | 0, _ => rfl
  | 1, _ => rfl
  | 2, _ => rfl
  | 3, _ => rfl
theorem mem9_setZ (h : k < 4) : (mem9 L A X Z hl hs ++ Mx).set (4 + k) (A k, .lst y) = mem9 L A X (up Z k y) hl hs ++ Mx := by
  match k, h with
  | 0, _ => rfl
  | 1, _ => rfl
  | 2, _ => rfl
  | 3, _ => rfl
theorem up_same {α : Type} {f : Nat → α} {k : Nat} {v : α} : up f k v k = v := if_pos rfl
theorem up_ne {α : Type} {f : Nat → α} {k j : Nat} {v : α} (h : j ≠ k) : up f k v j = f j := if_neg h
/-- four sheets, their due columns, what was held -/
structure St9 (K : PySem.W.Frag) (C : Addr) (b r : Int) (many : Nat) (P dx L : Nat → Addr) (X Z : Nat → List V) (CS : Nat → List (List Int)) (hs : List V) (G : Hp) : Prop where
  sh : ∀ k, k < 4 → G (P k) = some (.ins C (dx k) (shF (.int b) (.int r) (.ref (L k))))
  dX : ∀ k, k < 4 → DpAll K G (X k) ((CS k).map colD)
  dZ : ∀ k, k < 4 → DpAll K G (Z k) ((CS k).map colD)
  g : ∀ k, k < 4 → GoodSh b r (CS k) ∧ (CS k).length = many
  h : ∀ x ∈ hs, ∃ t f d cs, x = .ref t ∧ SqT K G t [f, d] ∧ Dp K G f (.list (cs.map colD)) ∧ Dp K G d (.list (cs.map colD)) ∧ GoodSh b r cs
theorem St9.up {b r : Int} {many : Nat} {P dx : Nat → Addr} {CS : Nat → List (List Int)} (h : St9 K C b r many P dx L X Z CS hs G) (e : Ex G G') : St9 K C b r many P dx L X Z CS hs G' :=
  ⟨fun k hk => e _ _ (h.sh k hk), fun k hk => dma (h.dX k hk) e, fun k hk => dma (h.dZ k hk) e, h.g, fun x hx => by
    obtain ⟨t, f, d, cs, h1, h2, h3, h4, h5⟩ := h.h x hx
    exact ⟨t, f, d, cs, h1, ex_t e h2, dm h3 e, dm h4 e, h5⟩⟩
theorem St9.at_ {b r : Int} {many : Nat} {P dx : Nat → Addr} {CS : Nat → List (List Int)} (h : St9 K C b r many P dx L X Z CS hs G) (Mx : Mem) (k : Nat) (hk : k < 4) : ShAt K C G (mem9 L A X Z hl hs ++ Mx) (P k) b r (CS k) ∧ ColsAt K G (mem9 L A X Z hl hs ++ Mx) (A k) (CS k) ∧ GoodSh b r (CS k) :=
  ⟨⟨dx k, L k, X k, .G (h.sh k hk), .M (mem9_X hk), h.dX k hk⟩, ⟨Z k, .M (mem9_Z hk), h.dZ k hk⟩, (h.g k hk).1⟩
/-- a column set in one of them, in its due columns too -/
theorem St9.set {b r : Int} {many : Nat} {P dx : Nat → Addr} {CS : Nat → List (List Int)} (h : St9 K C b r many P dx L X Z CS hs G) {w j : Nat} {c : List Int} {y z : V} (hc : GoodCol b r c) (hy : Dp K G y (colD c)) (hz : Dp K G z (colD c)) :
    St9 K C b r many P dx L (SX.up X w ((X w).set j y)) (SX.up Z w ((Z w).set j z)) (SX.up CS w ((CS w).set j c)) hs G := by
  refine ⟨h.sh, fun k hk => ?_, fun k hk => ?_, fun k hk => ?_, h.h⟩
  · by_cases e : k = w
    · subst e
      rw [up_same, up_same, List.map_set]
      exact dpa_set (h.dX k hk) hy
    · rw [up_ne e, up_ne e]
      exact h.dX k hk
  · by_cases e : k = w
    · subst e
      rw [up_same, up_same, List.map_set]
      exact dpa_set (h.dZ k hk) hz
    · rw [up_ne e, up_ne e]
      exact h.dZ k hk
  · by_cases e : k = w
    · subst e
      rw [up_same]
      obtain ⟨g, hn⟩ := h.g k hk
      exact ⟨⟨g.b2, g.b12, g.r1, g.r4, by rw [List.length_set]; exact g.len, fun c' hc' => (List.mem_or_eq_of_mem_set hc').elim (g.col c') fun e => e ▸ hc⟩, by rw [List.length_set]; exact hn⟩
    · rw [up_ne e]
      exact h.g k hk
/-- columns drawn one by one -/
def colsGD (D : Deck) (b r : Int) : Nat → Deck
  | 0 => D
  | n + 1 => drawsD (colsGD D b r n) b r.toNat
def colsG (D : Deck) (b r : Int) (n : Nat) : List (List Int) := (List.range n).map fun i => drawsV (colsGD D b r i) b r.toNat
theorem colsG_len {D : Deck} {b r : Int} {n : Nat} : (colsG D b r n).length = n := by simp [colsG]
theorem colsG_good {D : Deck} {b r : Int} {n : Nat} (hb : 0 < b) (hr : 0 ≤ r) : ∀ c ∈ colsG D b r n, GoodCol b r c := fun c hc => by
  obtain ⟨i, _, rfl⟩ := List.mem_map.mp hc
  exact drawsV_good hb hr
end
end SX
namespace SX
open PySem PySem.Spec L2
theorem St9.hold {K : PySem.W.Frag} {C : Addr} {b r : Int} {many : Nat} {P dx L : Nat → Addr} {X Z : Nat → List V} {CS : Nat → List (List Int)} {hs : List V} {G : Hp} {y : V} {cs : List (List Int)} (h : St9 K C b r many P dx L X Z CS hs G) (hy : Dp K G y (.tuple [.list (cs.map colD), .list (cs.map colD)])) (g : GoodSh b r cs) : St9 K C b r many P dx L X Z CS (hs ++ [y]) G :=
  ⟨h.sh, h.dX, h.dZ, h.g, fun x hx => by
    rcases List.mem_append.mp hx with hx | hx
    · exact h.h x hx
    · cases List.mem_singleton.mp hx
      obtain ⟨a, xs, rfl, hs, ha⟩ := dp_tup hy
      cases ha with
      | cons h1 h2 =>
        cases h2 with
        | cons h2 h3 =>
          cases h3
          exact ⟨a, _, _, cs, rfl, hs, h1, h2, g⟩⟩
end SX

set_option Elab.async false
set_option linter.all false
set_option maxRecDepth 100000
/-! SXm: an operator between two own classes; == with a value of another kind. -/
namespace SX
open PySem PySem.Spec L2
/-- the class D has no such method -/
structure NoOp (K : PySem.W.Frag) (D : Addr) (nm : String) : Prop where
  cd : ∃ cd, PySem.W.clsIn K D = some cd ∧ cd.mro = [.ref D, .type "object"]
  h1 : PySem.W.findIn K (.ref D) (PySem.dunder nm) = some none
  h2 : PySem.W.findIn K (.ref D) (PySem.dunderR nm) = some none
  h3 : PySem.W.findIn K (.type "object") (PySem.dunder nm) = some none
  h4 : PySem.W.findIn K (.type "object") (PySem.dunderR nm) = some none
end SX
namespace PySem.W
open PySem PySem.Calls PyProof.Rows
section
variable {prog : Program} {w : World} {M : Model} {A : Around} {E : Value → Shared → Prop} {s : Shared} {K : Frag} {x C D L f : Addr} {h₀ : Heap} {m : Str → Option Value} {ox : Obj} {od : Option Obj} {nm : String}
theorem sx_noslot {h : Heap} (X : K.In h) (N : SX.NoOp K D nm) : Looks M h (fillsNumberSlot (.ref D) nm) false := by
  intro A Q E s k q
  obtain ⟨cd, hc, hm⟩ := N.cd
  have Lm : Looks M h (mroOf (.ref D)) cd.mro := (looks_clsIn X hc).andThen (f := fun cd => pure cd.mro) .now
  have Lm' := Lm.keeps k
  obtain ⟨hh, g, d, tt, os⟩ := s
  have X' : K.In hh := X.keeps k
  have L1 : Looks M hh (typeLookup (.ref D) (PySem.dunder nm)) none := looks_findIn X' N.h1
  have L2 : Looks M hh (typeLookup (.ref D) (dunderR nm)) none := looks_findIn X' N.h2
  have L3 : Looks M hh (typeLookup (.type "object") (PySem.dunder nm)) none := looks_findIn X' N.h3
  have L4 : Looks M hh (typeLookup (.type "object") (dunderR nm)) none := looks_findIn X' N.h4
  unfold fillsNumberSlot
  refine wpAny_bind (Lm'.at ?_)
  rw [hm, List.anyM_cons]
  repeat lk
  exact q
theorem sx_binop2 {op : Operator} {b : Value} {Q : Value → Shared → Prop} (F : Fr h₀ L s.heap m) (X₀ : K.In h₀) (I : InstAt s.heap x ox C od) (hb : Looks (model prog w) s.heap (typeOf b) (.ref D)) (hcd : C ≠ D) (hc : selfFirst K C = true)
    (hs : findIn K (.ref C) (PySem.dunder op.info.2) = some (some (.ref f))) (hf : isFn K (.ref f) = true) (N : SX.NoOp K D op.info.2)
    (h : wpAny (model prog w) A (call (.ref f) [.ref x, b]) (CmpBack Q) E s) : wpAny (model prog w) A (binaryOp op (.ref x) b) Q E s := by
  have X := X₀.keeps F.keep
  obtain ⟨cd, rest, hcd', hm⟩ := ksp_first hc
  rcases hi : op.info with ⟨sym, nm'⟩
  rw [hi] at hs N
  dsimp only at hs N
  have one := ksp_try X I hs hf h
  obtain ⟨hh, g, d, tt, os⟩ := s
  have L1 : Looks (model prog w) hh (typeOf (.ref x)) (.ref C) := I.type
  have L2 : Looks (model prog w) hh (typeOf b) (.ref D) := hb
  have L3 : Looks (model prog w) hh (fillsNumberSlot (.ref C) nm') true := fills_K X hcd' hm hs
  have L4 : Looks (model prog w) hh (fillsNumberSlot (.ref D) nm') false := sx_noslot X N
  have hne : (Value.ref C == Value.ref D) = false := Bool.eq_false_iff.mpr fun q => hcd (by cases beq_iff_eq.mp q; rfl)
  simp only [binaryOp, hi]
  refine wpAny_holding (wpAny_bind ?_)
  unfold binaryOp1
  refine wpAny_bind (L1.at (wpAny_bind (L2.at (wpAny_bind (L3.at ?_)))))
  simp only [hne, Bool.false_eq_true, if_false]
  ksp_lk
  refine wpAny_mono one (fun r s' hr' => ?_) fun _ _ e => e
  obtain ⟨v, rfl, hq⟩ := hr'
  ksp_lk
  exact hq
end
end PySem.W
namespace SX
open PySem PySem.Spec L2
section
variable {X : Cx} {CX : CXT} {k : Nat} {C D f : Addr} {fd : FuncData} {ps : List Str} {sp : Sp} {E : XK}
/-- one op other, of two own classes -/
def rBin2 (C D : Addr) (sp : Sp) (E : XK) : R2 := fun x y H Q => ∃ a dx fs b dy gs, x = .ref a ∧ y = .ref b ∧ H a = some (.ins C dx fs) ∧ H b = some (.ins D dy gs) ∧ sp [.ref a, .ref b] H Q E
theorem op_bin2 {op : Operator} (hcd : C ≠ D) (N : NoOp X.K D op.info.2) (hs : PySem.W.findIn X.K (.ref C) (PySem.dunder op.info.2) = some (some (.ref f))) (hfn : PySem.W.isFn X.K (.ref f) = true) (hc : PySem.W.selfFirst X.K C = true) (F : FnOk X.prog X.w X.K X.mg X.base CX k f fd ps sp) (hr : Room k X.A) (hb : Binds X.K fd ps []) (hx : Passes CX X E) : OpR X (binaryOp op) (rBin2 C D sp E) := by
  intro pins s σ H x y v u Q I rx ry h
  obtain ⟨a, dx, fs, b, dy, gs, rfl, rfl, ea, eb, q⟩ := h
  cases (show v = Value.ref a from rx)
  cases (show u = Value.ref b from ry)
  obtain ⟨mA, O, _⟩ := ins_get I.hok ea
  obtain ⟨od, J, _⟩ := O.look
  obtain ⟨mB, O2, _⟩ := ins_get I.hok eb
  obtain ⟨od2, J2, _⟩ := O2.look
  obtain ⟨m, fr⟩ := I.fr
  exact PySem.W.sx_binop2 fr I.ok.mod.kin J J2.type hcd hc hs hfn N (wpAny_mono (run_at F hr hb hx I (.cons (show RelV (.ref a) (.ref a) from rfl) (.cons (show RelV (.ref b) (.ref b) from rfl) .nil)) q) (fun u s1 h1 => cmpBack h1) fun _ _ e => e)
/-- a comparison by the own method; the other one is of another kind -/
def rCmpX (K : PySem.W.Frag) (C : Addr) (sp : Sp) (E : XK) : R2 := fun x y H Q => ∃ a dx fs t, x = .ref a ∧ H a = some (.ins C dx fs) ∧ TyX K H y t ∧ PySem.W.notFirst K C t = true ∧ sp [.ref a, y] H Q E
theorem op_cmpX {op : CmpOp} (hop : compareOp op = richCompare op) (hs : PySem.W.findIn X.K (.ref C) (cmpInfo op).2.1 = some (some (.ref f))) (hfn : PySem.W.isFn X.K (.ref f) = true) (F : FnOk X.prog X.w X.K X.mg X.base CX k f fd ps sp) (hr : Room k X.A) (hb : Binds X.K fd ps []) (hx : Passes CX X E) : OpR X (compareOp op) (rCmpX X.K C sp E) := by
  intro pins s σ H x y v u Q I rx ry h
  obtain ⟨a, dx, fs, t, rfl, ea, ty, nf, q⟩ := h
  cases (show v = Value.ref a from rx)
  obtain ⟨mA, O, _⟩ := ins_get I.hok ea
  obtain ⟨od, J, _⟩ := O.look
  obtain ⟨m, fr⟩ := I.fr
  obtain ⟨P, Z, hP, _⟩ := kit_of I ry ty
  rw [hop]
  exact PySem.W.cmp_K (by have := hr.units; omega) fr I.ok.mod.kin J (Z.ty _ _ I.kIn hP) nf hs hfn (wpAny_mono (run_at F hr hb hx I (.cons (show RelV (.ref a) (.ref a) from rfl) (.cons ry .nil)) q) (fun u s1 h1 => cmpBack h1) fun _ _ e => e)
end
/-- plain data is of no own class -/
structure DataOut (K : PySem.W.Frag) (C : Addr) : Prop where
  nf : ∀ d : PyData, PySem.W.notFirst K C (.type (tyName d)) = true
  ki : ∀ d : PyData, PySem.W.kitOne K (.type (tyName d)) (.ref C) = some false
section
variable {E : XK} {K : PySem.W.Frag} {σ : L2.St} {G G' H : Hp} {M M1 M2 M3 F : Mem} {R : Post} {P P' : Po} {te ta tb : TE} {tt tu : TT} {t u : TS} {x y z v : V} {d e : PyData} {ds es : List PyData} {a b : Bool} {P1 P2 : Hp → V → Prop} {C D : Addr} {Ps : List (Hp → V → Prop)}
theorem dataOut (n1 : PySem.W.notFirst K C (.type "NoneType") = true) (n2 : PySem.W.notFirst K C (.type "bool") = true) (n3 : PySem.W.notFirst K C (.type "int") = true) (n4 : PySem.W.notFirst K C (.type "str") = true) (n5 : PySem.W.notFirst K C (.type "list") = true) (n6 : PySem.W.notFirst K C (.type "tuple") = true) (n7 : PySem.W.notFirst K C (.type "dict") = true)
    (k1 : PySem.W.kitOne K (.type "NoneType") (.ref C) = some false) (k2 : PySem.W.kitOne K (.type "bool") (.ref C) = some false) (k3 : PySem.W.kitOne K (.type "int") (.ref C) = some false) (k4 : PySem.W.kitOne K (.type "str") (.ref C) = some false) (k5 : PySem.W.kitOne K (.type "list") (.ref C) = some false) (k6 : PySem.W.kitOne K (.type "tuple") (.ref C) = some false) (k7 : PySem.W.kitOne K (.type "dict") (.ref C) = some false) : DataOut K C := by
  refine ⟨fun d => ?_, fun d => ?_⟩ <;> cases d <;> dsimp only [tyName] <;> assumption
/-- isinstance(data, C) -/
theorem ev_isiX (O : DataOut K D) (h : Ev ta σ G M (isD K d M1)) : Ev (tCB (rIsi K) (tCons ta (tCons (tC (.ref D)) tNil))) σ G M (isV (.bl false) M1) :=
  ev_CB (Ps := [fun G v => Dp K G v d, fun _ v => v = .ref D]) (ea_cons h (ea_cons ev_c ea_nil)) fun G1 H F vs e m p Q q => by
    match vs, p with
    | [v, c], ⟨p1, p2, _⟩ =>
      subst p2
      exact ⟨v, .ref D, .type (tyName d), .ref D, false, rfl, .own D, tyx_of (dm p1 m.ex), O.ki d, q _ _ _ _ (Ex.refl _) m ⟨rfl, rfl⟩⟩
theorem ev_cmpX {α : Type} {pre : α → Hp → Mem → List V → Prop} {post : α → Mem → Post} {E' : XK} {p dx : Addr} {fs : List (Str × V)} (xx : V → α) (O : DataOut K C) (h1 : Ev ta σ G M (isV (.ref p) M1)) (h2 : Ev tb σ G M1 (isD K d M2)) (ha : At G M2 p (.ins C dx fs)) (hp : ∀ v G1, Ex G G1 → Dp K G1 v d → pre (xx v) G1 M2 [.ref p, v]) (hq : ∀ v G1 w M3, Ex G G1 → post (xx v) M2 G1 w M3 → R G1 w M3) :
    Ev (tOp (rCmpX K C (spec pre post) E') ta tb) σ G M R :=
  ev_op h1 h2 fun G1 H F x' y' e m p1 p2 Q k => by
    subst p1
    exact ⟨p, dx, fs, .type (tyName d), rfl, ha G1 H F e m, tyx_of (dm p2 m.ex), O.nf d, xx y', G1, M2, F, m, hp y' G1 e p2, fun v G' M' H' e' m' r' => k v G' M' H' e' m' (hq y' G' v M' (e.trans e') r')⟩
end
/-! what is written -/
def wrF (b l last : V) : List (Str × V) := putF "_last" last (putF "_figures" l (putF "_base" b []))
theorem s_bf : ¬ (("_base" : Str) = "_figures") := by decide +kernel
theorem s_bl : ¬ (("_base" : Str) = "_last") := by decide +kernel
theorem s_fl : ¬ (("_figures" : Str) = "_last") := by decide +kernel
theorem wrF_b {b l last : V} : (wrF b l last).lookup ("_base" : Str) = some b := by
  unfold wrF
  rw [lookup_putF, if_neg s_bl, lookup_putF, if_neg s_bf, lookup_putF, if_pos rfl]
theorem wrF_f {b l last : V} : (wrF b l last).lookup ("_figures" : Str) = some l := by
  unfold wrF
  rw [lookup_putF, if_neg s_fl, lookup_putF, if_pos rfl]
theorem wrF_l {b l last : V} : (wrF b l last).lookup ("_last" : Str) = some last := by
  unfold wrF
  rw [lookup_putF, if_pos rfl]
theorem wrF_no {b r l : V} {m : Str} (h1 : ¬ m = "_base") (h2 : ¬ m = "_figures") (h3 : ¬ m = "_last") : (wrF b l r).lookup m = none := by
  unfold wrF
  rw [lookup_putF, if_neg h3, lookup_putF, if_neg h2, lookup_putF, if_neg h1]
  rfl
/-- a result that stands still -/
def WrG (K : PySem.W.Frag) (C : Addr) (p : Addr) (b : Int) (figs : List Int) (last : Int) (G : Hp) : Prop := ∃ dx l xs, G p = some (.ins C dx (wrF (.int b) (.ref l) (.int last))) ∧ SqL K G l xs ∧ DpAll K G xs (figs.map .int)
theorem WrG.up {K : PySem.W.Frag} {C p : Addr} {b last : Int} {figs : List Int} {G G' : Hp} (h : WrG K C p b figs last G) (e : Ex G G') : WrG K C p b figs last G' := by
  obtain ⟨dx, l, xs, h1, h2, h3⟩ := h
  exact ⟨dx, l, xs, e _ _ h1, ex_l e h2, dma h3 e⟩
def WrFz (K : PySem.W.Frag) (C : Addr) (b : Int) (figs : List Int) (last : Int) (G : Hp) (v : V) : Prop := ∃ p, v = .ref p ∧ WrG K C p b figs last G
instance {K : PySem.W.Frag} {C : Addr} {b last : Int} {figs : List Int} : Mono (WrFz K C b figs last) := ⟨fun G G' v e h => by
  obtain ⟨p, h1, h2⟩ := h
  exact ⟨p, h1, h2.up e⟩⟩
abbrev wrPre (K : PySem.W.Frag) (C : Addr) : (Addr × Int × List Int × Int) → Hp → Mem → List V → Prop := fun x G M vs => vs = [.ref x.1] ∧ WrG K C x.1 x.2.1 x.2.2.1 x.2.2.2 G
abbrev wrGPre (K : PySem.W.Frag) (C : Addr) : (Addr × Int × List Int × Int) → Hp → Mem → List V → Prop := fun x G M vs => wrPre K C x G M vs ∧ (-(2 ^ 64) < x.2.1 ∧ x.2.1 < 2 ^ 64)
/-- made: x = (p, dx, base, figures, last); the figures may be owned -/
abbrev mkWrPre (K : PySem.W.Frag) (C : Addr) : (Addr × Addr × Int × List Int × Int) → Hp → Mem → List V → Prop := fun x G M vs => ∃ v M0, vs = [.ref x.1, .int x.2.2.1, v, .int x.2.2.2.2] ∧ M = M0 ++ [(x.1, .ins C x.2.1 [])] ∧ Dt K G M0 v (.list (x.2.2.2.1.map .int))
abbrev mkWrPost (K : PySem.W.Frag) (C : Addr) : (Addr × Addr × Int × List Int × Int) → Mem → Post := fun x M G v M' => v = .non ∧ ∃ l xs M0, M = M0 ++ [(x.1, .ins C x.2.1 [])] ∧ M' = M0 ++ [(x.1, .ins C x.2.1 (wrF (.int x.2.2.1) (.ref l) (.int x.2.2.2.2))), (l, .lst xs)] ∧ DpAll K G xs (x.2.2.2.1.map .int)
theorem ev_mkWr {K : PySem.W.Frag} {σ : L2.St} {G : Hp} {M M1 : Mem} {tA : TA} {E : XK} {C : Addr} {b last : Int} {figs : List Int} {Pv : Hp → V → Prop} (h : EvA tA σ G M [fun _ v => v = .int b, Pv, fun _ v => v = .int last] M1) (hd : ∀ G1 v, Ex G G1 → Pv G1 v → Dt K G1 M1 v (.list (figs.map .int))) :
    Ev (tMake C (spec (mkWrPre K C) (mkWrPost K C)) [] E tA) σ G M (isP (WrFz K C b figs last) M1) := by
  have h0 := ev_make (E := E) (C := C) (pre := mkWrPre K C) (post := mkWrPost K C) (R := fun G1 v M' => ∃ p dx l xs, v = .ref p ∧ M' = M1 ++ [(p, .ins C dx (wrF (.int b) (.ref l) (.int last))), (l, .lst xs)] ∧ DpAll K G1 xs (figs.map .int)) (fun p dx => (p, dx, b, figs, last)) h
    (fun G1 p dx vs e q => by
      obtain ⟨v1, v2, v3, rfl, p1, p2, p3⟩ := allP3 q
      subst p1 p3
      exact ⟨v2, M1, rfl, rfl, hd G1 v2 e p2⟩)
    (fun G1 p dx v M2 e q => by
      obtain ⟨rfl, l, xs, M0, e0, rfl, dd⟩ := q
      have := List.append_cancel_right e0
      subst this
      exact ⟨rfl, p, dx, l, xs, rfl, rfl, dd⟩)
  intro G1 H F e m Q q
  refine h0 G1 H F e m Q fun v G2 M2 H2 e2 m2 r2 => ?_
  obtain ⟨p, dx, l, xs, rfl, rfl, dd⟩ := r2
  have e0 : M1 ++ [(p, HO.ins C dx (wrF (.int b) (.ref l) (.int last))), (l, .lst xs)] = (M1 ++ [(p, HO.ins C dx (wrF (.int b) (.ref l) (.int last)))]) ++ [(l, .lst xs)] := by simp
  rw [e0] at m2
  obtain ⟨m3, e3⟩ := m2.freezeLast
  obtain ⟨m4, e4⟩ := m3.freezeLast
  exact q _ _ M1 H2 ((e2.trans e3).trans e4) m4 ⟨⟨p, rfl, dx, l, xs, upd_same, SqL.of (e4 _ _ upd_same), dma dd (e3.trans e4)⟩, rfl⟩
end SX
namespace SX
open PySem PySem.Spec L2
theorem ev_fldD {K : PySem.W.Frag} {σ : L2.St} {G : Hp} {M M1 : Mem} {ta : TE} {p C dx : Addr} {fs : List (Str × V)} {f : Str} {x : V} {d : PyData} (h1 : Ev ta σ G M (isV (.ref p) M1)) (ha : At G M1 p (.ins C dx fs)) (hc : Cls K C) (hn : NoAttr K C f) (hl : fs.lookup f = some x) (hd : Dp K G x d) : Ev (tFld K ta f) σ G M (isD K d M1) := Ev.toDp (ev_fld h1 ha hc hn hl) hd
abbrev restPre (K : PySem.W.Frag) (C : Addr) : ((Addr × Int × List Int × Int) × Int) → Hp → Mem → List V → Prop := fun x G M vs => vs = [.ref x.1.1, .int x.2] ∧ WrG K C x.1.1 x.1.2.1 x.1.2.2.1 x.1.2.2.2 G ∧ (-(2 ^ 64) < x.1.2.1 ∧ x.1.2.1 < 2 ^ 64) ∧ 0 < x.2
abbrev restPost : ((Addr × Int × List Int × Int) × Int) → Mem → Post := fun x M => isV (.int (horner x.1.2.1 x.1.2.2.1 x.1.2.2.2 % x.2)) M
end SX
namespace SX
open PySem PySem.Spec L2
abbrev wsubPre (K : PySem.W.Frag) (C D : Addr) : ((Addr × Int × List Int × Int) × (Addr × Int × Int × List (List Int))) → Hp → Mem → List V → Prop := fun x G M vs => vs = [.ref x.1.1, .ref x.2.1] ∧ WrG K C x.1.1 x.1.2.1 x.1.2.2.1 x.1.2.2.2 G ∧ ShAt K D G M x.2.1 x.2.2.1 x.2.2.2.1 x.2.2.2.2 ∧ (-(2 ^ 64) < x.1.2.1 ∧ x.1.2.1 < 2 ^ 64) ∧ (-(2 ^ 64) < x.2.2.1 ∧ x.2.2.1 < 2 ^ 64) ∧ x.2.2.2.2.length ≤ 100000
abbrev wsubPost : ((Addr × Int × List Int × Int) × (Addr × Int × Int × List (List Int))) → Mem → Post := fun x M => isV (.int (horner x.1.2.1 x.1.2.2.1 x.1.2.2.2 - valueOf x.2.2.1 x.2.2.2.2)) M
abbrev weqPre (K : PySem.W.Frag) (C : Addr) : ((Addr × Int × List Int × Int) × (Addr × Int × List Int × Int)) → Hp → Mem → List V → Prop := fun x G M vs => vs = [.ref x.1.1, .ref x.2.1] ∧ WrG K C x.1.1 x.1.2.1 x.1.2.2.1 x.1.2.2.2 G ∧ WrG K C x.2.1 x.2.2.1 x.2.2.2.1 x.2.2.2.2 G
abbrev weqPost : ((Addr × Int × List Int × Int) × (Addr × Int × List Int × Int)) → Mem → Post := fun x M => isV (.bl (decide (x.1.2 = x.2.2))) M
abbrev xeqPre (K : PySem.W.Frag) : (Addr × V × PyData) → Hp → Mem → List V → Prop := fun x G M vs => vs = [.ref x.1, x.2.1] ∧ Dp K G x.2.1 x.2.2
abbrev xeqPost : (Addr × V × PyData) → Mem → Post := fun _ M => isV (.bl false) M
section
variable {K : PySem.W.Frag} {σ : L2.St} {G : Hp} {M M1 M2 : Mem} {ta tb : TE} {E : XK} {C D : Addr}
/-- written - sheet -/
theorem ev_wsub {p q : Addr} {b last b' r : Int} {figs : List Int} {cs : List (List Int)} (h1 : Ev ta σ G M (isV (.ref p) M)) (h2 : Ev tb σ G M (isV (.ref q) M)) (hW : WrG K C p b figs last G) (hS : ShAt K D G M q b' r cs) (hb : -(2 ^ 64) < b ∧ b < 2 ^ 64) (hb' : -(2 ^ 64) < b' ∧ b' < 2 ^ 64) (hl : cs.length ≤ 100000) :
    Ev (tOp (rBin2 C D (spec (wsubPre K C D) wsubPost) E) ta tb) σ G M (isV (.int (horner b figs last - valueOf b' cs)) M) :=
  ev_op h1 h2 fun G1 H F x' y' e m p1 p2 Q k => by
    subst p1 p2
    obtain ⟨dx, l, xs, k1, k2, k3⟩ := hW.up e
    obtain ⟨dy, l', ys, j1, j2, j3⟩ := hS.ex e
    exact ⟨p, dx, _, q, dy, _, rfl, rfl, m.ex _ _ k1, j1 G1 H F (Ex.refl _) m, ((p, b, figs, last), (q, b', r, cs)), G1, M, F, m, ⟨rfl, ⟨dx, l, xs, k1, k2, k3⟩, ⟨dy, l', ys, j1, j2, j3⟩, hb, hb', hl⟩, fun v G' M' H' e' m' r' => k v G' M' H' e' m' r'⟩
/-- one == other, both results -/
theorem ev_weq {P1 P2 : Hp → V → Prop} [Mono P1] {b last b' last' : Int} {figs figs' : List Int} (h1 : Ev ta σ G M (isP P1 M1)) (h2 : Ev tb σ G M1 (isP P2 M2)) (c1 : ∀ G1 v, Ex G G1 → P1 G1 v → WrFz K C b figs last G1 v) (c2 : ∀ G1 v, Ex G G1 → P2 G1 v → WrFz K C b' figs' last' G1 v) :
    Ev (tOp (rCmpO C (spec (weqPre K C) weqPost) E) ta tb) σ G M (isV (.bl (decide ((b, figs, last) = (b', figs', last')))) M2) :=
  ev_op h1 h2 fun G1 H F x' y' e m p1 p2 Q k => by
    obtain ⟨p, rfl, dx, l, xs, k1, k2, k3⟩ := c1 G1 _ e p1
    obtain ⟨q, rfl, dy, l', ys, j1, j2, j3⟩ := c2 G1 _ e p2
    exact ⟨p, dx, _, q, dy, _, rfl, rfl, m.ex _ _ k1, m.ex _ _ j1, ((p, b, figs, last), (q, b', figs', last')), G1, M2, F, m, ⟨rfl, ⟨dx, l, xs, k1, k2, k3⟩, ⟨dy, l', ys, j1, j2, j3⟩⟩, fun v G' M' H' e' m' r' => k v G' M' H' e' m' r'⟩
end
end SX
namespace SX
open PySem PySem.Spec L2
section
variable {K : PySem.W.Frag} {σ : L2.St} {G : Hp} {M M1 M2 : Mem} {ta tb : TE} {tA : TA} {E E' : XK} {C D : Addr} {P : Po} {t u : TS} {a b : Bool}
theorem ev_isB (h1 : Ev ta σ G M (isV (.bl a) M1)) (h2 : Ev tb σ G M1 (isV (.bl b) M2)) : Ev (tOp rIsB ta tb) σ G M (isV (.bl (decide (a = b))) M2) := ev_opV h1 h2 fun H Q q => ⟨a, b, rfl, rfl, q⟩
theorem ev_notB (h1 : Ev ta σ G M (isV (.bl a) M1)) (h2 : Ev tb σ G M1 (isV (.bl b) M2)) : Ev (tOp rNotB ta tb) σ G M (isV (.bl (!decide (a = b))) M2) := ev_opV h1 h2 fun H Q q => ⟨a, b, rfl, rfl, q⟩
/-- (a, b, c) of data -/
theorem sv_tg3 {i j k : Nat} {tb : TS} {x : V} {d e f : PyData} (hx : Dp K G x (.tuple [d, e, f])) (h : ∀ p q r, Dp K G p d → Dp K G q e → Dp K G r f → Sv E tb (((σ.set i (some p)).set j (some q)).set k (some r)) G M P) : Sv E (tTgt (gTup K 3 (gCons (gName i) (gCons (gName j) (gCons (gName k) gNil)))) x tb) σ G M P := fun G1 H F D ex m hd => by
  obtain ⟨a, xs, rfl, hs, ha⟩ := dp_tup hx
  cases ha with
  | cons h1 h2 =>
    cases h2 with
    | cons h2 h3 =>
      cases h3 with
      | cons h3 h4 =>
        cases h4
        exact ⟨a, _, rfl, ex_t m.ex (ex_t ex hs), rfl, _, _, rfl, _, _, rfl, _, _, rfl, rfl, h _ _ _ h1 h2 h3 G1 H F D ex m hd⟩
abbrev wrRPre (K : PySem.W.Frag) (C : Addr) : (Addr × Int × List Int × Int) → Hp → Mem → List V → Prop := fun x G M vs => ∃ v, vs = [.ref x.1, .int x.2.1, v, .int x.2.2.2] ∧ WrG K C x.1 x.2.1 x.2.2.1 x.2.2.2 G ∧ Dp K G v (.list (x.2.2.1.map .int)) ∧ x.2.2.1.length ≤ 100000
abbrev wrRPost : (Addr × Int × List Int × Int) → Mem → Post := fun _ M => isV (.bl true) M
theorem ev_wrR {p : Addr} {b last : Int} {figs : List Int} (h : EvA tA σ G M [fun _ v => v = .ref p, fun _ v => v = .int b, fun G v => Dp K G v (.list (figs.map .int)), fun _ v => v = .int last] M1) (hW : WrG K C p b figs last G) (hl : figs.length ≤ 100000) :
    Ev (tCall (spec (wrRPre K C) wrRPost) [] E tA) σ G M (isV (.bl true) M1) :=
  ev_call (p, b, figs, last) h fun G1 vs e q => by
    obtain ⟨v1, v2, v3, v4, rfl, p1, p2, p3, p4⟩ := allP4 q
    subst p1 p2 p4
    exact ⟨v3, rfl, hW.up e, p3, hl⟩
def SmallF (b : Int) (figs : List Int) : Prop := (0 ≤ b ∧ b ≤ 12) ∧ figs.length ≤ 1000 ∧ ∀ f ∈ figs, -(2 ^ 64) < f ∧ f < 2 ^ 64
abbrev wworthPre (K : PySem.W.Frag) : (Int × List Int × Int) → Hp → Mem → List V → Prop := fun x G M vs => ∃ v, vs = [.int x.1, v, .int x.2.2] ∧ Dp K G v (.list (x.2.1.map .int)) ∧ SmallF x.1 x.2.1 ∧ x.2.2.natAbs < 2 ^ 200
abbrev wworthPost : (Int × List Int × Int) → Mem → Post := fun x M => isV (.int (horner x.1 x.2.1 x.2.2)) M
theorem ev_wworth {b last : Int} {figs : List Int} (h : EvA tA σ G M [fun _ v => v = .int b, fun G v => Dp K G v (.list (figs.map .int)), fun _ v => v = .int last] M1) (hs : SmallF b figs) (hl : last.natAbs < 2 ^ 200) :
    Ev (tCall (spec (wworthPre K) wworthPost) [] E tA) σ G M (isV (.int (horner b figs last)) M1) :=
  ev_call (b, figs, last) h fun G1 vs e q => by
    obtain ⟨v1, v2, v3, rfl, p1, p2, p3⟩ := allP3 q
    subst p1 p3
    exact ⟨v2, rfl, p2, hs, hl⟩
structure AskS where
  p : Addr
  b : Int
  figs : List Int
  last : Int
  dv : Int
  q : Addr
  ob : Int
  r : Int
  cs : List (List Int)
abbrev askPre (K : PySem.W.Frag) (C D : Addr) : AskS → Hp → Mem → List V → Prop := fun x G M vs => ∃ v, vs = [.ref x.p, .int x.b, v, .int x.last, .int x.dv, .ref x.q, .int (valueOf x.ob x.cs)] ∧ Dp K G v (.list (x.figs.map .int)) ∧ WrG K C x.p x.b x.figs x.last G ∧ SmallF x.b x.figs ∧ x.last.natAbs < 2 ^ 200 ∧ 0 < x.dv ∧ ShAt K D G M x.q x.ob x.r x.cs ∧ GoodSh x.ob x.r x.cs
abbrev askPost : AskS → Mem → Post := fun _ M => isV (.bl true) M
theorem allP7 {P1 P2 P3 P4 P5 P6 P7 : Hp → V → Prop} : ∀ {vs : List V}, AllP G [P1, P2, P3, P4, P5, P6, P7] vs → ∃ v w u x y z t, vs = [v, w, u, x, y, z, t] ∧ P1 G v ∧ P2 G w ∧ P3 G u ∧ P4 G x ∧ P5 G y ∧ P6 G z ∧ P7 G t
  | [v, w, u, x, y, z, t], ⟨a, b, c, d, e, f, g, _⟩ => ⟨v, w, u, x, y, z, t, rfl, a, b, c, d, e, f, g⟩
theorem ev_ask (x : AskS) (h : EvA tA σ G M [fun _ v => v = .ref x.p, fun _ v => v = .int x.b, fun G v => Dp K G v (.list (x.figs.map .int)), fun _ v => v = .int x.last, fun _ v => v = .int x.dv, fun _ v => v = .ref x.q, fun _ v => v = .int (valueOf x.ob x.cs)] M1) (hW : WrG K C x.p x.b x.figs x.last G) (hs : SmallF x.b x.figs) (hl : x.last.natAbs < 2 ^ 200) (hd : 0 < x.dv) (hS : ShAt K D G M1 x.q x.ob x.r x.cs) (g : GoodSh x.ob x.r x.cs) :
    Ev (tCall (spec (askPre K C D) askPost) [] E tA) σ G M (isV (.bl true) M1) :=
  ev_call x h fun G1 vs e q => by
    obtain ⟨v1, v2, v3, v4, v5, v6, v7, rfl, p1, p2, p3, p4, p5, p6, p7⟩ := allP7 q
    subst p1 p2 p4 p5 p6 p7
    exact ⟨v3, rfl, p3, hW.up e, hs, hl, hd, hS.ex e, g⟩
end
/-- results beside one -/
def besD (x : Int × List Int × Int) : PyData := .tuple [.int x.1, .list (x.2.1.map .int), .int x.2.2]
def othB (b : Int) : Int := b + 1 - 2 * (if decide (b = 12) then 1 else 0)
def besides (b : Int) (figs : List Int) (last : Int) : List (Int × List Int × Int) :=
  [(b, figs, last + 1), (b, figs ++ [0], last)] ++ (if figs.all (fun f => decide (f < othB b)) then [(othB b, figs, last)] else []) ++
    (if figs = [] then [] else [(b, figs.dropLast, last * b + figs.getLastD 0), (b, (figs.headD 0 + 1) % b :: figs.tail, last)])
abbrev besPre (K : PySem.W.Frag) : (Int × List Int × Int) → Hp → Mem → List V → Prop := fun x G M vs => ∃ v, vs = [.int x.1, v, .int x.2.2] ∧ Dp K G v (.list (x.2.1.map .int)) ∧ (2 ≤ x.1 ∧ x.1 ≤ 12) ∧ x.2.1.length ≤ 1000 ∧ ∀ f ∈ x.2.1, 0 ≤ f ∧ f < x.1
abbrev besPost (K : PySem.W.Frag) : (Int × List Int × Int) → Mem → Post := fun x M => isD K (.list ((besides x.1 x.2.1 x.2.2).map besD)) M
theorem besides_ne {b last : Int} {figs : List Int} (hb : 2 ≤ b) (hf : ∀ f ∈ figs, 0 ≤ f ∧ f < b) : ∀ x ∈ besides b figs last, x ≠ (b, figs, last) := by
  intro x hx e
  subst e
  have hob : othB b ≠ b := by
    unfold othB
    split <;> omega
  unfold besides at hx
  rcases List.mem_append.mp hx with hx | hx
  · rcases List.mem_append.mp hx with hx | hx
    · rcases List.mem_cons.mp hx with h | hx
      · have : last = last + 1 := congrArg (fun t => t.2.2) h
        omega
      · have h := List.mem_singleton.mp hx
        have : figs = figs ++ [0] := congrArg (fun t => t.2.1) h
        have := congrArg List.length this
        simp at this
    · split at hx
      · have h := List.mem_singleton.mp hx
        exact hob (congrArg (fun t => t.1) h).symm
      · cases hx
  · split at hx
    · cases hx
    · rename_i hne
      obtain ⟨f, fs, rfl⟩ := List.exists_cons_of_ne_nil hne
      rcases List.mem_cons.mp hx with h | hx
      · have : f :: fs = (f :: fs).dropLast := congrArg (fun t => t.2.1) h
        have := congrArg List.length this
        simp at this
      · have h := List.mem_singleton.mp hx
        have : f :: fs = (f + 1) % b :: fs := congrArg (fun t => t.2.1) h
        have h1 : f = (f + 1) % b := (List.cons.inj this).1
        obtain ⟨f0, f1⟩ := hf f List.mem_cons_self
        by_cases e : f + 1 = b
        · rw [e, Int.emod_self] at h1
          omega
        · rw [Int.emod_eq_of_lt (by omega) (by omega)] at h1
          omega
theorem besides_len {b last : Int} {figs : List Int} : ∀ x ∈ besides b figs last, x.2.1.length ≤ figs.length + 1 := by
  intro x hx
  unfold besides at hx
  rcases List.mem_append.mp hx with hx | hx
  · rcases List.mem_append.mp hx with hx | hx
    · rcases List.mem_cons.mp hx with rfl | hx
      · exact Nat.le_succ _
      · cases List.mem_singleton.mp hx
        simp
    · split at hx
      · cases List.mem_singleton.mp hx
        exact Nat.le_succ _
      · cases hx
  · split at hx
    · cases hx
    · rename_i hne
      obtain ⟨f, fs, rfl⟩ := List.exists_cons_of_ne_nil hne
      rcases List.mem_cons.mp hx with rfl | hx
      · simp
        omega
      · cases List.mem_singleton.mp hx
        simp
abbrev weqRPre (K : PySem.W.Frag) (C : Addr) : (Addr × Int × List Int × Int) → Hp → Mem → List V → Prop := fun x G M vs => ∃ v, vs = [.ref x.1, .int x.2.1, v, .int x.2.2.2] ∧ WrG K C x.1 x.2.1 x.2.2.1 x.2.2.2 G ∧ Dp K G v (.list (x.2.2.1.map .int)) ∧ (2 ≤ x.2.1 ∧ x.2.1 ≤ 12) ∧ x.2.2.1.length ≤ 1000 ∧ ∀ f ∈ x.2.2.1, 0 ≤ f ∧ f < x.2.1
end SX
namespace SX
open PySem PySem.Spec L2
theorem cutD_init {ds : List PyData} : cutD ds none (some (-1)) = ds.dropLast := by
  unfold cutD
  rw [HT.sIx_none, Nat.sub_zero, List.drop_zero, List.dropLast_eq_take]
  congr 1
  show (if (-1 : Int) < 0 then ((-1 : Int) + (ds.length : Int)).toNat else min (-1 : Int).toNat ds.length) = ds.length - 1
  rw [if_pos (by decide)]
  omega
theorem atI_last {α : Type} {xs : List α} {x : α} (h : xs.getLast? = some x) : atI xs (-1) = some x := by
  rw [List.getLast?_eq_getElem?] at h
  have hl : xs.length - 1 < xs.length := (List.getElem?_eq_some_iff.mp h).1
  unfold atI ixN
  rw [if_neg (by decide), if_pos (by omega)]
  show xs[((-1 : Int) + xs.length).toNat]? = some x
  rw [show ((-1 : Int) + xs.length).toNat = xs.length - 1 by omega]
  exact h
section
variable {K : PySem.W.Frag} {σ : L2.St} {G : Hp} {M M1 : Mem} {tA : TA} {E : XK} {C : Addr}
theorem ev_bes {b last : Int} {figs : List Int} (h : EvA tA σ G M [fun _ v => v = .int b, fun G v => Dp K G v (.list (figs.map .int)), fun _ v => v = .int last] M1) (hb : 2 ≤ b ∧ b ≤ 12) (hl : figs.length ≤ 1000) (hf : ∀ f ∈ figs, 0 ≤ f ∧ f < b) :
    Ev (tCall (spec (besPre K) (besPost K)) [] E tA) σ G M (isD K (.list ((besides b figs last).map besD)) M1) :=
  ev_call (b, figs, last) h fun G1 vs e q => by
    obtain ⟨v1, v2, v3, rfl, p1, p2, p3⟩ := allP3 q
    subst p1 p3
    exact ⟨v2, rfl, p2, hb, hl, hf⟩
theorem ev_weqR {p : Addr} {b last : Int} {figs : List Int} (h : EvA tA σ G M [fun _ v => v = .ref p, fun _ v => v = .int b, fun G v => Dp K G v (.list (figs.map .int)), fun _ v => v = .int last] M1) (hW : WrG K C p b figs last G) (hb : 2 ≤ b ∧ b ≤ 12) (hl : figs.length ≤ 1000) (hf : ∀ f ∈ figs, 0 ≤ f ∧ f < b) :
    Ev (tCall (spec (weqRPre K C) wrRPost) [] E tA) σ G M (isV (.bl true) M1) :=
  ev_call (p, b, figs, last) h fun G1 vs e q => by
    obtain ⟨v1, v2, v3, v4, rfl, p1, p2, p3, p4⟩ := allP4 q
    subst p1 p2 p4
    exact ⟨v3, rfl, hW.up e, p3, hb, hl, hf⟩
end
end SX

set_option Elab.async false
set_option linter.all false
set_option maxRecDepth 100000
/-! SXn: the order of data; of sheets. -/
namespace SX
open PySem PySem.Spec L2
def rOrdD (K : PySem.W.Frag) (f : PyData → PyData → Bool) : R2 := fun x y H Q => ∃ d e, Dp K H x d ∧ Dp K H y e ∧ PySem.W.alike d e = true ∧ d ≠ .none ∧ PyData.depth d ≤ 64 ∧ Q (.bl (f d e)) H
section
variable {X : Cx} {K : PySem.W.Frag}
theorem room_min {u a b : Nat} (h : a ≤ 64) (hu : u + 64 < cLine) : u + min a b < cLine := by omega
theorem op_ltD (hu : X.A.units + 64 < cLine) : OpR X (compareOp .Lt) (rOrdD X.K fun d e => PySem.W.dataLt d e) := by
  intro pins s σ H x y v u Q I rx ry h
  obtain ⟨d, e, hd, he, al, hn, dp, q⟩ := h
  obtain ⟨as, r1⟩ := Dp.reads I d x v hd rx
  obtain ⟨bs, r2⟩ := Dp.reads I e y u he ry
  exact PySem.W.lt_data r1 r2 al hn (room_min dp hu) ⟨.bl _, H, I, rfl, q⟩
theorem op_gtD (hu : X.A.units + 64 < cLine) : OpR X (compareOp .Gt) (rOrdD X.K fun d e => PySem.W.dataLt e d) := by
  intro pins s σ H x y v u Q I rx ry h
  obtain ⟨d, e, hd, he, al, hn, dp, q⟩ := h
  obtain ⟨as, r1⟩ := Dp.reads I d x v hd rx
  obtain ⟨bs, r2⟩ := Dp.reads I e y u he ry
  exact PySem.W.gt_data r1 r2 al hn (room_min dp hu) ⟨.bl _, H, I, rfl, q⟩
theorem op_leD (hu : X.A.units + 64 < cLine) : OpR X (compareOp .LtE) (rOrdD X.K fun d e => !PySem.W.dataLt e d) := by
  intro pins s σ H x y v u Q I rx ry h
  obtain ⟨d, e, hd, he, al, hn, dp, q⟩ := h
  obtain ⟨as, r1⟩ := Dp.reads I d x v hd rx
  obtain ⟨bs, r2⟩ := Dp.reads I e y u he ry
  exact PySem.W.le_data r1 r2 al hn (room_min dp hu) ⟨.bl _, H, I, rfl, q⟩
theorem op_geD (hu : X.A.units + 64 < cLine) : OpR X (compareOp .GtE) (rOrdD X.K fun d e => !PySem.W.dataLt d e) := by
  intro pins s σ H x y v u Q I rx ry h
  obtain ⟨d, e, hd, he, al, hn, dp, q⟩ := h
  obtain ⟨as, r1⟩ := Dp.reads I d x v hd rx
  obtain ⟨bs, r2⟩ := Dp.reads I e y u he ry
  exact PySem.W.ge_data r1 r2 al hn (room_min dp hu) ⟨.bl _, H, I, rfl, q⟩
theorem k_ltD (hK : X.K = K) (hu : X.A.units + 64 < cLine) : OpR X (compareOp .Lt) (rOrdD K fun d e => PySem.W.dataLt d e) := hK ▸ op_ltD hu
theorem k_gtD (hK : X.K = K) (hu : X.A.units + 64 < cLine) : OpR X (compareOp .Gt) (rOrdD K fun d e => PySem.W.dataLt e d) := hK ▸ op_gtD hu
theorem k_leD (hK : X.K = K) (hu : X.A.units + 64 < cLine) : OpR X (compareOp .LtE) (rOrdD K fun d e => !PySem.W.dataLt e d) := hK ▸ op_leD hu
theorem k_geD (hK : X.K = K) (hu : X.A.units + 64 < cLine) : OpR X (compareOp .GtE) (rOrdD K fun d e => !PySem.W.dataLt d e) := hK ▸ op_geD hu
end
theorem ev_ordD {K : PySem.W.Frag} {σ : L2.St} {G : Hp} {M M1 M2 : Mem} {ta tb : TE} {f : PyData → PyData → Bool} {d e : PyData} (h1 : Ev ta σ G M (isD K d M1)) (h2 : Ev tb σ G M1 (isD K e M2)) (al : PySem.W.alike d e = true) (hn : d ≠ .none) (dp : PyData.depth d ≤ 64) : Ev (tOp (rOrdD K f) ta tb) σ G M (isV (.bl (f d e)) M2) :=
  ev_op h1 h2 fun G1 H F x' y' ex m p1 p2 Q q => ⟨d, e, dm p1 m.ex, dm p2 m.ex, al, hn, dp, q _ G1 _ H (Ex.refl _) m ⟨rfl, rfl⟩⟩
/-- the first difference decides -/
def lexI : List Int → List Int → Bool
  | [], [] => false
  | [], _ :: _ => true
  | _ :: _, [] => false
  | x :: xs, y :: ys => if x = y then lexI xs ys else decide (x < y)
def lexC : List (List Int) → List (List Int) → Bool
  | [], [] => false
  | [], _ :: _ => true
  | _ :: _, [] => false
  | x :: xs, y :: ys => if x = y then lexC xs ys else lexI x y
theorem alike_ints : ∀ (a b : List Int), PySem.W.alikeAll (a.map PyData.int) (b.map PyData.int) = true
  | [], _ => by rw [List.map_nil, PySem.W.alikeAll]
  | _ :: _, [] => by rw [List.map_nil, List.map_cons, PySem.W.alikeAll]
  | x :: xs, y :: ys => by
    rw [List.map_cons, List.map_cons, PySem.W.alikeAll, alike_ints xs ys]
    rfl
theorem lex_ints : ∀ (xs ys : List Int), PyProof.Rows.lexLt PyProof.Rows.itemOrd (PySem.W.keyToksAll (xs.map PyData.int)) (PySem.W.keyToksAll (ys.map PyData.int)) = lexI xs ys
  | [], [] => PyProof.Rows.lex_irrefl _
  | [], y :: ys => by
    rw [List.map_nil, List.map_cons, PySem.W.toks_all_cons]
    simp only [PySem.W.keyToksAll]
    rw [PyProof.Rows.lex_diff (O := PyProof.Rows.itemOrd) (by simp)]
    rfl
  | x :: xs, [] => by
    rw [List.map_nil, List.map_cons, PySem.W.toks_all_cons]
    simp only [PySem.W.keyToksAll]
    rw [PyProof.Rows.lex_diff (O := PyProof.Rows.itemOrd) (by simp)]
    rfl
  | x :: xs, y :: ys => by
    rw [List.map_cons, List.map_cons, lexI]
    by_cases h : x = y
    · rw [if_pos h, PySem.W.dataLt_all_yes rfl (by subst h; simp [PyData.eqv]), lex_ints xs ys]
    · rw [if_neg h, PySem.W.dataLt_all_no rfl (by simp [PyData.eqv, h])]
      exact PySem.W.dataLt_int x y
theorem alike_col (a b : List Int) : PySem.W.alike (colD a) (colD b) = true := by
  unfold colD
  rw [PySem.W.alike]
  exact alike_ints a b
theorem alike_cols : ∀ (a b : List (List Int)), PySem.W.alikeAll (a.map colD) (b.map colD) = true
  | [], _ => by rw [List.map_nil, PySem.W.alikeAll]
  | _ :: _, [] => by rw [List.map_nil, List.map_cons, PySem.W.alikeAll]
  | x :: xs, y :: ys => by
    rw [List.map_cons, List.map_cons, PySem.W.alikeAll, alike_cols xs ys, alike_col]
    rfl
theorem lt_col (a b : List Int) : PySem.W.dataLt (colD a) (colD b) = lexI a b := by
  unfold colD
  rw [PySem.W.dataLt_tuple, lex_ints]
theorem lex_cols : ∀ (xs ys : List (List Int)), PyProof.Rows.lexLt PyProof.Rows.itemOrd (PySem.W.keyToksAll (xs.map colD)) (PySem.W.keyToksAll (ys.map colD)) = lexC xs ys
  | [], [] => PyProof.Rows.lex_irrefl _
  | [], y :: ys => by
    rw [List.map_nil, List.map_cons, PySem.W.toks_all_cons]
    simp only [PySem.W.keyToksAll]
    rw [PyProof.Rows.lex_diff (O := PyProof.Rows.itemOrd) (by simp)]
    rfl
  | x :: xs, [] => by
    rw [List.map_nil, List.map_cons, PySem.W.toks_all_cons]
    simp only [PySem.W.keyToksAll]
    rw [PyProof.Rows.lex_diff (O := PyProof.Rows.itemOrd) (by simp)]
    rfl
  | x :: xs, y :: ys => by
    rw [List.map_cons, List.map_cons, lexC]
    by_cases h : x = y
    · rw [if_pos h, PySem.W.dataLt_all_yes (alike_col x y) (by rw [eqv_col, decide_eq_true_eq]; exact h), lex_cols xs ys]
    · rw [if_neg h, PySem.W.dataLt_all_no (alike_col x y) (by rw [eqv_col, decide_eq_false_iff_not]; exact h)]
      exact lt_col x y
/-- where a sheet stands in the order -/
def placeD (b r : Int) (cs : List (List Int)) : PyData := .tuple [.int b, .int r, .int (cs.length : Int), .list (cs.map colD)]
def ltS (cs ds : List (List Int)) : Bool := if cs.length = ds.length then lexC cs ds else decide (cs.length < ds.length)
theorem alike_place (b r b' r' : Int) (cs ds : List (List Int)) : PySem.W.alike (placeD b r cs) (placeD b' r' ds) = true := by
  unfold placeD
  simp only [PySem.W.alike, PySem.W.alikeAll, Bool.true_and, Bool.and_true]
  exact alike_cols cs ds
theorem lt_place (b r : Int) (cs ds : List (List Int)) : PySem.W.dataLt (placeD b r cs) (placeD b r ds) = ltS cs ds := by
  unfold placeD ltS
  rw [PySem.W.dataLt_tuple, PySem.W.dataLt_all_yes rfl (by simp [PyData.eqv]), PySem.W.dataLt_all_yes rfl (by simp [PyData.eqv])]
  by_cases h : cs.length = ds.length
  · rw [if_pos h, PySem.W.dataLt_all_yes rfl (by simp [PyData.eqv, h])]
    by_cases e : cs = ds
    · subst e
      rw [PyProof.Rows.lex_irrefl, ← lex_cols, PyProof.Rows.lex_irrefl]
    · rw [PySem.W.dataLt_all_no (by rw [PySem.W.alike]; exact alike_cols cs ds) (by rw [eqv_cols, decide_eq_false_iff_not]; exact e), PySem.W.dataLt_list, lex_cols]
  · rw [if_neg h, PySem.W.dataLt_all_no rfl (by simp [PyData.eqv]; omega), PySem.W.dataLt_int]
    rw [decide_eq_decide]
    omega
end SX
namespace SX
open PySem PySem.Spec L2
section
variable {K : PySem.W.Frag} {σ : L2.St} {G : Hp} {M M1 M2 : Mem} {ta tb : TE} {E : XK} {C : Addr}
/-- what is compared, wherever the columns stand -/
abbrev plPre (K : PySem.W.Frag) (C : Addr) : (Addr × Addr × Addr × List V × Int × Int) → Hp → Mem → List V → Prop := fun x G M vs => vs = [.ref x.1] ∧ At G M x.1 (.ins C x.2.1 (shF (.int x.2.2.2.2.1) (.int x.2.2.2.2.2) (.ref x.2.2.1))) ∧ AtL K G M x.2.2.1 x.2.2.2.1
abbrev plPost : (Addr × Addr × Addr × List V × Int × Int) → Mem → Post := fun x M G v M' => ∃ t, v = .ref t ∧ M' = M ∧ G t = some (.tup [.int x.2.2.2.2.1, .int x.2.2.2.2.2, .int (x.2.2.2.1.length : Int), .ref x.2.2.1])
theorem da_place {t l : Addr} {xs : List V} {b r : Int} {cs : List (List Int)} (ht : G t = some (.tup [.int b, .int r, .int (xs.length : Int), .ref l])) (hA : AtL K G M l xs) (hd : DpAll K G xs (cs.map colD)) : Da K G M (.ref t) (placeD b r cs) := fun G1 H F e m => by
  have hl : xs.length = cs.length := by rw [dpa_len hd, List.length_map]
  rw [hl] at ht
  exact .tup (SqT.of (m.ex _ _ (e _ _ ht))) (.cons (.int b) (.cons (.int r) (.cons (.int _) (.cons (.lst (hA G1 H F e m) (dma hd (e.trans m.ex))) .nil))))
theorem sh_place (b r : Int) (cs : List (List Int)) : SeqAt.shaped (placeD b r cs) = true := (sh_tup (n := 2) fun d hd => by
  rcases List.mem_cons.mp hd with rfl | hd
  · exact sh_int _
  · rcases List.mem_cons.mp hd with rfl | hd
    · exact sh_int _
    · rcases List.mem_cons.mp hd with rfl | hd
      · exact sh_int _
      · cases List.mem_singleton.mp hd
        exact sh_cols cs).ok
theorem dep_place (b r : Int) (cs : List (List Int)) : PyData.depth (placeD b r cs) ≤ 64 := by
  have := sh_place b r cs
  unfold SeqAt.shaped at this
  simp only [Bool.and_eq_true, decide_eq_true_eq] at this
  exact this.2
theorem eqv_place (b r b' r' : Int) (cs ds : List (List Int)) : PyData.eqv (placeD b r cs) (placeD b' r' ds) = decide ((b, r, cs) = (b', r', ds)) := by
  unfold placeD
  simp only [PyData.eqv, PyData.eqvAll, Bool.and_true]
  have := eqv_cols cs ds
  simp only [PyData.eqv] at this
  rw [this, Bool.eq_iff_iff]
  simp only [Bool.and_eq_true, decide_eq_true_eq, beq_iff_eq, Prod.mk.injEq]
  constructor
  · rintro ⟨h1, h2, h3, h4⟩
    exact ⟨h1, h2, h4⟩
  · rintro ⟨h1, h2, h4⟩
    exact ⟨h1, h2, by rw [h4], h4⟩
theorem ev_ordX {f : PyData → PyData → Bool} {d e : PyData} {P1 P2 : Hp → V → Prop} [Mono P1] (h1 : Ev ta σ G M (isP P1 M1)) (h2 : Ev tb σ G M1 (isP P2 M2)) (c1 : ∀ G1 v, Ex G G1 → P1 G1 v → Da K G1 M2 v d) (c2 : ∀ G1 v, Ex G G1 → P2 G1 v → Da K G1 M2 v e) (al : PySem.W.alike d e = true) (hn : d ≠ .none) (dp : PyData.depth d ≤ 64) : Ev (tOp (rOrdD K f) ta tb) σ G M (isV (.bl (f d e)) M2) :=
  ev_op h1 h2 fun G1 H F x' y' ex m p1 p2 Q q => ⟨d, e, c1 G1 x' ex p1 G1 H F (Ex.refl _) m, c2 G1 y' ex p2 G1 H F (Ex.refl _) m, al, hn, dp, q _ G1 _ H (Ex.refl _) m ⟨rfl, rfl⟩⟩
theorem ev_eqX {d e : PyData} {P1 P2 : Hp → V → Prop} [Mono P1] (h1 : Ev ta σ G M (isP P1 M1)) (h2 : Ev tb σ G M1 (isP P2 M2)) (c1 : ∀ G1 v, Ex G G1 → P1 G1 v → Da K G1 M2 v d) (c2 : ∀ G1 v, Ex G G1 → P2 G1 v → Da K G1 M2 v e) (s1 : SeqAt.shaped d = true) (s2 : SeqAt.shaped e = true) : Ev (tOp (rEqD K) ta tb) σ G M (isV (.bl (PyData.eqv d e)) M2) :=
  ev_op h1 h2 fun G1 H F x' y' ex m p1 p2 Q q => ⟨d, e, c1 G1 x' ex p1 G1 H F (Ex.refl _) m, c2 G1 y' ex p2 G1 H F (Ex.refl _) m, s1, s2, q _ G1 _ H (Ex.refl _) m ⟨rfl, rfl⟩⟩
/-- the tuple that is compared -/
def PlF (l : Addr) (n : Nat) (b r : Int) (G : Hp) (v : V) : Prop := ∃ t, v = .ref t ∧ G t = some (.tup [.int b, .int r, .int (n : Int), .ref l])
instance {l : Addr} {n : Nat} {b r : Int} : Mono (PlF l n b r) := ⟨fun G G' v e h => by
  obtain ⟨t, h1, h2⟩ := h
  exact ⟨t, h1, e _ _ h2⟩⟩
theorem ev_placeO {p dx l : Addr} {xs : List V} {b r : Int} (h : Ev ta σ G M (isV (.ref p) M)) (hp : At G M p (.ins C dx (shF (.int b) (.int r) (.ref l)))) (hA : AtL K G M l xs) (h1 : ¬ (("_place" : Str) = "_base") := by decide +kernel) (h2 : ¬ (("_place" : Str) = "_rows") := by decide +kernel) (h3 : ¬ (("_place" : Str) = "_columns") := by decide +kernel) :
    Ev (tMeth C "_place" (spec (plPre K C) plPost) [] E ta tNil) σ G M (isP (PlF l xs.length b r) M) :=
  (ev_meth (pre := plPre K C) (post := plPost) (p, dx, l, xs, b, r) h hp (shF_no h1 h2 h3) ea_nil fun G1 vs e a => by
    match vs, a with
    | [], _ => exact ⟨rfl, hp.ex e, hA.ex e⟩).imp fun G1 v M1 e z => by
      obtain ⟨t, h1, h2, h3⟩ := z
      exact ⟨⟨t, h1, h3⟩, h2⟩
/-- two sheets compared -/
abbrev cmpPre (K : PySem.W.Frag) (C : Addr) : ((Addr × Int × Int × List (List Int)) × (Addr × Int × Int × List (List Int))) → Hp → Mem → List V → Prop := fun x G M vs => vs = [.ref x.1.1, .ref x.2.1] ∧ ShAt K C G M x.1.1 x.1.2.1 x.1.2.2.1 x.1.2.2.2 ∧ ShAt K C G M x.2.1 x.2.2.1 x.2.2.2.1 x.2.2.2.2
abbrev cmpPost (f : PyData → PyData → Bool) : ((Addr × Int × Int × List (List Int)) × (Addr × Int × Int × List (List Int))) → Mem → Post := fun x M => isV (.bl (f (placeD x.1.2.1 x.1.2.2.1 x.1.2.2.2) (placeD x.2.2.1 x.2.2.2.1 x.2.2.2.2))) M
/-- one op other by the own comparison -/
theorem ev_cmpS {f : PyData → PyData → Bool} {P1 P2 : Hp → V → Prop} [Mono P1] {b r b' r' : Int} {cs ds : List (List Int)} (h1 : Ev ta σ G M (isP P1 M1)) (h2 : Ev tb σ G M1 (isP P2 M2)) (c1 : ∀ G1 v, Ex G G1 → P1 G1 v → ∃ p, v = .ref p ∧ ShAt K C G1 M2 p b r cs) (c2 : ∀ G1 v, Ex G G1 → P2 G1 v → ∃ p, v = .ref p ∧ ShAt K C G1 M2 p b' r' ds) :
    Ev (tOp (rCmpO C (spec (cmpPre K C) (cmpPost f)) E) ta tb) σ G M (isV (.bl (f (placeD b r cs) (placeD b' r' ds))) M2) :=
  ev_op h1 h2 fun G1 H F x' y' e m p1 p2 Q k => by
    obtain ⟨p, rfl, dx, l, xs, k1, k2, k3⟩ := c1 G1 _ e p1
    obtain ⟨q, rfl, dy, l', ys, j1, j2, j3⟩ := c2 G1 _ e p2
    exact ⟨p, dx, _, q, dy, _, rfl, rfl, k1 G1 H F (Ex.refl _) m, j1 G1 H F (Ex.refl _) m, ((p, b, r, cs), (q, b', r', ds)), G1, M2, F, m, ⟨rfl, ⟨dx, l, xs, k1, k2, k3⟩, ⟨dy, l', ys, j1, j2, j3⟩⟩, fun v G' M' H' e' m' r' => k v G' M' H' e' m' r'⟩
end
end SX
namespace SX
open PySem PySem.Spec L2
/-- what the law's order says -/
def ordV (cs ds : List (List Int)) : Int := if cs = ds then 0 else if ltS cs ds then -1 else 1
theorem lexI_tri : ∀ (a b : List Int), a.length = b.length → a ≠ b → lexI b a = !lexI a b
  | [], [], _, h => absurd rfl h
  | [], _ :: _, h, _ => by simp at h
  | _ :: _, [], h, _ => by simp at h
  | x :: xs, y :: ys, h, hn => by
    unfold lexI
    by_cases e : x = y
    · subst e
      rw [if_pos rfl, if_pos rfl]
      exact lexI_tri xs ys (by simpa using h) (fun z => hn (by rw [z]))
    · rw [if_neg e, if_neg (fun z => e z.symm), ← decide_not, decide_eq_decide]
      omega
theorem lexC_tri {n : Nat} : ∀ (a b : List (List Int)), (∀ c ∈ a, c.length = n) → (∀ c ∈ b, c.length = n) → a.length = b.length → a ≠ b → lexC b a = !lexC a b
  | [], [], _, _, _, h => absurd rfl h
  | [], _ :: _, _, _, h, _ => by simp at h
  | _ :: _, [], _, _, h, _ => by simp at h
  | x :: xs, y :: ys, ha, hb, h, hn => by
    unfold lexC
    by_cases e : x = y
    · subst e
      rw [if_pos rfl, if_pos rfl]
      exact lexC_tri xs ys (fun c hc => ha c (List.mem_cons_of_mem _ hc)) (fun c hc => hb c (List.mem_cons_of_mem _ hc)) (by simpa using h) (fun z => hn (by rw [z]))
    · rw [if_neg e, if_neg (fun z => e z.symm)]
      exact lexI_tri x y ((ha x List.mem_cons_self).trans (hb y List.mem_cons_self).symm) e
theorem ltS_self (a : List (List Int)) : ltS a a = false := by
  unfold ltS
  rw [if_pos rfl, ← lex_cols, PyProof.Rows.lex_irrefl]
theorem ltS_tri {n : Nat} {a b : List (List Int)} (ha : ∀ c ∈ a, c.length = n) (hb : ∀ c ∈ b, c.length = n) (h : a ≠ b) : ltS b a = !ltS a b := by
  unfold ltS
  by_cases e : a.length = b.length
  · rw [if_pos e, if_pos e.symm]
    exact lexC_tri a b ha hb e h
  · rw [if_neg e, if_neg (fun z => e z.symm), ← decide_not, decide_eq_decide]
    omega
theorem lexI_at : ∀ {a b : List Int} {j : Nat} {x y : Int}, a.take j = b.take j → a[j]? = some x → b[j]? = some y → x ≠ y → lexI a b = decide (x < y)
  | [], _, _, _, _, _, h, _, _ => by simp at h
  | _ :: _, [], _, _, _, _, _, h, _ => by simp at h
  | p :: ps, q :: qs, 0, x, y, _, h1, h2, hn => by
    cases h1
    cases h2
    unfold lexI
    rw [if_neg hn]
  | p :: ps, q :: qs, j + 1, x, y, ht, h1, h2, hn => by
    rw [List.take_succ_cons, List.take_succ_cons] at ht
    obtain ⟨e, ht2⟩ := List.cons.inj ht
    subst e
    unfold lexI
    rw [if_pos rfl]
    exact lexI_at ht2 h1 h2 hn
theorem lexC_at : ∀ {a b : List (List Int)} {j : Nat} {x y : List Int}, a.take j = b.take j → a[j]? = some x → b[j]? = some y → x ≠ y → lexC a b = lexI x y
  | [], _, _, _, _, _, h, _, _ => by simp at h
  | _ :: _, [], _, _, _, _, _, h, _ => by simp at h
  | p :: ps, q :: qs, 0, x, y, _, h1, h2, hn => by
    cases h1
    cases h2
    unfold lexC
    rw [if_neg hn]
  | p :: ps, q :: qs, j + 1, x, y, ht, h1, h2, hn => by
    rw [List.take_succ_cons, List.take_succ_cons] at ht
    obtain ⟨e, ht2⟩ := List.cons.inj ht
    subst e
    unfold lexC
    rw [if_pos rfl]
    exact lexC_at ht2 h1 h2 hn
section
variable {K : PySem.W.Frag} {σ : L2.St} {G : Hp} {M M1 : Mem} {ta te : TE} {p : Addr} {R : Post}
/-- append of what leaves an unnamed memory -/
theorem ev_appendE {xs : List V} {n : Nat} (h : Ev te σ G M (isV (.ref p) M)) (h2 : Ev ta σ G M R) (hl : ∀ G1 v M1, R G1 v M1 → M1[n]? = some (p, .lst xs)) (hl0 : ∃ (k : Nat) (ys : List V), M[k]? = some (p, HO.lst ys)) (hz : xs.length ≤ 100000) :
    Ev (tBM K "list" rAppend te (tCons ta tNil)) σ G M (fun G v M' => v = .non ∧ ∃ y M1, R G y M1 ∧ M' = M1.set n (p, .lst (xs ++ [y]))) := fun G1 H F e m Q q =>
  h G1 H F e m _ fun v G2 M2 H2 e2 m2 r => by
    obtain ⟨rfl, rfl⟩ := r
    obtain ⟨k, ys, hk⟩ := hl0
    refine ⟨.inl ⟨rfl, ys, SqL.of (m2.getF hk)⟩, h2 G2 H2 F (e.trans e2) m2 _ fun y G3 M3 H3 e3 m3 r3 => ?_⟩
    have hM := hl G3 y M3 r3
    exact ⟨p, xs, y, rfl, rfl, m3.getF hM, sz_ok hz, q _ G3 _ _ (e2.trans e3) (m3.putF hM) ⟨rfl, y, M3, r3, rfl⟩⟩
end
end SX
namespace SX
open PySem PySem.Spec L2
abbrev orderPre (K : PySem.W.Frag) : (List (List Int) × List (List Int) × Nat) → Hp → Mem → List V → Prop := fun x G M vs => ∃ v u, vs = [v, u] ∧ Dp K G v (.list (x.1.map colD)) ∧ Dp K G u (.list (x.2.1.map colD)) ∧ x.2.2 ≤ 1000 ∧ x.1.length ≤ 1000 ∧ (∀ c ∈ x.1, c.length = x.2.2) ∧ ∀ c ∈ x.2.1, c.length = x.2.2
abbrev orderPost : (List (List Int) × List (List Int) × Nat) → Mem → Post := fun x M => isV (.int (ordV x.1 x.2.1)) M
abbrev twoPre (K : PySem.W.Frag) (C : Addr) : ((Addr × Int × Int × List (List Int)) × (Addr × Int × Int × List (List Int))) → Hp → Mem → List V → Prop := fun x G M vs => vs = [.ref x.1.1, .ref x.2.1, .int (ordV x.1.2.2.2 x.2.2.2.2)] ∧ ShAt K C G M x.1.1 x.1.2.1 x.1.2.2.1 x.1.2.2.2 ∧ ShAt K C G M x.2.1 x.2.2.1 x.2.2.2.1 x.2.2.2.2 ∧ x.1.2.1 = x.2.2.1 ∧ x.1.2.2.1 = x.2.2.2.1 ∧ GoodSh x.1.2.1 x.1.2.2.1 x.1.2.2.2 ∧ GoodSh x.2.2.1 x.2.2.2.1 x.2.2.2.2
abbrev twoPost : ((Addr × Int × Int × List (List Int)) × (Addr × Int × Int × List (List Int))) → Mem → Post := fun _ M => isV (.bl true) M
theorem ordV_self (a : List (List Int)) : ordV a a = 0 := if_pos rfl
theorem eqv_bools (a b : List Bool) : PyData.eqv (.list (a.map PyData.bool)) (.list (b.map PyData.bool)) = decide (a = b) := by
  simp only [PyData.eqv]
  induction a generalizing b with
  | nil => cases b <;> simp [PyData.eqvAll]
  | cons x xs ih =>
    cases b with
    | nil => simp [PyData.eqvAll]
    | cons y ys =>
      simp only [List.map_cons, PyData.eqvAll, PyData.eqv, ih]
      by_cases h : x = y <;> simp [h]
theorem sh_bools {n : Nat} (ns : List Bool) : Sh (n + 1) (.list (ns.map PyData.bool)) := sh_lst fun d hd => by
  obtain ⟨i, _, rfl⟩ := List.mem_map.mp hd
  exact sh_bl i
end SX
namespace SX
open PySem PySem.Spec L2
abbrev turnPre (K : PySem.W.Frag) : (Addr × Nat × Deck × Int × Int × List (List Int)) → Hp → Mem → List V → Prop := fun x G M vs => ∃ v, vs = [.ref x.1, v, .int x.2.2.2.1, .int x.2.2.2.2.1] ∧ Dp K G v (.list (x.2.2.2.2.2.map colD)) ∧ GoodSh x.2.2.2.1 x.2.2.2.2.1 x.2.2.2.2.2 ∧ x.2.2.2.2.2.length ≤ 20 ∧ M[x.2.1]? = some (x.1, x.2.2.1.ho)
abbrev turnPost (K : PySem.W.Frag) : (Addr × Nat × Deck × Int × Int × List (List Int)) → Mem → Post := fun x M G v M' => ∃ cs D', Dp K G v (.list (cs.map colD)) ∧ M' = M.set x.2.1 (x.1, Deck.ho D') ∧ GoodSh x.2.2.2.1 x.2.2.2.2.1 cs ∧ cs.length ≤ 20
abbrev stranPre (K : PySem.W.Frag) (C : Addr) : (Addr × Nat × Deck × Addr × Int × Int × List (List Int)) → Hp → Mem → List V → Prop := fun x G M vs => ∃ v, vs = [.ref x.1, .ref x.2.2.2.1, .int x.2.2.2.2.1, .int x.2.2.2.2.2.1, v] ∧ Dp K G v (.list (x.2.2.2.2.2.2.map colD)) ∧ (∀ M', ShAt K C G M' x.2.2.2.1 x.2.2.2.2.1 x.2.2.2.2.2.1 x.2.2.2.2.2.2) ∧ GoodSh x.2.2.2.2.1 x.2.2.2.2.2.1 x.2.2.2.2.2.2 ∧ x.2.2.2.2.2.2.length ≤ 20 ∧ M[x.2.1]? = some (x.1, x.2.2.1.ho)
abbrev stranPost : (Addr × Nat × Deck × Addr × Int × Int × List (List Int)) → Mem → Post := fun x M => isV (.bl true) (M.set x.2.1 (x.1, (dn x.2.2.1 5).ho))
section
variable {K : PySem.W.Frag} {σ : L2.St} {G : Hp} {M M1 : Mem} {tl te : TE} {own' : List Nat} {k : Nat} {p : Addr} {xs : List V} {ds : List PyData}
/-- [e for x in l], values of any kind -/
theorem ev_mapP (Pi : Nat → Hp → V → Prop) (hPi : ∀ i G G' v, Ex G G' → Pi i G v → Pi i G' v) (hs : Ev tl σ G M (isV (.ref p) M1)) (hA : AtL K G M1 p xs) (hd : DpAll K G xs ds) (hn : ds.length ≤ 100000)
    (he : ∀ (i : Nat) d x G', ds[i]? = some d → Ex G G' → Dp K G' x d → Ev te ((wipe σ own').set k (some x)) G' M1 (isP (Pi i) M1)) (hw : ∀ x, wipe ((wipe σ own').set k (some x)) own' = wipe σ own') :
    Ev (tLc (iList K tl) (gName k) tYes te own') σ G M (isP (fun G v => ∃ q vs, v = .ref q ∧ G q = some (.lst vs) ∧ vs.length = ds.length ∧ ∀ (i : Nat) y, vs[i]? = some y → Pi i G y) M1) := fun G1 H F e m Q q =>
  hs G1 H F e m _ fun v G2 M2 H2 e2 m2 r2 => by
    obtain ⟨rfl, rfl⟩ := r2
    have hln := dpa_len hd
    refine ⟨p, rfl, ⟨xs, hA _ _ _ (e.trans e2) m2⟩, fun D hD => lc_list (K := K) (a := p) (xs := xs) (fun i H' => ∃ G' vs, Ex G2 G' ∧ Me G' (M2 ++ (D, .lst vs) :: F) H' ∧ vs.length = i ∧ ∀ (j : Nat) y, vs[j]? = some y → Pi j G' y) ?_ ?_ ?_ ?_⟩
    · exact ⟨G2, [], Ex.refl _, by rw [mem_mid]; exact m2.newMid hD, rfl, fun j y h => by simp at h⟩
    · rintro i H' _ ⟨G', vs, e', m', _⟩
      exact hA _ _ _ ((e.trans e2).trans e') m'
    · rintro i x H' hx ⟨G', vs, e', m', hl, hv⟩
      obtain ⟨d, hd', dx⟩ := dpa_atV hd hx
      have hi : i < xs.length := (List.getElem?_eq_some_iff.mp hx).1
      refine ⟨hw x, (et_yes : EvT tYes ((wipe σ own').set k (some x)) G' M2 true M2) G' H' _ (Ex.refl _) m' _ fun G3 H3 e3 m3 => ?_⟩
      rw [if_pos rfl]
      have e03 := ((e.trans e2).trans e').trans e3
      refine he i d x G3 hd' e03 (dm dx e03) G3 H3 _ (Ex.refl _) m3 _ fun y G4 M4 H4 e4 m4 r4 => ?_
      obtain ⟨py, rfl⟩ := r4
      have hm : (M4 ++ (D, HO.lst vs) :: F)[M4.length]? = some (D, .lst vs) := by
        rw [List.getElem?_append_right (Nat.le_refl _), Nat.sub_self]
        rfl
      refine ⟨vs, m4.get hm, by rw [hl]; exact sz_ok (by omega), G4, vs ++ [y], (e'.trans e3).trans e4, ?_, by simp [hl], fun j z hz => ?_⟩
      · have := m4.put (o' := .lst (vs ++ [y])) hm
        rw [List.set_append_right _ _ (Nat.le_refl _), Nat.sub_self] at this
        exact this
      · rw [List.getElem?_append] at hz
        split at hz
        · exact hPi _ _ _ _ (e3.trans e4) (hv j z hz)
        · rename_i hj
          have hji : j = i := by
            have := (List.getElem?_eq_some_iff.mp hz).1
            simp at this
            omega
          subst hji
          rw [hl, Nat.sub_self] at hz
          cases hz
          exact py
    · rintro H' ⟨G', vs, e', m', hl, hv⟩
      rw [mem_mid] at m'
      obtain ⟨m3, e3⟩ := m'.freezeLast
      exact q _ _ M2 H' ((e2.trans e').trans e3) m3 ⟨⟨D, vs, rfl, upd_same, by rw [hl, hln], fun i y hy => hPi _ _ _ _ e3 (hv i y hy)⟩, rfl⟩
end
end SX
namespace SX
open PySem PySem.Spec L2
/-- what is owned and not needed is forgotten behind a statement -/
theorem sv_behind {E : XK} {t : TS} {σ : L2.St} {G : Hp} {M : Mem} {P : Po} (h : Sv E t σ G M { P with nx := fun G2 σ2 M2 => ∃ M0 Mx, M2 = M0 ++ Mx ∧ P.nx G2 σ2 M0 }) : Sv E t σ G M P := fun G1 H F D e m hd =>
  h G1 H F D e m ⟨fun σ2 G2 M2 H2 e2 m2 n => by
    obtain ⟨M0, Mx, rfl, n'⟩ := n
    exact hd.nx σ2 G2 M0 H2 e2 m2.dropLast n', hd.rt, hd.bk, hd.ct, hd.ex⟩
end SX

set_option maxRecDepth 100000
set_option maxHeartbeats 4000000
namespace LW
open PySem L2 SX
local macro_rules | `(tactic| walk_at "ex") => `(tactic| first | exact Ex.refl _ | assumption | (refine Ex.trans ?_ (by assumption); walk_at "ex"))
local macro_rules | `(tactic| walk_at "dp") => `(tactic| first | assumption | exact ints_dpAll _ | (refine dm (by assumption) ?_; walk_at "ex") | (refine dma (by assumption) ?_; walk_at "ex"))
local macro_rules | `(tactic| walk_at "da") => `(tactic| first | assumption | (refine Da.of ?_; walk_at "dp") | (refine Da.ex (by assumption) ?_; walk_at "ex"))
local macro_rules | `(tactic| walk_at "at") => `(tactic| first | assumption | (refine At.ex (by assumption) ?_; walk_at "ex") | (refine AtL.ex (by assumption) ?_; walk_at "ex"))
local macro_rules | `(tactic| walk_at "sd") => `(tactic| first | assumption | rfl | decide | omega)

def topS (i : Nat) : Stmt := PySem.Challenge.pw_sumslips_k05_sheets_in_order.main.body.getD i (.Pass ⟨0, 0, 0, 0⟩)
abbrev s_is_whole : Stmt := topS 7
abbrev s_is_column : Stmt := topS 12
abbrev s__are_columns : Stmt := topS 13
abbrev s_is_base : Stmt := topS 8
abbrev s_is_rows : Stmt := topS 9
abbrev s_Sheet___init__ : Stmt := inClass (topS 14) 0
abbrev s_Sheet_columns : Stmt := inClass (topS 14) 3
abbrev s__law_is_integer : Stmt := topS 19
abbrev s__law_is_column : Stmt := topS 20
abbrev s__law_are_columns : Stmt := topS 21
abbrev s__law_cells : Stmt := topS 16
abbrev s__law_draw : Stmt := topS 18
abbrev s__law_column : Stmt := topS 22
abbrev s__law_columns : Stmt := topS 23
abbrev s__law_deck : Stmt := topS 17
abbrev s__law_order : Stmt := topS 25
abbrev s_Sheet__place : Stmt := inClass (topS 14) 11
abbrev s_Sheet___eq__ : Stmt := inClass (topS 14) 12
abbrev s_place_value : Stmt := topS 10
abbrev s_Sheet_value : Stmt := inClass (topS 14) 4
abbrev s__law_strangers_right : Stmt := topS 27
abbrev s__law_turned : Stmt := topS 24
abbrev s_Sheet___ge__ : Stmt := inClass (topS 14) 16
abbrev s_Sheet___gt__ : Stmt := inClass (topS 14) 15
abbrev s_Sheet___le__ : Stmt := inClass (topS 14) 14
abbrev s_Sheet___lt__ : Stmt := inClass (topS 14) 13
abbrev s__law_two_right : Stmt := topS 26
abbrev s_law : Stmt := topS 28
theorem sc_is_whole : FnScope ["value", "low", "high"] ["value", "low", "high"] (defScope s_is_whole) := ⟨rfl, rfl, rfl, by decide +kernel, rfl, by decide +kernel, by decide +kernel⟩
theorem sc_is_column : FnScope ["base", "rows", "value", "figure"] ["base", "rows", "value"] (defScope s_is_column) := ⟨rfl, rfl, rfl, by decide +kernel, rfl, by decide +kernel, by decide +kernel⟩
theorem sc__are_columns : FnScope ["base", "rows", "value", "column"] ["base", "rows", "value"] (defScope s__are_columns) := ⟨rfl, rfl, rfl, by decide +kernel, rfl, by decide +kernel, by decide +kernel⟩
theorem sc_is_base : FnScope ["value"] ["value"] (defScope s_is_base) := ⟨rfl, rfl, rfl, by decide +kernel, rfl, by decide +kernel, by decide +kernel⟩
theorem sc_is_rows : FnScope ["value"] ["value"] (defScope s_is_rows) := ⟨rfl, rfl, rfl, by decide +kernel, rfl, by decide +kernel, by decide +kernel⟩
theorem sc_Sheet___init__ : FnScope ["self", "base", "rows", "columns", "column"] ["self", "base", "rows", "columns"] (defScope s_Sheet___init__) := ⟨rfl, rfl, rfl, by decide +kernel, rfl, by decide +kernel, by decide +kernel⟩
theorem sc_Sheet_columns : FnScope ["self"] ["self"] (defScope s_Sheet_columns) := ⟨rfl, rfl, rfl, by decide +kernel, rfl, by decide +kernel, by decide +kernel⟩
theorem sc__law_is_integer : FnScope ["found"] ["found"] (defScope s__law_is_integer) := ⟨rfl, rfl, rfl, by decide +kernel, rfl, by decide +kernel, by decide +kernel⟩
theorem sc__law_is_column : FnScope ["found", "due", "figure"] ["found", "due"] (defScope s__law_is_column) := ⟨rfl, rfl, rfl, by decide +kernel, rfl, by decide +kernel, by decide +kernel⟩
theorem sc__law_are_columns : FnScope ["found", "due", "i"] ["found", "due"] (defScope s__law_are_columns) := ⟨rfl, rfl, rfl, by decide +kernel, rfl, by decide +kernel, by decide +kernel⟩
theorem sc__law_cells : FnScope ["script"] ["script"] (defScope s__law_cells) := ⟨rfl, rfl, rfl, by decide +kernel, rfl, by decide +kernel, by decide +kernel⟩
theorem sc__law_draw : FnScope ["deck", "many", "stir", "drawn"] ["deck", "many"] (defScope s__law_draw) := ⟨rfl, rfl, rfl, by decide +kernel, rfl, by decide +kernel, by decide +kernel⟩
theorem sc__law_column : FnScope ["deck", "base", "rows", "way", "figures", "j"] ["deck", "base", "rows"] (defScope s__law_column) := ⟨rfl, rfl, rfl, by decide +kernel, rfl, by decide +kernel, by decide +kernel⟩
theorem sc__law_columns : FnScope ["deck", "base", "rows", "most", "many", "i"] ["deck", "base", "rows", "most"] (defScope s__law_columns) := ⟨rfl, rfl, rfl, by decide +kernel, rfl, by decide +kernel, by decide +kernel⟩
theorem sc__law_deck : FnScope ["cell"] ["cell"] (defScope s__law_deck) := ⟨rfl, rfl, rfl, by decide +kernel, rfl, by decide +kernel, by decide +kernel⟩
theorem sc__law_order : FnScope ["one", "other", "i", "j"] ["one", "other"] (defScope s__law_order) := ⟨rfl, rfl, rfl, by decide +kernel, rfl, by decide +kernel, by decide +kernel⟩
theorem sc_Sheet__place : FnScope ["self"] ["self"] (defScope s_Sheet__place) := ⟨rfl, rfl, rfl, by decide +kernel, rfl, by decide +kernel, by decide +kernel⟩
theorem sc_Sheet___eq__ : FnScope ["self", "other"] ["self", "other"] (defScope s_Sheet___eq__) := ⟨rfl, rfl, rfl, by decide +kernel, rfl, by decide +kernel, by decide +kernel⟩
theorem sc_place_value : FnScope ["base", "figures", "last", "value", "figure"] ["base", "figures", "last"] (defScope s_place_value) := ⟨rfl, rfl, rfl, by decide +kernel, rfl, by decide +kernel, by decide +kernel⟩
theorem sc_Sheet_value : FnScope ["self", "column"] ["self"] (defScope s_Sheet_value) := ⟨rfl, rfl, rfl, by decide +kernel, rfl, by decide +kernel, by decide +kernel⟩
theorem sc__law_strangers_right : FnScope ["deck", "sheet", "base", "rows", "columns", "other_base", "plain", "other_rows", "value", "i", "j"] ["deck", "sheet", "base", "rows", "columns"] (defScope s__law_strangers_right) := ⟨rfl, rfl, rfl, by decide +kernel, rfl, by decide +kernel, by decide +kernel⟩
theorem sc__law_turned : FnScope ["deck", "columns", "base", "rows", "way", "turned", "at", "j", "figure", "figures", "to", "swapped"] ["deck", "columns", "base", "rows"] (defScope s__law_turned) := ⟨rfl, rfl, rfl, by decide +kernel, rfl, by decide +kernel, by decide +kernel⟩
theorem sc_Sheet___ge__ : FnScope ["self", "other"] ["self", "other"] (defScope s_Sheet___ge__) := ⟨rfl, rfl, rfl, by decide +kernel, rfl, by decide +kernel, by decide +kernel⟩
theorem sc_Sheet___gt__ : FnScope ["self", "other"] ["self", "other"] (defScope s_Sheet___gt__) := ⟨rfl, rfl, rfl, by decide +kernel, rfl, by decide +kernel, by decide +kernel⟩
theorem sc_Sheet___le__ : FnScope ["self", "other"] ["self", "other"] (defScope s_Sheet___le__) := ⟨rfl, rfl, rfl, by decide +kernel, rfl, by decide +kernel, by decide +kernel⟩
theorem sc_Sheet___lt__ : FnScope ["self", "other"] ["self", "other"] (defScope s_Sheet___lt__) := ⟨rfl, rfl, rfl, by decide +kernel, rfl, by decide +kernel, by decide +kernel⟩
theorem sc__law_two_right : FnScope ["one", "other", "due", "found", "answer"] ["one", "other", "due"] (defScope s__law_two_right) := ⟨rfl, rfl, rfl, by decide +kernel, rfl, by decide +kernel, by decide +kernel⟩
theorem sc_law : FnScope ["script", "cell", "deck", "base", "rows", "every", "k", "sheets", "n", "columns"] ["script"] (defScope s_law) := ⟨rfl, rfl, rfl, by decide +kernel, rfl, by decide +kernel, by decide +kernel⟩
structure Txt (K : PySem.W.Frag) (mg : Str → Option Value) where
  c_Sheet : Addr
  m_Sheet : mg "Sheet" = some (.ref c_Sheet)
  c_InvalidSheet : Addr
  m_InvalidSheet : mg "InvalidSheet" = some (.ref c_InvalidSheet)
  a_is_whole : Addr
  fd_is_whole : FuncData
  F_is_whole : Fun K "is_whole" "is_whole" s_is_whole a_is_whole fd_is_whole
  b_is_whole : Binds K fd_is_whole ["value", "low", "high"] []
  m_is_whole : mg "is_whole" = some (.ref a_is_whole)
  a_is_column : Addr
  fd_is_column : FuncData
  F_is_column : Fun K "is_column" "is_column" s_is_column a_is_column fd_is_column
  b_is_column : Binds K fd_is_column ["base", "rows", "value"] []
  m_is_column : mg "is_column" = some (.ref a_is_column)
  a__are_columns : Addr
  fd__are_columns : FuncData
  F__are_columns : Fun K "_are_columns" "_are_columns" s__are_columns a__are_columns fd__are_columns
  b__are_columns : Binds K fd__are_columns ["base", "rows", "value"] []
  m__are_columns : mg "_are_columns" = some (.ref a__are_columns)
  a_is_base : Addr
  fd_is_base : FuncData
  F_is_base : Fun K "is_base" "is_base" s_is_base a_is_base fd_is_base
  b_is_base : Binds K fd_is_base ["value"] []
  m_is_base : mg "is_base" = some (.ref a_is_base)
  a_is_rows : Addr
  fd_is_rows : FuncData
  F_is_rows : Fun K "is_rows" "is_rows" s_is_rows a_is_rows fd_is_rows
  b_is_rows : Binds K fd_is_rows ["value"] []
  m_is_rows : mg "is_rows" = some (.ref a_is_rows)
  a_Sheet___init__ : Addr
  fd_Sheet___init__ : FuncData
  F_Sheet___init__ : Fun K "__init__" "Sheet.__init__" s_Sheet___init__ a_Sheet___init__ fd_Sheet___init__
  b_Sheet___init__ : Binds K fd_Sheet___init__ ["self", "base", "rows", "columns"] []
  me_Sheet___init__ : Meth K c_Sheet "__init__" a_Sheet___init__
  a_Sheet_columns : Addr
  fd_Sheet_columns : FuncData
  F_Sheet_columns : Fun K "columns" "Sheet.columns" s_Sheet_columns a_Sheet_columns fd_Sheet_columns
  b_Sheet_columns : Binds K fd_Sheet_columns ["self"] []
  pa_Sheet_columns : Addr
  p_Sheet_columns : PropOf K c_Sheet "columns" pa_Sheet_columns a_Sheet_columns
  a__law_is_integer : Addr
  fd__law_is_integer : FuncData
  F__law_is_integer : Fun K "_law_is_integer" "_law_is_integer" s__law_is_integer a__law_is_integer fd__law_is_integer
  b__law_is_integer : Binds K fd__law_is_integer ["found"] []
  m__law_is_integer : mg "_law_is_integer" = some (.ref a__law_is_integer)
  a__law_is_column : Addr
  fd__law_is_column : FuncData
  F__law_is_column : Fun K "_law_is_column" "_law_is_column" s__law_is_column a__law_is_column fd__law_is_column
  b__law_is_column : Binds K fd__law_is_column ["found", "due"] []
  m__law_is_column : mg "_law_is_column" = some (.ref a__law_is_column)
  a__law_are_columns : Addr
  fd__law_are_columns : FuncData
  F__law_are_columns : Fun K "_law_are_columns" "_law_are_columns" s__law_are_columns a__law_are_columns fd__law_are_columns
  b__law_are_columns : Binds K fd__law_are_columns ["found", "due"] []
  m__law_are_columns : mg "_law_are_columns" = some (.ref a__law_are_columns)
  a__law_cells : Addr
  fd__law_cells : FuncData
  F__law_cells : Fun K "_law_cells" "_law_cells" s__law_cells a__law_cells fd__law_cells
  b__law_cells : Binds K fd__law_cells ["script"] []
  m__law_cells : mg "_law_cells" = some (.ref a__law_cells)
  a__law_draw : Addr
  fd__law_draw : FuncData
  F__law_draw : Fun K "_law_draw" "_law_draw" s__law_draw a__law_draw fd__law_draw
  b__law_draw : Binds K fd__law_draw ["deck", "many"] []
  m__law_draw : mg "_law_draw" = some (.ref a__law_draw)
  a__law_column : Addr
  fd__law_column : FuncData
  F__law_column : Fun K "_law_column" "_law_column" s__law_column a__law_column fd__law_column
  b__law_column : Binds K fd__law_column ["deck", "base", "rows"] []
  m__law_column : mg "_law_column" = some (.ref a__law_column)
  a__law_columns : Addr
  fd__law_columns : FuncData
  F__law_columns : Fun K "_law_columns" "_law_columns" s__law_columns a__law_columns fd__law_columns
  b__law_columns : Binds K fd__law_columns ["deck", "base", "rows", "most"] []
  m__law_columns : mg "_law_columns" = some (.ref a__law_columns)
  a__law_deck : Addr
  fd__law_deck : FuncData
  F__law_deck : Fun K "_law_deck" "_law_deck" s__law_deck a__law_deck fd__law_deck
  b__law_deck : Binds K fd__law_deck ["cell"] []
  m__law_deck : mg "_law_deck" = some (.ref a__law_deck)
  a__law_order : Addr
  fd__law_order : FuncData
  F__law_order : Fun K "_law_order" "_law_order" s__law_order a__law_order fd__law_order
  b__law_order : Binds K fd__law_order ["one", "other"] []
  m__law_order : mg "_law_order" = some (.ref a__law_order)
  a_Sheet__place : Addr
  fd_Sheet__place : FuncData
  F_Sheet__place : Fun K "_place" "Sheet._place" s_Sheet__place a_Sheet__place fd_Sheet__place
  b_Sheet__place : Binds K fd_Sheet__place ["self"] []
  me_Sheet__place : Meth K c_Sheet "_place" a_Sheet__place
  a_Sheet___eq__ : Addr
  fd_Sheet___eq__ : FuncData
  F_Sheet___eq__ : Fun K "__eq__" "Sheet.__eq__" s_Sheet___eq__ a_Sheet___eq__ fd_Sheet___eq__
  b_Sheet___eq__ : Binds K fd_Sheet___eq__ ["self", "other"] []
  me_Sheet___eq__ : Meth K c_Sheet "__eq__" a_Sheet___eq__
  a_place_value : Addr
  fd_place_value : FuncData
  F_place_value : Fun K "place_value" "place_value" s_place_value a_place_value fd_place_value
  b_place_value : Binds K fd_place_value ["base", "figures", "last"] []
  m_place_value : mg "place_value" = some (.ref a_place_value)
  a_Sheet_value : Addr
  fd_Sheet_value : FuncData
  F_Sheet_value : Fun K "value" "Sheet.value" s_Sheet_value a_Sheet_value fd_Sheet_value
  b_Sheet_value : Binds K fd_Sheet_value ["self"] []
  pa_Sheet_value : Addr
  p_Sheet_value : PropOf K c_Sheet "value" pa_Sheet_value a_Sheet_value
  a__law_strangers_right : Addr
  fd__law_strangers_right : FuncData
  F__law_strangers_right : Fun K "_law_strangers_right" "_law_strangers_right" s__law_strangers_right a__law_strangers_right fd__law_strangers_right
  b__law_strangers_right : Binds K fd__law_strangers_right ["deck", "sheet", "base", "rows", "columns"] []
  m__law_strangers_right : mg "_law_strangers_right" = some (.ref a__law_strangers_right)
  a__law_turned : Addr
  fd__law_turned : FuncData
  F__law_turned : Fun K "_law_turned" "_law_turned" s__law_turned a__law_turned fd__law_turned
  b__law_turned : Binds K fd__law_turned ["deck", "columns", "base", "rows"] []
  m__law_turned : mg "_law_turned" = some (.ref a__law_turned)
  a_Sheet___ge__ : Addr
  fd_Sheet___ge__ : FuncData
  F_Sheet___ge__ : Fun K "__ge__" "Sheet.__ge__" s_Sheet___ge__ a_Sheet___ge__ fd_Sheet___ge__
  b_Sheet___ge__ : Binds K fd_Sheet___ge__ ["self", "other"] []
  me_Sheet___ge__ : Meth K c_Sheet "__ge__" a_Sheet___ge__
  a_Sheet___gt__ : Addr
  fd_Sheet___gt__ : FuncData
  F_Sheet___gt__ : Fun K "__gt__" "Sheet.__gt__" s_Sheet___gt__ a_Sheet___gt__ fd_Sheet___gt__
  b_Sheet___gt__ : Binds K fd_Sheet___gt__ ["self", "other"] []
  me_Sheet___gt__ : Meth K c_Sheet "__gt__" a_Sheet___gt__
  a_Sheet___le__ : Addr
  fd_Sheet___le__ : FuncData
  F_Sheet___le__ : Fun K "__le__" "Sheet.__le__" s_Sheet___le__ a_Sheet___le__ fd_Sheet___le__
  b_Sheet___le__ : Binds K fd_Sheet___le__ ["self", "other"] []
  me_Sheet___le__ : Meth K c_Sheet "__le__" a_Sheet___le__
  a_Sheet___lt__ : Addr
  fd_Sheet___lt__ : FuncData
  F_Sheet___lt__ : Fun K "__lt__" "Sheet.__lt__" s_Sheet___lt__ a_Sheet___lt__ fd_Sheet___lt__
  b_Sheet___lt__ : Binds K fd_Sheet___lt__ ["self", "other"] []
  me_Sheet___lt__ : Meth K c_Sheet "__lt__" a_Sheet___lt__
  a__law_two_right : Addr
  fd__law_two_right : FuncData
  F__law_two_right : Fun K "_law_two_right" "_law_two_right" s__law_two_right a__law_two_right fd__law_two_right
  b__law_two_right : Binds K fd__law_two_right ["one", "other", "due"] []
  m__law_two_right : mg "_law_two_right" = some (.ref a__law_two_right)
  a_law : Addr
  fd_law : FuncData
  F_law : Fun K "law" "law" s_law a_law fd_law
  b_law : Binds K fd_law ["script"] []
  m_law : mg "law" = some (.ref a_law)
  cl_Sheet : Cls K c_Sheet
  k_Sheet : Mk K c_Sheet a_Sheet___init__
  na_Sheet__base : NoAttr K c_Sheet "_base"
  na_Sheet__columns : NoAttr K c_Sheet "_columns"
  na_Sheet__rows : NoAttr K c_Sheet "_rows"
  ic_Sheet : IsCls K c_Sheet
  io_Sheet : PySem.W.kitOne K (.ref c_Sheet) (.ref c_Sheet) = some true
  do_Sheet : DataOut K c_Sheet
  x_InvalidSheet : PySem.W.excIn K c_InvalidSheet [.type "ValueError", .type "Exception", .type "BaseException", .type "object"] "ValueError.__new__" = true
  xk_InvalidSheet : PySem.W.keepIn K (.ref c_InvalidSheet) = true
  xb_InvalidSheet : PySem.W.subIn K (.ref c_InvalidSheet) (.type "BaseException") = some true
  xt_InvalidSheet : PySem.W.typeIn K (.ref c_InvalidSheet) = some (.type "type")
  n_all : mg "all" = none
  n_bool : mg "bool" = none
  n_int : mg "int" = none
  n_isinstance : mg "isinstance" = none
  n_len : mg "len" = none
  n_list : mg "list" = none
  n_range : mg "range" = none
  n_sum : mg "sum" = none
  n_tuple : mg "tuple" = none
section
variable {P : Program} {w : World} {K : PySem.W.Frag} {mg : Str → Option Value} {base : Heap}
-- is_whole
theorem ok_is_whole (T : Txt K mg) : FnOk P w K mg base CX0 1 T.a_is_whole T.fd_is_whole ["value", "low", "high"] (spec (wholePre K) wholePost) := by
  refine fn_sv T.F_is_whole sc_is_whole (fun x G M vs h => by obtain ⟨v, rfl, _⟩ := h; rfl) fun cdv A outer s H E hr => ⟨_, (pss_one (ps_ret (pe_and (pe_callB (k_isi (K := K) rfl) (by rfl) T.n_isinstance (by decide +kernel) (pa_cons (pv 0) (pa_cons (pe_bltn (v := .ty "int") (by rfl) T.n_int (by decide +kernel) rfl) pa_nil))) (pe_and (pe_not (pe_callB (k_isi (K := K) rfl) (by rfl) T.n_isinstance (by decide +kernel) (pa_cons (pv 0) (pa_cons (pe_bltn (v := .ty "bool") (by rfl) T.n_bool (by decide +kernel) rfl) pa_nil)))) (pe_one (pe_chain op_le op_le (pv 1) (pv 0) (pv 2))))))), ?_⟩
  rintro ⟨d, lo, hi⟩ G M vs ⟨v, rfl, (dv : Dp K G v d)⟩
  refine sv_ret (ev_andV (ev_isi (.inl rfl) (ev_varP rfl dv)) fun h1 => ev_andV (b := decide (lo ≤ intOf d) && decide (intOf d ≤ hi)) (ev_notV (ev_isi (.inr (.inl rfl)) (ev_varP rfl dv))) fun h2 => ?_) fun v' G' M' e r => ?_
  · have hd := isInt_of h1 (by simpa using h2)
    refine ev_chainI (i := lo) (j := intOf d) (k := hi) (P := fun i j => decide (i ≤ j)) (P' := fun i j => decide (i ≤ j)) (ev_var rfl) (ev_dI (K := K) (ev_varP rfl (by rw [hd] at dv; exact dv))) (ev_var rfl) (fun _ _ q => ⟨_, _, rfl, rfl, q⟩) (fun _ _ q => ⟨_, _, rfl, rfl, q⟩)
  · obtain ⟨rfl, rfl⟩ := r
    refine ⟨?_, rfl⟩
    show V.bl (isTy d "int" && (!isTy d "bool" && _)) = V.bl (isInt d && _)
    rw [← isInt_ty, Bool.and_assoc]

-- is_column
theorem ok_is_column (T : Txt K mg) : FnOk P w K mg base CX0 2 T.a_is_column T.fd_is_column ["base", "rows", "value"] (spec (colPre K) (colPost isCol)) := by
  refine fn_sv T.F_is_column sc_is_column (fun x G M vs h => by obtain ⟨v, rfl, _⟩ := h; rfl) fun cdv A outer s H E hr => ⟨_, (pss_cons (ps_if (PW.pt (pw_or (pt_not (pt_val (pe_callB (k_isi (K := K) rfl) (by rfl) T.n_isinstance (by decide +kernel) (pa_cons (pv 2) (pa_cons (pe_bltn (v := .ty "tuple") (by rfl) T.n_tuple (by decide +kernel) rfl) pa_nil))))) (pw_or1 (pt_cmpR op_ne (pe_callB (k_len (K := K) rfl) (by rfl) T.n_len (by decide +kernel) (pa_cons (pv 2) pa_nil)) (pv 1) (nomark _))))) (pss_one (ps_ret (pe_bl))) (pss_nil)) (pss_one (ps_ret (pe_callB (k_all (K := K) rfl rfl) (by rfl) T.n_all (by decide +kernel) (pa_cons (pe_lc (own := [("figure", 3)]) (g := gName 3) (tt := tYes) rfl sc_is_column.nd (pi_tup (pv 2)) (blkOk_by (N := ["base", "rows", "value", "figure"]) (sc := defScope s_is_column) (by decide +kernel)) (fun _ _ _ _ _ => pg_name (i := 3) sc_is_column.nd rfl (Or.inl rfl)) (fun _ _ _ _ _ => pts_nil) (fun _ _ _ _ _ => pe_call (ok_is_whole T) (hr.mono (by decide)) (by rfl) T.m_is_whole T.F_is_whole.kp T.b_is_whole .nil pass0 (pa_cons (pv 3) (pa_cons (pe_int) (pa_cons (pe_op op_sub (pv 0) (pe_int)) pa_nil))))) pa_nil))))), ?_⟩
  rintro ⟨b, r, d⟩ G M vs ⟨v, rfl, (dv : Dp K G v d), (hz : dlen d ≤ 100000)⟩
  refine sv_ifs (et_or (b := !decide ((dlen d : Int) = r)) (et_not (et_B (ev_isi (.inr (.inr (.inl rfl))) (ev_varP rfl dv)))) ?_) ?_ ?_
  · intro h
    obtain ⟨ds, rfl⟩ := tup_of (by simpa using h)
    exact et_test (ev_neI (ev_lenT (K := K) (ev_varP rfl dv)) (ev_var rfl))
  · intro G1 e1 hb
    refine sv_ret ev_c fun v' G' M' e r => ?_
    obtain ⟨rfl, rfl⟩ := r
    refine ⟨?_, rfl⟩
    show V.bl false = V.bl (isCol b r d)
    cases d with
    | tuple ds =>
      rw [isTy_tup] at hb
      have : ¬ ((ds.length : Int) = r) := fun z => by simp [dlen, z] at hb
      simp [isCol, this]
    | _ => rfl
  · intro G1 e1 hb
    refine sv_next fun G2 e2 => ?_
    have hb' : isTy d "tuple" = true ∧ (dlen d : Int) = r := by simpa using hb
    obtain ⟨ds, rfl⟩ := tup_of hb'.1
    have hl : (ds.length : Int) = r := hb'.2
    have e12 := e1.trans e2
    refine sv_ret (ev_allT (K := K) (f := fun d => isWhole d 0 (b - 1)) (ev_varP rfl (dm dv e12)) hz (fun i d x G' hd e dx => ?_) (fun _ => rfl)) fun v' G' M' e r' => ?_
    · exact ev_whole (ea_cons (ev_varP rfl dx) (ea_cons ev_c (ea_cons (ev_I0 (ev_var rfl) ev_c) ea_nil)))
    · obtain ⟨rfl, rfl⟩ := r'
      refine ⟨?_, rfl⟩
      show V.bl _ = V.bl (isCol b r (.tuple ds))
      simp [isCol, hl]

-- _are_columns
theorem ok__are_columns (T : Txt K mg) : FnOk P w K mg base CX0 3 T.a__are_columns T.fd__are_columns ["base", "rows", "value"] (spec (colsPre K) (colPost areCols)) := by
  refine fn_sv T.F__are_columns sc__are_columns (fun x G M vs h => by obtain ⟨v, rfl, _⟩ := h; rfl) fun cdv A outer s H E hr => ⟨_, (pss_cons (ps_if (pt_not (pt_val (pe_callB (k_isi (K := K) rfl) (by rfl) T.n_isinstance (by decide +kernel) (pa_cons (pv 2) (pa_cons (pe_bltn (v := .ty "list") (by rfl) T.n_list (by decide +kernel) rfl) pa_nil))))) (pss_one (ps_ret (pe_bl))) (pss_nil)) (pss_one (ps_ret (pe_callB (k_all (K := K) rfl rfl) (by rfl) T.n_all (by decide +kernel) (pa_cons (pe_lc (own := [("column", 3)]) (g := gName 3) (tt := tYes) rfl sc__are_columns.nd (pi_list (pv 2)) (blkOk_by (N := ["base", "rows", "value", "column"]) (sc := defScope s__are_columns) (by decide +kernel)) (fun _ _ _ _ _ => pg_name (i := 3) sc__are_columns.nd rfl (Or.inl rfl)) (fun _ _ _ _ _ => pts_nil) (fun _ _ _ _ _ => pe_call (ok_is_column T) (hr.mono (by decide)) (by rfl) T.m_is_column T.F_is_column.kp T.b_is_column .nil pass0 (pa_cons (pv 0) (pa_cons (pv 1) (pa_cons (pv 3) pa_nil))))) pa_nil))))), ?_⟩
  rintro ⟨b, r, d⟩ G M vs ⟨v, rfl, (dt : Dt K G M v d), (hz : dlen d ≤ 100000), (hy : ∀ ds, d = .list ds → ∀ c ∈ ds, dlen c ≤ 100000)⟩
  refine sv_ifs (et_not (et_B (ev_isiA (K := K) (.inr (.inr (.inr (.inl rfl)))) (ev_var rfl) dt.da))) ?_ ?_
  · intro G1 e1 hb
    refine sv_ret ev_c fun v' G' M' e r' => ?_
    obtain ⟨rfl, rfl⟩ := r'
    refine ⟨?_, rfl⟩
    show V.bl false = V.bl (areCols b r d)
    cases d with
    | list ds =>
      rw [isTy_lst] at hb
      cases hb
    | _ => rfl
  · intro G1 e1 hb
    refine sv_next fun G2 e2 => ?_
    have hb' : isTy d "list" = true := by simpa using hb
    obtain ⟨ds, rfl⟩ := lst_of hb'
    have e12 := e1.trans e2
    obtain ⟨a, xs, rfl, hA, hd⟩ := dt.lst
    refine sv_ret (ev_allA (K := K) (f := fun d => isCol b r d) (ev_var rfl) (hA.ex e12) (dma hd e12) hz (fun i d x G' hd e dx => ?_) (fun _ => rfl)) fun v' G' M' e r' => ?_
    · exact ev_col (f := isCol) (ea_cons (ev_var rfl) (ea_cons (ev_var rfl) (ea_cons (ev_varP rfl dx) ea_nil))) (hy ds rfl d (List.mem_of_getElem? hd))
    · obtain ⟨rfl, rfl⟩ := r'
      refine ⟨?_, rfl⟩
      show V.bl _ = V.bl (areCols b r (.list ds))
      rfl

-- is_base
theorem ok_is_base (T : Txt K mg) : FnOk P w K mg base CX0 2 T.a_is_base T.fd_is_base ["value"] (spec (d1Pre K) (b1Post fun d => isWhole d 2 12)) := by
  refine fn_sv T.F_is_base sc_is_base (fun x G M vs h => by obtain ⟨v, rfl, _⟩ := h; rfl) fun cdv A outer s H E hr => ⟨_, (pss_one (ps_ret (pe_call (ok_is_whole T) (hr.mono (by decide)) (by rfl) T.m_is_whole T.F_is_whole.kp T.b_is_whole .nil pass0 (pa_cons (pv 0) (pa_cons (pe_int) (pa_cons (pe_int) pa_nil)))))), ?_⟩
  rintro d G M vs ⟨v, rfl, dv⟩
  exact sv_ret (ev_whole (ea_cons (ev_varP rfl dv) (ea_cons ev_c (ea_cons ev_c ea_nil)))) fun v' G' M' e r => r

-- is_rows
theorem ok_is_rows (T : Txt K mg) : FnOk P w K mg base CX0 2 T.a_is_rows T.fd_is_rows ["value"] (spec (d1Pre K) (b1Post fun d => isWhole d 1 4)) := by
  refine fn_sv T.F_is_rows sc_is_rows (fun x G M vs h => by obtain ⟨v, rfl, _⟩ := h; rfl) fun cdv A outer s H E hr => ⟨_, (pss_one (ps_ret (pe_call (ok_is_whole T) (hr.mono (by decide)) (by rfl) T.m_is_whole T.F_is_whole.kp T.b_is_whole .nil pass0 (pa_cons (pv 0) (pa_cons (pe_int) (pa_cons (pe_int) pa_nil)))))), ?_⟩
  rintro d G M vs ⟨v, rfl, dv⟩
  exact sv_ret (ev_whole (ea_cons (ev_varP rfl dv) (ea_cons ev_c (ea_cons ev_c ea_nil)))) fun v' G' M' e r => r

-- Sheet___init__
theorem ok_Sheet___init__ (T : Txt K mg) : FnOk P w K mg base (L2.CX P w) 4 T.a_Sheet___init__ T.fd_Sheet___init__ ["self", "base", "rows", "columns"] (specX (initPre K T.c_Sheet) (initPost K T.c_Sheet) (initExc T.c_InvalidSheet)) := by
  refine fn_svX T.F_Sheet___init__ sc_Sheet___init__ (fun x G M vs h => by obtain ⟨rfl, _⟩ := h; rfl) fun cdv A outer s H E hr => ⟨_, (pss_cons (ps_if (pt_not (pt_val (pe_call (ok_is_base T) (hr.mono (by decide)) (by rfl) T.m_is_base T.F_is_base.kp T.b_is_base .nil pass0 (pa_cons (pv 1) pa_nil)))) (pss_one (ps_raise rfl (takes_of rfl rfl rfl rfl) (pmk_own PySem.F.excBase_ValueError T.x_InvalidSheet T.m_InvalidSheet T.xk_InvalidSheet (raises_own T.xb_InvalidSheet T.xt_InvalidSheet) rfl))) (pss_nil)) (pss_cons (ps_if (pt_not (pt_val (pe_call (ok_is_rows T) (hr.mono (by decide)) (by rfl) T.m_is_rows T.F_is_rows.kp T.b_is_rows .nil pass0 (pa_cons (pv 2) pa_nil)))) (pss_one (ps_raise rfl (takes_of rfl rfl rfl rfl) (pmk_own PySem.F.excBase_ValueError T.x_InvalidSheet T.m_InvalidSheet T.xk_InvalidSheet (raises_own T.xb_InvalidSheet T.xt_InvalidSheet) rfl))) (pss_nil)) (pss_cons (ps_if (pt_not (pt_val (pe_call (ok__are_columns T) (hr.mono (by decide)) (by rfl) T.m__are_columns T.F__are_columns.kp T.b__are_columns .nil pass0 (pa_cons (pv 1) (pa_cons (pv 2) (pa_cons (pv 3) pa_nil)))))) (pss_one (ps_raise rfl (takes_of rfl rfl rfl rfl) (pmk_own PySem.F.excBase_ValueError T.x_InvalidSheet T.m_InvalidSheet T.xk_InvalidSheet (raises_own T.xb_InvalidSheet T.xt_InvalidSheet) rfl))) (pss_nil)) (pss_cons (ps_fld (pv 0) (pv 1) rfl) (pss_cons (ps_fld (pv 0) (pv 2) rfl) (pss_one (ps_fld (pv 0) (pe_lc (own := [("column", 4)]) (g := gName 4) (tt := tYes) rfl sc_Sheet___init__.nd (pi_list (pv 3)) (blkOk_by (N := ["self", "base", "rows", "columns", "column"]) (sc := defScope s_Sheet___init__) (by decide +kernel)) (fun _ _ _ _ _ => pg_name (i := 4) sc_Sheet___init__.nd rfl (Or.inl rfl)) (fun _ _ _ _ _ => pts_nil) (fun _ _ _ _ _ => pe_callTy (k_tup (K := K) rfl) (by rfl) T.n_tuple (by decide +kernel) (pa_cons (pv 4) pa_nil))) rfl))))))), ?_⟩
  rintro ⟨p, dx, vb, vr, vc, db, dr, dc⟩ G M vs ⟨rfl, M0, rfl, (hdb : Dp K G vb db), (hdr : Dp K G vr dr), (hdc : Dt K G M0 vc dc), (hz : dlen dc ≤ 100000), (hy : ∀ ds, dc = .list ds → ∀ c ∈ ds, dlen c ≤ 100000)⟩
  refine sv_ifs (et_not (et_B (ev_d1 (K := K) (ev_varP rfl hdb)))) (fun G1 e1 hb => sv_raise fun G2 e2 => ?_) fun G1 e1 hb => sv_next fun G2 e2 => ?_
  · exact ⟨by show (_ && _) = false; rw [show isWhole db 2 12 = false by simpa using hb]; rfl, rfl, rfl, rfl⟩
  have hw1 : isWhole db 2 12 = true := by simpa using hb
  refine sv_ifs (et_not (et_B (ev_d1 (K := K) (ev_varP rfl (dm hdr (e1.trans e2)))))) (fun G1 e1 hb => sv_raise fun G2 e2 => ?_) fun G3 e3 hb => sv_next fun G4 e4 => ?_
  · exact ⟨by show (_ && (_ && _)) = false; rw [show isWhole dr 1 4 = false by simpa using hb]; simp, rfl, rfl, rfl⟩
  have hw2 : isWhole dr 1 4 = true := by simpa using hb
  obtain ⟨b, rfl, b2, b12⟩ := whole_int hw1
  obtain ⟨r, rfl, r1, r4⟩ := whole_int hw2
  obtain rfl := dp_int hdb
  obtain rfl := dp_int hdr
  have e14 := ((e1.trans e2).trans e3).trans e4
  have hdc' : Dt K G4 (M0 ++ [(p, HO.ins T.c_Sheet dx [])]) vc dc := by
    rcases hdc with h | ⟨a, xs, ds, h1, h2, h3, h4⟩
    · exact .inl (dm h e14)
    · exact .inr ⟨a, xs, ds, h1, h2, h3.more.ex e14, dma h4 e14⟩
  refine sv_ifs (et_not (et_B (ev_cols (K := K) (f := areCols) (ea_cons (ev_var rfl) (ea_cons (ev_var rfl) (ea_cons (ev_var rfl) ea_nil))) hdc' hz hy))) (fun G1 e1 hb => sv_raise fun G2 e2 => ?_) fun G5 e5 hb => sv_next fun G6 e6 => ?_
  · exact ⟨by show (_ && (_ && areCols b r dc)) = false; rw [show areCols b r dc = false by simpa using hb]; simp, rfl, rfl, rfl⟩
  have hac : areCols b r dc = true := by simpa using hb
  obtain ⟨ds, rfl⟩ : ∃ ds, dc = .list ds := by
    cases dc with
    | list ds => exact ⟨ds, rfl⟩
    | _ => cases hac
  obtain ⟨a, xs, rfl, hA, hd⟩ := hdc.lst
  have hall : ∀ d ∈ ds, isCol b r d = true := List.all_eq_true.mp hac
  have hok : okSh (.int b) (.int r) (.list ds) = true := by
    unfold okSh
    rw [hw1, hw2]
    exact hac
  have e16 := (e14.trans e5).trans e6
  have hn0 : (M0 ++ [(p, HO.ins T.c_Sheet dx [])])[M0.length]? = some (p, .ins T.c_Sheet dx []) := by simp
  refine sv_seq (N := fun G' σ' M' => σ' = [some (.ref p), some (.int b), some (.int r), some (.ref a), none] ∧ M' = M0 ++ [(p, .ins T.c_Sheet dx (putF "_base" (.int b) []))]) (sv_fld (p := p) (C := T.c_Sheet) (dx := dx) (fs := []) (n := M0.length) (ev_var rfl) (fun G1 v' M1 e hR => ?_) T.cl_Sheet T.na_Sheet__base (by decide) fun G1 G2 v' M1 e e' hR => ?_) ?_
  · obtain ⟨rfl, rfl⟩ := hR
    exact ⟨ev_var rfl, hn0⟩
  · obtain ⟨rfl, rfl⟩ := hR
    exact ⟨rfl, by simp [List.set_append]⟩
  rintro G7 σ7 M7 e7 ⟨rfl, rfl⟩
  refine sv_seq (N := fun G' σ' M' => σ' = [some (.ref p), some (.int b), some (.int r), some (.ref a), none] ∧ M' = M0 ++ [(p, .ins T.c_Sheet dx (putF "_rows" (.int r) (putF "_base" (.int b) [])))]) (sv_fld (p := p) (C := T.c_Sheet) (dx := dx) (fs := putF "_base" (.int b) []) (n := M0.length) (ev_var rfl) (fun G1 v' M1 e hR => ?_) T.cl_Sheet T.na_Sheet__rows (by show 1 < 1000; decide) fun G1 G2 v' M1 e e' hR => ?_) ?_
  · obtain ⟨rfl, rfl⟩ := hR
    exact ⟨ev_var rfl, by simp⟩
  · obtain ⟨rfl, rfl⟩ := hR
    exact ⟨rfl, by simp [List.set_append]⟩
  rintro G8 σ8 M8 e8 ⟨rfl, rfl⟩
  refine sv_fld (fs := putF "_rows" (.int r) (putF "_base" (.int b) [])) (n := M0.length) (R := own K ds (M0 ++ [(p, .ins T.c_Sheet dx (putF "_rows" (.int r) (putF "_base" (.int b) [])))])) (p := p) (C := T.c_Sheet) (dx := dx) ?_ (fun G1 v' M1 e hR => ?_) T.cl_Sheet T.na_Sheet__columns (by show 2 < 1000; decide) fun G1 G2 v' M1 e e' hR => ?_
  · refine ev_mapA (K := K) (own' := [4]) (p := a) (xs := xs) (ds := ds) (k := 4) (fun i => (ds[i]?).getD .none) (ev_var rfl) (hA.more.ex ((e16.trans e7).trans e8)) (dma hd ((e16.trans e7).trans e8)) hz (fun i d x G' hd e dx => ?_) (fun _ => rfl) (kept_ids _)
    rw [hd]
    obtain ⟨c, rfl, _⟩ := isCol_of (hall d (List.mem_of_getElem? hd))
    exact ev_tupT (ev_varP rfl dx)
  · obtain ⟨l, ys, rfl, rfl, hdy⟩ := hR
    exact ⟨ev_var rfl, by simp⟩
  · obtain ⟨l, ys, rfl, rfl, hdy⟩ := hR
    exact ⟨hok, rfl, l, ys, M0, ds, rfl, rfl, by simp [List.set_append, shF], dma hdy e'⟩
theorem okG_Sheet___init__ (T : Txt K mg) : FnOk P w K mg base (L2.CX P w) 4 T.a_Sheet___init__ T.fd_Sheet___init__ ["self", "base", "rows", "columns"] (spec (mkShPre K T.c_Sheet) (mkShPost K T.c_Sheet)) :=
  (ok_Sheet___init__ T).imp fun vs H Q E h => by
    obtain ⟨⟨p, dx, b, r, cs⟩, G, M, F, m, ⟨a, xs, M0, rfl, rfl, hA, hd, g⟩, q⟩ := h
    have g : GoodSh b r cs := g
    refine ⟨⟨p, dx, .int b, .int r, .ref a, .int b, .int r, .list (cs.map colD)⟩, G, _, F, m, ⟨rfl, M0, rfl, .int b, .int r, .inr ⟨a, xs, _, rfl, rfl, hA, hd⟩, ?_, ?_⟩, fun v G' M' H' e' m' r' => ?_, fun c d G' M' H' e' m' r' => ?_⟩
    · show (cs.map colD).length ≤ 100000
      have := g.len
      rw [List.length_map]
      omega
    · intro ds hds c hc
      cases hds
      obtain ⟨c', hc', rfl⟩ := List.mem_map.mp hc
      rw [dlen_colD]
      have := g.clen hc'
      omega
    · obtain ⟨_, rfl, l, ys, M0', ds, h1, h2, rfl, h4⟩ := r'
      cases h2
      exact q _ G' _ H' e' m' ⟨rfl, l, ys, M0', h1, rfl, h4⟩
    · have hz : okSh (.int b) (.int r) (.list (cs.map colD)) = false := r'.1
      rw [okSh_good g] at hz
      cases hz

-- Sheet_columns
theorem ok_Sheet_columns (T : Txt K mg) : FnOk P w K mg base CX0 1 T.a_Sheet_columns T.fd_Sheet_columns ["self"] (spec (shPre K T.c_Sheet) fun x M => own K (x.2.2.2.map colD) M) := by
  refine fn_sv T.F_Sheet_columns sc_Sheet_columns (fun x G M vs h => by obtain ⟨rfl, _⟩ := h; rfl) fun cdv A outer s H E hr => ⟨_, (pss_one (ps_ret (pe_callTy (k_list (K := K) rfl) (by rfl) T.n_list (by decide +kernel) (pa_cons (k_fld (K := K) rfl (pv 0) rfl) pa_nil)))), ?_⟩
  rintro ⟨p, b, r, cs⟩ G M vs ⟨rfl, dx, l, xs, h1, h2, h3⟩
  exact sv_ret (ev_listA (ev_fld (ev_var rfl) h1 T.cl_Sheet T.na_Sheet__columns shF_c) h2 h3) fun v' G' M' e r => r

-- _law_is_integer
theorem ok__law_is_integer (T : Txt K mg) : FnOk P w K mg base CX0 1 T.a__law_is_integer T.fd__law_is_integer ["found"] (spec (d1Pre K) (b1Post isInt)) := by
  refine fn_sv T.F__law_is_integer sc__law_is_integer (fun x G M vs h => by obtain ⟨v, rfl, _⟩ := h; rfl) fun cdv A outer s H E hr => ⟨_, (pss_one (ps_ret (pe_and (pe_callB (k_isi (K := K) rfl) (by rfl) T.n_isinstance (by decide +kernel) (pa_cons (pv 0) (pa_cons (pe_bltn (v := .ty "int") (by rfl) T.n_int (by decide +kernel) rfl) pa_nil))) (pe_one (pe_not (pe_callB (k_isi (K := K) rfl) (by rfl) T.n_isinstance (by decide +kernel) (pa_cons (pv 0) (pa_cons (pe_bltn (v := .ty "bool") (by rfl) T.n_bool (by decide +kernel) rfl) pa_nil)))))))), ?_⟩
  rintro d G M vs ⟨v, rfl, dv⟩
  refine sv_ret (ev_andV (ev_isi (.inl rfl) (ev_varP rfl dv)) fun h1 => ev_notV (ev_isi (.inr (.inl rfl)) (ev_varP rfl dv))) fun v' G' M' e r => ?_
  obtain ⟨rfl, rfl⟩ := r
  exact ⟨by rw [isInt_ty], rfl⟩

-- _law_is_column
theorem ok__law_is_column (T : Txt K mg) : FnOk P w K mg base CX0 2 T.a__law_is_column T.fd__law_is_column ["found", "due"] (spec (col2Pre K) (d2Post isCol2)) := by
  refine fn_sv T.F__law_is_column sc__law_is_column (fun x G M vs h => by obtain ⟨v, u, rfl, _⟩ := h; rfl) fun cdv A outer s H E hr => ⟨_, (pss_cons (ps_if (PW.pt (pw_or (pt_not (pt_val (pe_callB (k_isi (K := K) rfl) (by rfl) T.n_isinstance (by decide +kernel) (pa_cons (pv 0) (pa_cons (pe_bltn (v := .ty "tuple") (by rfl) T.n_tuple (by decide +kernel) rfl) pa_nil))))) (pw_or1 (pt_cmpR (k_neD (K := K) rfl hr.units) (pv 0) (pv 1) (nomark _))))) (pss_one (ps_ret (pe_bl))) (pss_nil)) (pss_one (ps_ret (pe_callB (k_all (K := K) rfl rfl) (by rfl) T.n_all (by decide +kernel) (pa_cons (pe_lc (own := [("figure", 2)]) (g := gName 2) (tt := tYes) rfl sc__law_is_column.nd (pi_tup (pv 0)) (blkOk_by (N := ["found", "due", "figure"]) (sc := defScope s__law_is_column) (by decide +kernel)) (fun _ _ _ _ _ => pg_name (i := 2) sc__law_is_column.nd rfl (Or.inl rfl)) (fun _ _ _ _ _ => pts_nil) (fun _ _ _ _ _ => pe_call (ok__law_is_integer T) (hr.mono (by decide)) (by rfl) T.m__law_is_integer T.F__law_is_integer.kp T.b__law_is_integer .nil pass0 (pa_cons (pv 2) pa_nil))) pa_nil))))), ?_⟩
  rintro ⟨d, e⟩ G M vs ⟨v, u, rfl, (dv : Dp K G v d), (du : Dp K G u e), s1, s2, hz⟩
  refine sv_ifs (et_or (b := !PyData.eqv d e) (et_not (et_B (ev_isi (.inr (.inr (.inl rfl))) (ev_varP rfl dv)))) fun h => et_test (ev_neD (ev_varP rfl dv) (ev_varP rfl du) s1 s2)) ?_ ?_
  · intro G1 e1 hb
    refine sv_ret ev_c fun v' G' M' e' r => ?_
    obtain ⟨rfl, rfl⟩ := r
    refine ⟨?_, rfl⟩
    show V.bl false = V.bl (isCol2 d e)
    cases d with
    | tuple ds =>
      rw [isTy_tup] at hb
      have : PyData.eqv (.tuple ds) e = false := by simpa using hb
      simp [isCol2, this]
    | _ => rfl
  · intro G1 e1 hb
    refine sv_next fun G2 e2 => ?_
    have hb' : isTy d "tuple" = true ∧ PyData.eqv d e = true := by simpa using hb
    obtain ⟨ds, rfl⟩ := tup_of hb'.1
    refine sv_ret (ev_allT (K := K) (f := isInt) (ev_varP rfl (dm dv (e1.trans e2))) hz (fun i d x G' hd e dx => ev_d1 (K := K) (ev_varP rfl dx)) (fun _ => rfl)) fun v' G' M' e r' => ?_
    obtain ⟨rfl, rfl⟩ := r'
    refine ⟨?_, rfl⟩
    show V.bl _ = V.bl (isCol2 (.tuple ds) _)
    simp [isCol2, hb'.2]

-- _law_are_columns
theorem ok__law_are_columns (T : Txt K mg) : FnOk P w K mg base CX0 3 T.a__law_are_columns T.fd__law_are_columns ["found", "due"] (spec (arePre K) arePost) := by
  refine fn_sv T.F__law_are_columns sc__law_are_columns (fun x G M vs h => by obtain ⟨rfl, _⟩ := h; rfl) fun cdv A outer s H E hr => ⟨_, (pss_cons (ps_if (PW.pt (pw_or (pt_not (pt_val (pe_callB (k_isi (K := K) rfl) (by rfl) T.n_isinstance (by decide +kernel) (pa_cons (pv 0) (pa_cons (pe_bltn (v := .ty "list") (by rfl) T.n_list (by decide +kernel) rfl) pa_nil))))) (pw_or1 (pt_cmpR op_ne (pe_callB (k_len (K := K) rfl) (by rfl) T.n_len (by decide +kernel) (pa_cons (pv 0) pa_nil)) (pe_callB (k_len (K := K) rfl) (by rfl) T.n_len (by decide +kernel) (pa_cons (pv 1) pa_nil)) (nomark _))))) (pss_one (ps_ret (pe_bl))) (pss_nil)) (pss_one (ps_ret (pe_callB (k_all (K := K) rfl rfl) (by rfl) T.n_all (by decide +kernel) (pa_cons (pe_lc (own := [("i", 2)]) (g := gName 2) (tt := tYes) rfl sc__law_are_columns.nd (pi_range1 (by rfl) T.n_range (pa_cons (pe_callB (k_len (K := K) rfl) (by rfl) T.n_len (by decide +kernel) (pa_cons (pv 1) pa_nil)) pa_nil)) (blkOk_by (N := ["found", "due", "i"]) (sc := defScope s__law_are_columns) (by decide +kernel)) (fun _ _ _ _ _ => pg_name (i := 2) sc__law_are_columns.nd rfl (Or.inl rfl)) (fun _ _ _ _ _ => pts_nil) (fun _ _ _ _ _ => pe_call (ok__law_is_column T) (hr.mono (by decide)) (by rfl) T.m__law_is_column T.F__law_is_column.kp T.b__law_is_column .nil pass0 (pa_cons (pe_ix (k_ixL (K := K) rfl) (pv 0) (pv 2) (fun _ _ => rfl)) (pa_cons (pe_ix (k_ixL (K := K) rfl) (pv 1) (pv 2) (fun _ _ => rfl)) pa_nil)))) pa_nil))))), ?_⟩
  rintro ⟨a, b, fs, cs⟩ G M vs ⟨rfl, (h1 : ColsAt K G M a fs), (h2 : ColsAt K G M b cs), (l1 : fs.length ≤ 100000), (l2 : cs.length ≤ 100000), (l3 : ∀ c ∈ fs, c.length ≤ 100000)⟩
  obtain ⟨xs, ax, dx⟩ := h1.ex
  obtain ⟨ys, ay, dy⟩ := h2.ex
  refine sv_ifs (et_or (b := !decide ((xs.length : Int) = (ys.length : Int))) (et_not (et_B (ev_isiA (.inr (.inr (.inr (.inl rfl)))) (ev_var rfl) h1.da))) fun h => et_test (ev_neI (ev_lenA (ev_var rfl) ax) (ev_lenA (ev_var rfl) ay))) ?_ ?_
  · intro G1 e1 hb
    refine sv_ret ev_c fun v' G' M' e r => ?_
    obtain ⟨rfl, rfl⟩ := r
    refine ⟨?_, rfl⟩
    show V.bl false = V.bl (decide (fs = cs))
    rw [decide_eq_false]
    intro z
    subst z
    rw [isTy_lst, dpa_len dx, dpa_len dy] at hb
    simp at hb
  · intro G1 e1 hb
    refine sv_next fun G2 e2 => ?_
    have hl : fs.length = cs.length := by
      rw [isTy_lst, dpa_len dx, dpa_len dy] at hb
      have : (fs.length : Int) = cs.length := by simpa using hb
      omega
    have e12 := e1.trans e2
    have hly : ys.length = cs.length := by rw [dpa_len dy, List.length_map]
    refine sv_ret (ev_allR (K := K) (n := (ys.length : Int)) (f := fun i => isCol2 (colD ((fs[i]?).getD [])) (colD ((cs[i]?).getD []))) (ea_cons (ev_lenA (ev_var rfl) (ay.ex e12)) ea_nil) (by omega) (by omega) (fun i G' hi e => ?_) (fun _ => rfl)) fun v' G' M' e r => ?_
    · have hic : i < cs.length := by omega
      have hif : i < fs.length := by omega
      rw [List.getElem?_eq_getElem hic, List.getElem?_eq_getElem hif]
      obtain ⟨v, hv, dv⟩ := dpa_at (i := i) (d := colD fs[i]) dx (by rw [List.getElem?_map, List.getElem?_eq_getElem hif]; rfl)
      obtain ⟨u, hu, du⟩ := dpa_at (i := i) (d := colD cs[i]) dy (by rw [List.getElem?_map, List.getElem?_eq_getElem hic]; rfl)
      have ee := e12.trans e
      refine ev_col2 (K := K) (f := isCol2) (ea_cons (Ev.toDp (ev_ixL (x := v) (ev_var rfl) (ev_var rfl) (ax.ex ee) ?_) (dm dv ee)) (ea_cons (Ev.toDp (ev_ixL (x := u) (ev_var rfl) (ev_var rfl) (ay.ex ee) ?_) (dm du ee)) ea_nil)) (sh_col (n := 0) _).ok (sh_col (n := 0) _).ok ?_
      · rw [Int.zero_add]
        exact atI_nat hv
      · rw [Int.zero_add]
        exact atI_nat hu
      · rw [dlen_colD]
        exact l3 _ (List.getElem_mem hif)
    · obtain ⟨rfl, rfl⟩ := r
      refine ⟨?_, rfl⟩
      show _ = V.bl (decide (fs = cs))
      rw [Int.toNat_natCast, hly, all_are hl]

-- _law_cells
theorem ok__law_cells (T : Txt K mg) : FnOk P w K mg base CX0 1 T.a__law_cells T.fd__law_cells ["script"] (spec (cellsPre K) (cellsPost K)) := by
  refine fn_sv T.F__law_cells sc__law_cells (fun x G M vs h => by obtain ⟨v, rfl, _⟩ := h; rfl) fun cdv A outer s H E hr => ⟨_, (pss_cons (ps_if (pt_cmpR (k_eqD (K := K) rfl hr.units) (pv 0) (pe_lst pa_nil) (nomark _)) (pss_one (ps_ret (pe_lst (pa_cons (pe_int) pa_nil)))) (pss_nil)) (pss_one (ps_ret (pe_slice (k_slL (K := K) rfl) (pv 0) po_none (po_some (pe_int)))))), ?_⟩
  rintro ns G M vs ⟨v, rfl, dv, hl⟩
  refine sv_ifs (et_test (ev_eqD (K := K) (d := .list (ns.map PyData.int)) (e := .list []) (ev_varP rfl dv) (Ev.frz (ev_lstO (ds := []) ea_nil (by decide))) (sh_ints (n := 0) ns).ok (sh_ints (n := 0) []).ok)) ?_ ?_
  · intro G1 e1 hb
    have hn : ns = [] := by
      have := eqv_lst ns []
      rw [show ([] : List Int).map PyData.int = [] from rfl, hb] at this
      exact of_decide_eq_true this.symm
    subst hn
    exact sv_ret (Ev.frz (ev_lstO (K := K) (ds := [.int 0]) (ea_cons (ev_iD ev_c) ea_nil) (by decide))) fun v' G' M' e r => r
  · intro G1 e1 hb
    refine sv_next fun G2 e2 => ?_
    have hn : ¬ ns = [] := fun z => by
      subst z
      cases hb
    refine sv_ret (Ev.frz (ev_slL (ds := ns.map PyData.int) (lo := none) (hi := some ((63 : Nat) : Int)) (ev_varP rfl (dm dv (e1.trans e2))) eo_none (eo_some ev_c))) fun v' G' M' e r => ?_
    rw [cutD_take, ← List.map_take] at r
    show isD K (.list ((cellsOf ns).map PyData.int)) M G' v' M'
    unfold cellsOf
    rw [if_neg hn]
    exact r

-- _law_draw
theorem ok__law_draw (T : Txt K mg) : FnOk P w K mg base CX0 1 T.a__law_draw T.fd__law_draw ["deck", "many"] (spec drawPre drawPost) := by
  refine fn_sv T.F__law_draw sc__law_draw (fun x G M vs h => by obtain ⟨rfl, _⟩ := h; rfl) fun cdv A outer s H E hr => ⟨_, (pss_cons (ps_if (pt_cmpR op_gt (pe_ix (k_ixL (K := K) rfl) (pv 0) (pe_int) (fun _ _ => rfl)) (pe_int) (nomark _)) (pss_cons (ps_set (i := 3) sc__law_draw.nd rfl (Or.inl rfl) (pe_op op_mod (pe_callTy c_int (by rfl) T.n_int (by decide +kernel) (pa_cons (pe_ix (k_ixL (K := K) rfl) (pv 0) (pe_int) (fun _ _ => rfl)) pa_nil)) (pv 1))) (pss_cons (ps_asg (pe_op op_fdivW (pe_ix (k_ixL (K := K) rfl) (pv 0) (pe_int) (fun _ _ => rfl)) (pv 1)) (pg_sub (pv 0) (pe_int) set_list)) (pss_one (ps_ret (pv 3))))) (pss_nil)) (pss_cons (ps_asg (pe_op op_add (pe_ix (k_ixL (K := K) rfl) (pv 0) (pe_int) (fun _ _ => rfl)) (pe_int)) (pg_sub (pv 0) (pe_int) set_list)) (pss_cons (ps_set (i := 2) sc__law_draw.nd rfl (Or.inl rfl) (pe_op op_mod (pe_callTy c_int (by rfl) T.n_int (by decide +kernel) (pa_cons (pe_op op_add (pe_op op_mul (pe_ix (k_ixL (K := K) rfl) (pv 0) (pe_int) (fun _ _ => rfl)) (pe_int)) (pe_op op_mul (pe_ix (k_ixL (K := K) rfl) (pv 0) (pe_int) (fun _ _ => rfl)) (pe_int))) pa_nil)) (pe_int))) (pss_cons (ps_set (i := 2) sc__law_draw.nd rfl (Or.inl rfl) (pe_op op_mod (pe_callTy c_int (by rfl) T.n_int (by decide +kernel) (pa_cons (pe_op op_add (pe_op op_mul (pv 2) (pv 2)) (pe_ix (k_ixL (K := K) rfl) (pv 0) (pe_int) (fun _ _ => rfl))) pa_nil)) (pe_int))) (pss_cons (ps_set (i := 2) sc__law_draw.nd rfl (Or.inl rfl) (pe_op op_mod (pe_callTy c_int (by rfl) T.n_int (by decide +kernel) (pa_cons (pe_op op_mul (pv 2) (pe_int)) pa_nil)) (pe_int))) (pss_one (ps_ret (pe_op op_mod (pe_callTy c_int (by rfl) T.n_int (by decide +kernel) (pa_cons (pe_op op_fdivW (pv 2) (pe_int)) pa_nil)) (pv 1))))))))), ?_⟩
  rintro ⟨dk, i, D, n⟩ G M vs ⟨rfl, (h0 : 0 < n), (h1 : n < 2 ^ 200), (hi : M[i]? = some (dk, .lst [.int D.a, .int D.b, .int D.c]))⟩
  obtain ⟨a, b, c⟩ := D
  have hw : CDivW a n := wide_div (b := 200) h0 (by omega) (by decide) (by decide)
  refine sv_ifs (et_test (ev_I0 (i := a) (ev_ixL (K := K) (ev_var rfl) ev_c (AtL.M hi) rfl) ev_c)) ?_ ?_
  · intro G1 e1 hb
    have ha : a > 0 := of_decide_eq_true hb
    refine sv_let (ev_I (ev_int (ev_ixL (K := K) (ev_var rfl) ev_c (AtL.M hi) rfl)) (ev_var rfl) h0) ?_
    rintro _ G2 M2 e2 ⟨rfl, rfl⟩
    refine sv_seq (N := fun G' σ' M' => σ' = [some (.ref dk), some (.int n), none, some (.int (a % n))] ∧ M' = M2.set i (dk, .lst [.int (a / n), .int b, .int c])) (sv_setIx (ev_I (ev_ixL (K := K) (ev_var rfl) ev_c (AtL.M hi) rfl) (ev_var rfl) hw) (ev_var rfl) ev_c hi rfl fun G' e => ⟨rfl, rfl⟩) ?_
    rintro G3 σ3 M3 e3 ⟨rfl, rfl⟩
    refine sv_ret (ev_var rfl) fun v' G' M' e r => ?_
    show v' = .int (dv ⟨a, b, c⟩ n) ∧ M' = M2.set i (dk, (dn ⟨a, b, c⟩ n).ho)
    unfold dv dn
    rw [if_pos ha, if_pos ha]
    exact r
  · intro G1 e1 hb
    have ha : ¬ a > 0 := of_decide_eq_false hb
    refine sv_next fun G2 e2 => ?_
    refine sv_seq (N := fun G' σ' M' => σ' = [some (.ref dk), some (.int n), none, none] ∧ M' = M.set i (dk, .lst [.int a, .int (b + 1), .int c])) (sv_setIx (ev_I0 (ev_ixL (K := K) (ev_var rfl) ev_c (AtL.M hi) rfl) ev_c) (ev_var rfl) ev_c hi rfl fun G' e => ⟨rfl, rfl⟩) ?_
    rintro G3 σ3 M3 e3 ⟨rfl, rfl⟩
    have hi' : (M.set i (dk, HO.lst [.int a, .int (b + 1), .int c]))[i]? = some (dk, .lst [.int a, .int (b + 1), .int c]) := by
      rw [List.getElem?_set_self (List.getElem?_eq_some_iff.mp hi).1]
    refine sv_let (ev_I (ev_int (ev_I0 (ev_I (ev_ixL (K := K) (ev_var rfl) ev_c (AtL.M hi') rfl) ev_c (.inr ⟨by decide, by decide⟩)) (ev_I (ev_ixL (K := K) (ev_var rfl) ev_c (AtL.M hi') rfl) ev_c (.inr ⟨by decide, by decide⟩)))) ev_c (by decide)) ?_
    rintro _ G4 M4 e4 ⟨rfl, rfl⟩
    have q1 : 0 ≤ (c * 48271 + (b + 1) * 69621) % 2147483647 := Int.emod_nonneg _ (by decide)
    have q2 : (c * 48271 + (b + 1) * 69621) % 2147483647 < 2147483647 := Int.emod_lt_of_pos _ (by decide)
    refine sv_let (ev_I (ev_int (ev_I0 (ev_I (ev_var rfl) (ev_var rfl) (.inr ⟨by omega, by omega⟩)) (ev_ixL (K := K) (ev_var rfl) ev_c (AtL.M hi') rfl))) ev_c (by decide)) ?_
    rintro _ G5 M5 e5 ⟨rfl, rfl⟩
    refine sv_let (ev_I (ev_int (ev_I (ev_var rfl) ev_c (.inr ⟨by decide, by decide⟩))) ev_c (by decide)) ?_
    rintro _ G6 M6 e6 ⟨rfl, rfl⟩
    refine sv_ret (ev_I (ev_int (ev_I (ev_var rfl) ev_c (wide_div (b := 200) (by decide) (by decide) (by decide) (by decide)))) (ev_var rfl) h0) fun v' G' M' e r => ?_
    show v' = .int (dv ⟨a, b, c⟩ n) ∧ M' = M.set i (dk, (dn ⟨a, b, c⟩ n).ho)
    unfold dv dn
    rw [if_neg ha, if_neg ha]
    exact r

-- _law_column
theorem ok__law_column (T : Txt K mg) : FnOk P w K mg base CX0 2 T.a__law_column T.fd__law_column ["deck", "base", "rows"] (spec lcolPre (lcolPost K)) := by
  refine fn_sv T.F__law_column sc__law_column (fun x G M vs h => by obtain ⟨rfl, _⟩ := h; rfl) fun cdv A outer s H E hr => ⟨_, (pss_cons (ps_set (i := 3) sc__law_column.nd rfl (Or.inl rfl) (pe_call (ok__law_draw T) (hr.mono (by decide)) (by rfl) T.m__law_draw T.F__law_draw.kp T.b__law_draw .nil pass0 (pa_cons (pv 0) (pa_cons (pe_int) pa_nil)))) (pss_cons (ps_setLc (i := 4) (own := [("j", 5)]) (g := gName 5) (tt := tYes) rfl sc__law_column.nd rfl rfl (sw_true rfl rfl rfl (by decide +kernel)) (pi_range1 (by rfl) T.n_range (pa_cons (pv 2) pa_nil)) (blkOk_by (N := ["deck", "base", "rows", "way", "figures", "j"]) (sc := defScope s__law_column) (by decide +kernel)) (fun _ _ _ _ _ => pg_name (i := 5) sc__law_column.nd rfl (Or.inl rfl)) (fun _ _ _ _ _ => pts_nil) (fun _ _ _ _ _ => pe_call (ok__law_draw T) (hr.mono (by decide)) (by rfl) T.m__law_draw T.F__law_draw.kp T.b__law_draw .nil pass0 (pa_cons (pv 0) (pa_cons (pv 1) pa_nil)))) (pss_cons (ps_if (pt_cmpR op_eq (pv 3) (pe_int) (nomark _)) (pss_one (ps_setLc (i := 4) (own := [("j", 5)]) (g := gName 5) (tt := tYes) rfl sc__law_column.nd rfl rfl (sw_true rfl rfl rfl (by decide +kernel)) (pi_range1 (by rfl) T.n_range (pa_cons (pv 2) pa_nil)) (blkOk_by (N := ["deck", "base", "rows", "way", "figures", "j"]) (sc := defScope s__law_column) (by decide +kernel)) (fun _ _ _ _ _ => pg_name (i := 5) sc__law_column.nd rfl (Or.inl rfl)) (fun _ _ _ _ _ => pts_nil) (fun _ _ _ _ _ => pe_int))) (pss_nil)) (pss_cons (ps_if (pt_cmpR op_eq (pv 3) (pe_int) (nomark _)) (pss_one (ps_setLc (i := 4) (own := [("j", 5)]) (g := gName 5) (tt := tYes) rfl sc__law_column.nd rfl rfl (sw_true rfl rfl rfl (by decide +kernel)) (pi_range1 (by rfl) T.n_range (pa_cons (pv 2) pa_nil)) (blkOk_by (N := ["deck", "base", "rows", "way", "figures", "j"]) (sc := defScope s__law_column) (by decide +kernel)) (fun _ _ _ _ _ => pg_name (i := 5) sc__law_column.nd rfl (Or.inl rfl)) (fun _ _ _ _ _ => pts_nil) (fun _ _ _ _ _ => pe_op op_sub (pv 1) (pe_int)))) (pss_nil)) (pss_one (ps_ret (pe_callTy (k_tup (K := K) rfl) (by rfl) T.n_tuple (by decide +kernel) (pa_cons (pv 4) pa_nil)))))))), ?_⟩
  rintro ⟨dk, i, D, b, r⟩ G M vs ⟨rfl, (b0 : 0 < b), (b1 : b < 2 ^ 200), (r0 : 0 ≤ r), (r1 : r ≤ 1000), (hi : M[i]? = some (dk, D.ho))⟩
  have hset : ∀ (o : HO), (M.set i (dk, o))[i]? = some (dk, o) := fun o => by rw [List.getElem?_set_self (List.getElem?_eq_some_iff.mp hi).1]
  refine sv_let (ev_draw i (ea_cons (ev_var rfl) (ea_cons ev_c ea_nil)) hi (by decide) (by decide)) ?_
  rintro _ G1 M1 e1 ⟨rfl, rfl⟩
  refine sv_let (Ev.frz (ev_lcR (K := K) (nn := r) (fun _ => true) (fun j => M.set i (dk, (drawsD (dn D 5) b j).ho)) (fun j => .int (dv (drawsD (dn D 5) b j) b)) (ea_cons (ev_var rfl) ea_nil) (by omega) (by omega) (fun _ _ _ _ => et_yes) (fun j G' hj e _ => ?_) (fun _ z => by cases z) (fun _ => rfl))) ?_
  · have := ev_draw (σ := [some (.ref dk), some (.int b), some (.int r), some (.int (dv D 5)), none, some (.int (0 + (j : Int)))]) (G := G') (E := E0) i (ea_cons (ev_var (k := 0) rfl) (ea_cons (ev_var (k := 1) rfl) ea_nil)) (hset (drawsD (dn D 5) b j).ho) b0 b1
    rw [List.set_set] at this
    exact ev_iD this
  rintro v2 G2 M2 e2 ⟨h2, rfl⟩
  rw [kept_all] at h2
  have h2' : Dp K G2 v2 (.list ((drawsV (dn D 5) b r.toNat).map PyData.int)) := by
    rw [drawsV, List.map_map]
    exact h2
  have hz : ∀ (x : Int), kept r.toNat (fun _ => true) (fun _ => PyData.int x) = (List.replicate r.toNat x).map PyData.int := fun x => by
    rw [kept_all, List.map_replicate]
    apply List.ext_getElem?
    intro k
    rw [List.getElem?_map]
    by_cases hk : k < r.toNat
    · rw [List.getElem?_range hk, List.getElem?_replicate, if_pos hk]
      rfl
    · rw [List.getElem?_eq_none (by simp; omega), List.getElem?_eq_none (by simp; omega)]
      rfl
  -- the first choice
  refine sv_seq (N := fun G' σ' M' => M' = M.set i (dk, (colDk D b r).ho) ∧ ∃ v3, σ' = [some (.ref dk), some (.int b), some (.int r), some (.int (dv D 5)), some v3, none] ∧ Dp K G' v3 (.list ((if dv D 5 = 0 then List.replicate r.toNat 0 else drawsV (dn D 5) b r.toNat).map PyData.int))) (sv_if (et_test (ev_eqI (ev_var rfl) ev_c)) (fun G3 e3 hb => ?_) fun G3 e3 hb => ?_) ?_
  · rw [if_pos (of_decide_eq_true hb)]
    refine sv_set (Ev.frz (ev_lcR (K := K) (nn := r) (fun _ => true) (fun _ => M.set i (dk, (drawsD (dn D 5) b r.toNat).ho)) (fun j => .int 0) (ea_cons (ev_var rfl) ea_nil) (by omega) (by omega) (fun _ _ _ _ => et_yes) (fun j G' hj e _ => ev_iD ev_c) (fun _ _ => rfl) (fun _ => rfl))) ?_
    rintro v3 G4 M4 e4 ⟨h4, rfl⟩
    rw [hz] at h4
    exact ⟨rfl, v3, rfl, h4⟩
  · rw [if_neg (of_decide_eq_false hb)]
    exact sv_next fun G4 e4 => ⟨rfl, v2, rfl, dm h2' (e3.trans e4)⟩
  rintro G5 σ5 M5 e5 ⟨rfl, v5, rfl, h5⟩
  refine sv_seq (N := fun G' σ' M' => M' = M.set i (dk, (colDk D b r).ho) ∧ ∃ v3, σ' = [some (.ref dk), some (.int b), some (.int r), some (.int (dv D 5)), some v3, none] ∧ Dp K G' v3 (.list ((colOf D b r).map PyData.int))) (sv_if (et_test (ev_eqI (ev_var rfl) ev_c)) (fun G3 e3 hb => ?_) fun G3 e3 hb => ?_) ?_
  · unfold colOf
    rw [if_pos (of_decide_eq_true hb)]
    refine sv_set (Ev.frz (ev_lcR (K := K) (nn := r) (fun _ => true) (fun _ => M.set i (dk, (colDk D b r).ho)) (fun j => .int (b - 1)) (ea_cons (ev_var rfl) ea_nil) (by omega) (by omega) (fun _ _ _ _ => et_yes) (fun j G' hj e _ => ev_iD (ev_I0 (ev_var rfl) ev_c)) (fun _ _ => rfl) (fun _ => rfl))) ?_
    rintro v3 G4 M4 e4 ⟨h4, rfl⟩
    rw [hz] at h4
    exact ⟨rfl, v3, rfl, h4⟩
  · unfold colOf
    rw [if_neg (of_decide_eq_false hb)]
    exact sv_next fun G4 e4 => ⟨rfl, v5, rfl, dm h5 (e3.trans e4)⟩
  rintro G6 σ6 M6 e6 ⟨rfl, v6, rfl, h6⟩
  exact sv_ret (ev_tupD (K := K) (ev_varP rfl h6)) fun v' G' M' e r => r

-- _law_columns
theorem ok__law_columns (T : Txt K mg) : FnOk P w K mg base CX0 3 T.a__law_columns T.fd__law_columns ["deck", "base", "rows", "most"] (spec lcolsPre (lcolsPost K)) := by
  refine fn_sv T.F__law_columns sc__law_columns (fun x G M vs h => by obtain ⟨rfl, _⟩ := h; rfl) fun cdv A outer s H E hr => ⟨_, (pss_cons (ps_set (i := 4) sc__law_columns.nd rfl (Or.inl rfl) (pe_call (ok__law_draw T) (hr.mono (by decide)) (by rfl) T.m__law_draw T.F__law_draw.kp T.b__law_draw .nil pass0 (pa_cons (pv 0) (pa_cons (pe_int) pa_nil)))) (pss_cons (ps_if (pt_cmpR op_eq (pe_call (ok__law_draw T) (hr.mono (by decide)) (by rfl) T.m__law_draw T.F__law_draw.kp T.b__law_draw .nil pass0 (pa_cons (pv 0) (pa_cons (pe_int) pa_nil))) (pe_int) (nomark _)) (pss_one (ps_set (i := 4) sc__law_columns.nd rfl (Or.inl rfl) (pe_call (ok__law_draw T) (hr.mono (by decide)) (by rfl) T.m__law_draw T.F__law_draw.kp T.b__law_draw .nil pass0 (pa_cons (pv 0) (pa_cons (pe_op op_add (pv 3) (pe_int)) pa_nil))))) (pss_nil)) (pss_one (ps_ret (pe_lc (own := [("i", 5)]) (g := gName 5) (tt := tYes) rfl sc__law_columns.nd (pi_range1 (by rfl) T.n_range (pa_cons (pv 4) pa_nil)) (blkOk_by (N := ["deck", "base", "rows", "most", "many", "i"]) (sc := defScope s__law_columns) (by decide +kernel)) (fun _ _ _ _ _ => pg_name (i := 5) sc__law_columns.nd rfl (Or.inl rfl)) (fun _ _ _ _ _ => pts_nil) (fun _ _ _ _ _ => pe_call (ok__law_column T) (hr.mono (by decide)) (by rfl) T.m__law_column T.F__law_column.kp T.b__law_column .nil pass0 (pa_cons (pv 0) (pa_cons (pv 1) (pa_cons (pv 2) pa_nil))))))))), ?_⟩
  rintro ⟨dk, i, D, b, r, most⟩ G M vs ⟨rfl, (b0 : 0 < b), (b1 : b < 2 ^ 200), (r0 : 0 ≤ r), (r1 : r ≤ 1000), (m0 : 0 ≤ most), (m1 : most ≤ 1000), (hi : M[i]? = some (dk, D.ho))⟩
  have hset : ∀ (o : HO), (M.set i (dk, o))[i]? = some (dk, o) := fun o => by rw [List.getElem?_set_self (List.getElem?_eq_some_iff.mp hi).1]
  refine sv_let (ev_draw i (ea_cons (ev_var rfl) (ea_cons ev_c ea_nil)) hi (by decide) (by decide)) ?_
  rintro _ G1 M1 e1 ⟨rfl, rfl⟩
  have hif := ev_draw (σ := [some (.ref dk), some (.int b), some (.int r), some (.int most), some (.int (dv D 7)), none]) (G := G1) (E := E0) i (ea_cons (ev_var (k := 0) rfl) (ea_cons (ev_c (x := .int 3)) ea_nil)) (hset (dn D 7).ho) (by decide) (by decide)
  rw [List.set_set] at hif
  refine sv_seq (N := fun G' σ' M' => σ' = [some (.ref dk), some (.int b), some (.int r), some (.int most), some (.int (manyOf D most)), none] ∧ M' = M.set i (dk, (manyDk D most).ho)) (sv_if (et_test (ev_eqI hif ev_c)) (fun G3 e3 hb => ?_) fun G3 e3 hb => ?_) ?_
  · have hd := of_decide_eq_true hb
    have := ev_draw (σ := [some (.ref dk), some (.int b), some (.int r), some (.int most), some (.int (dv D 7)), none]) (G := G3) (E := E0) i (ea_cons (ev_var (k := 0) rfl) (ea_cons (ev_I0 (g := fun i j => V.int (i + j)) (ev_var (k := 3) (x := .int most) rfl) (ev_c (x := .int 1))) ea_nil)) (hset (dn (dn D 7) 3).ho) (by omega) (by omega)
    rw [List.set_set] at this
    refine sv_set this ?_
    rintro _ G4 M4 e4 ⟨rfl, rfl⟩
    unfold manyOf manyDk
    rw [if_pos hd, if_pos hd]
    exact ⟨rfl, rfl⟩
  · have hd := of_decide_eq_false hb
    refine sv_next fun G4 e4 => ?_
    unfold manyOf manyDk
    rw [if_neg hd, if_neg hd]
    exact ⟨rfl, rfl⟩
  rintro G5 σ5 M5 e5 ⟨rfl, rfl⟩
  have h0 := manyOf_lo (D := D) m0
  have h1 := manyOf_hi (D := D) m0
  refine sv_ret (ev_lcR (K := K) (nn := manyOf D most) (fun _ => true) (fun j => M.set i (dk, (colsDk (manyDk D most) b r j).ho)) (fun j => colD (colOf (colsDk (manyDk D most) b r j) b r)) (ea_cons (ev_var rfl) ea_nil) (by omega) (by omega) (fun _ _ _ _ => et_yes) (fun j G' hj e _ => ?_) (fun _ z => by cases z) (fun _ => rfl)) fun v' G' M' e r' => ?_
  · have := ev_lcol (K := K) (σ := [some (.ref dk), some (.int b), some (.int r), some (.int most), some (.int (manyOf D most)), some (.int (0 + (j : Int)))]) (G := G') (E := E0) i (ea_cons (ev_var (k := 0) rfl) (ea_cons (ev_var (k := 1) rfl) (ea_cons (ev_var (k := 2) rfl) ea_nil))) (hset (colsDk (manyDk D most) b r j).ho) b0 b1 r0 r1
    rw [List.set_set] at this
    exact this
  · rw [kept_all] at r'
    show own K ((colsOf D b r most).map colD) _ G' v' M'
    rw [colsOf, colsV, List.map_map]
    exact r'

-- _law_deck
theorem ok__law_deck (T : Txt K mg) : FnOk P w K mg base CX0 1 T.a__law_deck T.fd__law_deck ["cell"] (spec deckPre deckPost) := by
  refine fn_sv T.F__law_deck sc__law_deck (fun x G M vs h => by cases h; rfl) fun cdv A outer s H E hr => ⟨_, (pss_cons (ps_if (pt_cmpR op_ge (pv 0) (pe_op op_pow (pe_int) (pe_int)) (nomark _)) (pss_one (ps_ret (pe_lst (pa_cons (pe_op op_sub (pv 0) (pe_op op_pow (pe_int) (pe_int))) (pa_cons (pe_int) (pa_cons (pe_int) pa_nil)))))) (pss_nil)) (pss_one (ps_ret (pe_lst (pa_cons (pe_int) (pa_cons (pe_int) (pa_cons (pe_op op_add (pe_op op_mod (pe_callTy c_int (by rfl) T.n_int (by decide +kernel) (pa_cons (pv 0) pa_nil)) (pe_int)) (pe_int)) pa_nil))))))), ?_⟩
  rintro c G M vs rfl
  have hp : ∀ G' , Ev (tOp (rI CPow fun i j => .int (i ^ j.toNat)) (tC (.int 10)) (tC (.int 18))) (start ["cell"] [.int c]) G' M (isV (.int (10 ^ 18)) M) := fun G' => ev_I ev_c ev_c ⟨by decide, by decide, by decide⟩
  refine sv_ifs (et_test (ev_I0 (ev_var rfl) (hp _))) ?_ ?_
  · intro G1 e1 hb
    have hc : (10 : Int) ^ 18 ≤ c := of_decide_eq_true hb
    refine sv_ret (ev_lstI (xs := [.int (c - 10 ^ 18), .int 0, .int 1]) (ea_cons (ev_I0 (ev_var rfl) (hp _)) (ea_cons ev_c (ea_cons ev_c ea_nil))) (by show 3 ≤ 1000; decide)) fun v' G' M' e r => ?_
    show ∃ dk, v' = .ref dk ∧ M' = M ++ [(dk, (deckOf c).ho)]
    unfold deckOf
    rw [if_pos hc]
    exact r
  · intro G1 e1 hb
    have hc : ¬ (10 : Int) ^ 18 ≤ c := of_decide_eq_false hb
    refine sv_next fun G2 e2 => sv_ret (ev_lstI (xs := [.int 0, .int 0, .int (c % 2147483629 + 2)]) (ea_cons ev_c (ea_cons ev_c (ea_cons (ev_I0 (ev_I (ev_int (ev_var rfl)) ev_c (by decide)) ev_c) ea_nil))) (by show 3 ≤ 1000; decide)) fun v' G' M' e r => ?_
    show ∃ dk, v' = .ref dk ∧ M' = M ++ [(dk, (deckOf c).ho)]
    unfold deckOf
    rw [if_neg hc]
    exact r

-- _law_order
theorem ok__law_order (T : Txt K mg) : FnOk P w K mg base CX0 1 T.a__law_order T.fd__law_order ["one", "other"] (spec (orderPre K) orderPost) := by
  refine fn_sv T.F__law_order sc__law_order (fun x G M vs h => by obtain ⟨v, u, rfl, _⟩ := h; rfl) fun cdv A outer s H E hr => ⟨_, (pss_cons (ps_if (pt_cmpR op_ne (pe_callB (k_len (K := K) rfl) (by rfl) T.n_len (by decide +kernel) (pa_cons (pv 0) pa_nil)) (pe_callB (k_len (K := K) rfl) (by rfl) T.n_len (by decide +kernel) (pa_cons (pv 1) pa_nil)) (nomark _)) (pss_one (ps_ret (pe_op op_sub (pe_int) (pe_op op_mul (pe_int) (pe_callTy c_int (by rfl) T.n_int (by decide +kernel) (pa_cons (pe_cmpR op_lt (pe_callB (k_len (K := K) rfl) (by rfl) T.n_len (by decide +kernel) (pa_cons (pv 0) pa_nil)) (pe_callB (k_len (K := K) rfl) (by rfl) T.n_len (by decide +kernel) (pa_cons (pv 1) pa_nil)) (nomark _)) pa_nil)))))) (pss_nil)) (pss_cons (ps_for PassesOwn.never rfl (pi_range1 (by rfl) T.n_range (pa_cons (pe_callB (k_len (K := K) rfl) (by rfl) T.n_len (by decide +kernel) (pa_cons (pv 0) pa_nil)) pa_nil)) (pg_name (i := 2) sc__law_order.nd rfl (Or.inl rfl)) (pss_one (ps_for PassesOwn.never rfl (pi_range1 (by rfl) T.n_range (pa_cons (pe_callB (k_len (K := K) rfl) (by rfl) T.n_len (by decide +kernel) (pa_cons (pe_ix (k_ixL (K := K) rfl) (pv 0) (pv 2) (fun _ _ => rfl)) pa_nil)) pa_nil)) (pg_name (i := 3) sc__law_order.nd rfl (Or.inl rfl)) (pss_one (ps_if (pt_cmpR op_ne (pe_ix (k_ixT (K := K) rfl) (pe_ix (k_ixL (K := K) rfl) (pv 0) (pv 2) (fun _ _ => rfl)) (pv 3) (fun _ _ => rfl)) (pe_ix (k_ixT (K := K) rfl) (pe_ix (k_ixL (K := K) rfl) (pv 1) (pv 2) (fun _ _ => rfl)) (pv 3) (fun _ _ => rfl)) (nomark _)) (pss_one (ps_ret (pe_op op_sub (pe_int) (pe_op op_mul (pe_int) (pe_callTy c_int (by rfl) T.n_int (by decide +kernel) (pa_cons (pe_cmpR op_lt (pe_ix (k_ixT (K := K) rfl) (pe_ix (k_ixL (K := K) rfl) (pv 0) (pv 2) (fun _ _ => rfl)) (pv 3) (fun _ _ => rfl)) (pe_ix (k_ixT (K := K) rfl) (pe_ix (k_ixL (K := K) rfl) (pv 1) (pv 2) (fun _ _ => rfl)) (pv 3) (fun _ _ => rfl)) (nomark _)) pa_nil)))))) (pss_nil)))))) (pss_one (ps_ret (pe_int))))), ?_⟩
  rintro ⟨cs, ds, n⟩ G M vs ⟨v, u, rfl, (hv : Dp K G v (.list (cs.map colD))), (hu : Dp K G u (.list (ds.map colD))), (hn : n ≤ 1000), (hl : cs.length ≤ 1000), (hc : ∀ c ∈ cs, c.length = n), (hd : ∀ c ∈ ds, c.length = n)⟩
  have hlen : ∀ (G' : Hp) (σ : L2.St) (M' : Mem), Ex G G' → σ[0]? = some (some v) → Ev (tCB (rLenS K) (tCons (tVar 0) tNil)) σ G' M' (isV (.int (cs.length : Int)) M') := fun G' σ M' e h0 => by
    have := ev_lenL (K := K) (ev_varP (M := M') h0 (dm hv e))
    rw [List.length_map] at this
    exact this
  have hlen2 : ∀ (G' : Hp) (σ : L2.St) (M' : Mem), Ex G G' → σ[1]? = some (some u) → Ev (tCB (rLenS K) (tCons (tVar 1) tNil)) σ G' M' (isV (.int (ds.length : Int)) M') := fun G' σ M' e h0 => by
    have := ev_lenL (K := K) (ev_varP (M := M') h0 (dm hu e))
    rw [List.length_map] at this
    exact this
  refine sv_ifs (M1 := M) (et_test (ev_neI (hlen _ _ _ (Ex.refl _) rfl) (hlen2 _ _ _ (Ex.refl _) rfl))) (fun G1 e1 hb => ?_) fun G1 e1 hb => sv_next fun G2 e2 => ?_
  · have hne : cs.length ≠ ds.length := by
      intro z
      rw [z] at hb
      simp at hb
    refine sv_ret (ev_I0 (g := fun i j => V.int (i - j)) ev_c (ev_I (C := CMul) (g := fun i j => V.int (i * j)) ev_c (ev_intB (ev_I0 (g := fun i j => V.bl (decide (i < j))) (hlen _ _ _ e1 rfl) (hlen2 _ _ _ e1 rfl))) (.inl ⟨by decide, by decide⟩))) fun v' G' M' e z => ?_
    obtain ⟨rfl, rfl⟩ := z
    refine ⟨?_, rfl⟩
    show V.int _ = V.int (ordV cs ds)
    have hO : ordV cs ds = if decide (cs.length < ds.length) = true then -1 else 1 := by
      unfold ordV ltS
      rw [if_neg (fun z : cs = ds => hne (by rw [z])), if_neg hne]
    rw [hO]
    congr 1
    by_cases h : cs.length < ds.length
    · rw [decide_eq_true (show (cs.length : Int) < ds.length by omega), decide_eq_true h]
      rfl
    · rw [decide_eq_false (show ¬ (cs.length : Int) < ds.length by omega), decide_eq_false h]
      rfl
  have hll : cs.length = ds.length := by
    have : (cs.length : Int) = ds.length := by simpa using hb
    omega
  have e12 := e1.trans e2
  refine sv_seq (N := fun G' σ' M' => M' = M ∧ cs = ds) (sv_forR (n := (cs.length : Int)) (M1 := M) (fun i G' σ' M' => M' = M ∧ cs.take i = ds.take i ∧ ∃ a b, σ' = [some v, some u, a, b]) (ea_cons (hlen _ _ _ e12 rfl) ea_nil) (fun G' e => ⟨rfl, by rw [List.take_zero, List.take_zero], none, none, rfl⟩) (by omega) ?_ ?_) ?_
  · rintro i G' σ' M' e hi ⟨rfl, ht, a, b, rfl⟩
    have hic : i < cs.length := by omega
    have hid : i < ds.length := by omega
    have ee := e12.trans e
    have h1 : cs[i]? = some cs[i] := List.getElem?_eq_getElem hic
    have h2 : ds[i]? = some ds[i] := List.getElem?_eq_getElem hid
    have n1 : cs[i].length = n := hc _ (List.getElem_mem hic)
    have n2 : ds[i].length = n := hd _ (List.getElem_mem hid)
    have hone : ∀ (G'' : Hp) (σ : L2.St), Ex G' G'' → σ[0]? = some (some v) → σ[2]? = some (some (.int (0 + (i : Int)))) → Ev (tOp (rIxL K) (tVar 0) (tVar 2)) σ G'' M' (isD K (colD cs[i]) M') := fun G'' σ e' k0 k2 => ev_ixDL (K := K) (ev_varP k0 (dm hv (ee.trans e'))) (ev_var k2) (by rw [Int.zero_add]; exact L2.atI_nat (by rw [List.getElem?_map, h1]; rfl))
    have hoth : ∀ (G'' : Hp) (σ : L2.St), Ex G' G'' → σ[1]? = some (some u) → σ[2]? = some (some (.int (0 + (i : Int)))) → Ev (tOp (rIxL K) (tVar 1) (tVar 2)) σ G'' M' (isD K (colD ds[i]) M') := fun G'' σ e' k0 k2 => ev_ixDL (K := K) (ev_varP k0 (dm hu (ee.trans e'))) (ev_var k2) (by rw [Int.zero_add]; exact L2.atI_nat (by rw [List.getElem?_map, h2]; rfl))
    have hln : Ev (tCB (rLenS K) (tCons (tOp (rIxL K) (tVar 0) (tVar 2)) tNil)) [some v, some u, some (.int (0 + (i : Int))), b] G' M' (isV (.int (n : Int)) M') := by
      have := ev_lenT (K := K) (hone G' [some v, some u, some (.int (0 + (i : Int))), b] (Ex.refl _) rfl rfl)
      rw [List.length_map, n1] at this
      exact this
    refine sv_tgN ?_
    show Sv E _ [some v, some u, some (.int (0 + (i : Int))), b] G' M' _
    refine sv_forR (n := (n : Int)) (M1 := M') (fun j G'' σ' M'' => M'' = M' ∧ cs[i].take j = ds[i].take j ∧ ∃ b, σ' = [some v, some u, some (.int (0 + (i : Int))), b]) (ea_cons hln ea_nil) (fun G'' e => ⟨rfl, by rw [List.take_zero, List.take_zero], b, rfl⟩) (by omega) ?_ ?_
    · rintro j G'' σ' M'' e' hj ⟨rfl, hu', b, rfl⟩
      have hj1 : j < cs[i].length := by omega
      have hj2 : j < ds[i].length := by omega
      have k1 : cs[i][j]? = some cs[i][j] := List.getElem?_eq_getElem hj1
      have k2 : ds[i][j]? = some ds[i][j] := List.getElem?_eq_getElem hj2
      have v1 : ∀ (G3 : Hp), Ex G'' G3 → Ev (tOp (rIxT K) (tOp (rIxL K) (tVar 0) (tVar 2)) (tVar 3)) [some v, some u, some (.int (0 + (i : Int))), some (.int (0 + (j : Int)))] G3 M'' (isV (.int cs[i][j]) M'') := fun G3 e3 => ev_dI (ev_ixDT (K := K) (hone G3 _ (e'.trans e3) rfl rfl) (ev_var rfl) (by rw [Int.zero_add]; exact L2.atI_nat (by rw [List.getElem?_map, k1]; rfl)))
      have v2 : ∀ (G3 : Hp), Ex G'' G3 → Ev (tOp (rIxT K) (tOp (rIxL K) (tVar 1) (tVar 2)) (tVar 3)) [some v, some u, some (.int (0 + (i : Int))), some (.int (0 + (j : Int)))] G3 M'' (isV (.int ds[i][j]) M'') := fun G3 e3 => ev_dI (ev_ixDT (K := K) (hoth G3 _ (e'.trans e3) rfl rfl) (ev_var rfl) (by rw [Int.zero_add]; exact L2.atI_nat (by rw [List.getElem?_map, k2]; rfl)))
      refine sv_tgN (sv_if (M1 := M'') (et_test (ev_neI (v1 _ (Ex.refl _)) (v2 _ (Ex.refl _)))) (fun G3 e3 hb => ?_) fun G3 e3 hb => sv_next fun G4 e4 => ⟨rfl, ?_, _, rfl⟩)
      · have hne : cs[i][j] ≠ ds[i][j] := by simpa using hb
        have hcd : cs[i] ≠ ds[i] := fun z => hne (by simp [z])
        refine sv_ret (ev_I0 (g := fun i j => V.int (i - j)) ev_c (ev_I (C := CMul) (g := fun i j => V.int (i * j)) ev_c (ev_intB (ev_I0 (g := fun i j => V.bl (decide (i < j))) (v1 _ e3) (v2 _ e3))) (.inl ⟨by decide, by decide⟩))) fun v' G' M' e z => ?_
        obtain ⟨rfl, rfl⟩ := z
        refine ⟨?_, rfl⟩
        show V.int _ = V.int (ordV cs ds)
        have hO : ordV cs ds = if decide (cs[i][j] < ds[i][j]) = true then -1 else 1 := by
          unfold ordV ltS
          rw [if_neg (fun z : cs = ds => hcd (by simp [z])), if_pos hll, lexC_at ht h1 h2 hcd, lexI_at hu' k1 k2 hne]
        rw [hO]
        congr 1
        by_cases h : cs[i][j] < ds[i][j]
        · rw [decide_eq_true h]
          rfl
        · rw [decide_eq_false h]
          rfl
      · have heq : cs[i][j] = ds[i][j] := by simpa using hb
        rw [List.take_add_one, List.take_add_one, hu', k1, k2, heq]
    · rintro G'' σ' M'' e' ⟨rfl, hu', b, rfl⟩
      refine ⟨rfl, ?_, _, _, rfl⟩
      rw [Int.toNat_natCast, List.take_of_length_le (by omega), List.take_of_length_le (by omega)] at hu'
      rw [List.take_add_one, List.take_add_one, ht, h1, h2, hu']
  · rintro G' σ' M' e ⟨rfl, ht, _⟩
    rw [Int.toNat_natCast, List.take_length, hll, List.take_length] at ht
    exact ⟨rfl, ht⟩
  · rintro G3 σ3 M3 e3 ⟨rfl, rfl⟩
    refine sv_ret ev_c fun v' G' M' e z => ?_
    show isV (.int (ordV cs cs)) M3 G' v' M'
    rw [ordV_self]
    exact z

-- Sheet__place
theorem ok_Sheet__place (T : Txt K mg) : FnOk P w K mg base CX0 1 T.a_Sheet__place T.fd_Sheet__place ["self"] (spec (plPre K T.c_Sheet) plPost) := by
  refine fn_sv T.F_Sheet__place sc_Sheet__place (fun x G M vs h => by obtain ⟨rfl, _⟩ := h; rfl) fun cdv A outer s H E hr => ⟨_, (pss_one (ps_ret (pe_tup (pa_cons (k_fld (K := K) rfl (pv 0) rfl) (pa_cons (k_fld (K := K) rfl (pv 0) rfl) (pa_cons (pe_callB (k_len (K := K) rfl) (by rfl) T.n_len (by decide +kernel) (pa_cons (k_fld (K := K) rfl (pv 0) rfl) pa_nil)) (pa_cons (k_fld (K := K) rfl (pv 0) rfl) pa_nil))))))), ?_⟩
  rintro ⟨p, dx, l, xs, b, r⟩ G M vs ⟨rfl, (hp : At G M p _), (hA : AtL K G M l xs)⟩
  exact sv_ret (ev_tupV (vs := [.int b, .int r, .int (xs.length : Int), .ref l]) (ea_cons (ev_fld (ev_var rfl) hp T.cl_Sheet T.na_Sheet__base shF_b) (ea_cons (ev_fld (ev_var rfl) hp T.cl_Sheet T.na_Sheet__rows shF_r) (ea_cons (ev_lenA (K := K) (ev_fld (ev_var rfl) hp T.cl_Sheet T.na_Sheet__columns shF_c) hA) (ea_cons (ev_fld (ev_var rfl) hp T.cl_Sheet T.na_Sheet__columns shF_c) ea_nil)))) (by show 4 ≤ 1000; decide)) fun v' G' M' e r => r

-- Sheet___eq__
theorem ok_Sheet___eq__ (T : Txt K mg) : FnOk P w K mg base CX0 2 T.a_Sheet___eq__ T.fd_Sheet___eq__ ["self", "other"] (spec (cmpPre K T.c_Sheet) (cmpPost fun d e => PyData.eqv d e)) := by
  refine fn_sv T.F_Sheet___eq__ sc_Sheet___eq__ (fun x G M vs h => by obtain ⟨rfl, _⟩ := h; rfl) fun cdv A outer s H E hr => ⟨_, (pss_cons (ps_if (pt_not (pt_val (pe_callB (k_isi (K := K) rfl) (by rfl) T.n_isinstance (by decide +kernel) (pa_cons (pv 1) (pa_cons (pe_glob (v := .ref T.c_Sheet) (by rfl) T.m_Sheet rfl) pa_nil))))) (pss_one (ps_ret (pe_bl))) (pss_nil)) (pss_one (ps_ret (pe_cmpR (k_eqD (K := K) rfl hr.units) (pe_meth0 (pv 0) T.cl_Sheet T.me_Sheet__place (ok_Sheet__place T) (hr.mono (by decide)) T.b_Sheet__place .nil pass0) (pe_meth0 (pv 1) T.cl_Sheet T.me_Sheet__place (ok_Sheet__place T) (hr.mono (by decide)) T.b_Sheet__place .nil pass0) (nomark _))))), ?_⟩
  rintro ⟨⟨p, b, r, cs⟩, q, b', r', ds⟩ G M vs ⟨rfl, ⟨dx, l, xs, h1, h2, h3⟩, ⟨dy, l', ys, k1, k2, k3⟩⟩
  refine sv_ifs (a := false) (et_not (a := true) (et_B (ev_isiO T.ic_Sheet T.cl_Sheet T.io_Sheet (ev_var rfl) k1))) (fun G1 e1 hb => by cases hb) fun G1 e1 _ => sv_next fun G2 e2 => ?_
  have e12 := e1.trans e2
  refine sv_ret (ev_eqX (K := K) (d := placeD b r cs) (e := placeD b' r' ds) (ev_placeO (K := K) (ev_var rfl) (h1.ex e12) (h2.ex e12)) (ev_placeO (K := K) (ev_var rfl) (k1.ex e12) (k2.ex e12)) (fun G1 v e h => ?_) (fun G1 v e h => ?_) (sh_place _ _ _) (sh_place _ _ _)) fun v' G' M' e r => r
  · obtain ⟨t, rfl, ht⟩ := h
    exact da_place ht (h2.ex (e12.trans e)) (dma h3 (e12.trans e))
  · obtain ⟨t, rfl, ht⟩ := h
    exact da_place ht (k2.ex (e12.trans e)) (dma k3 (e12.trans e))
theorem opO_Sheet___eq__ (T : Txt K mg) {X : Cx} (hP : X.prog = P := by rfl) (hw : X.w = w := by rfl) (hK : X.K = K := by rfl) (hm : X.mg = mg := by rfl) (hr : Room 2 X.A) : OpR X (compareOp .Eq) (rCmpO T.c_Sheet (spec (cmpPre K T.c_Sheet) (cmpPost fun d e => PyData.eqv d e)) E0) := by
  subst hP hw hK hm
  exact op_cmpO rfl T.me_Sheet___eq__.at_ T.me_Sheet___eq__.fn (ok_Sheet___eq__ T) hr T.b_Sheet___eq__ pass0
theorem okX_Sheet___eq__ (T : Txt K mg) : FnOk P w K mg base CX0 2 T.a_Sheet___eq__ T.fd_Sheet___eq__ ["self", "other"] (spec (xeqPre K) xeqPost) := by
  refine fn_sv T.F_Sheet___eq__ sc_Sheet___eq__ (fun x G M vs h => by obtain ⟨rfl, _⟩ := h; rfl) fun cdv A outer s H E hr => ⟨_, (pss_cons (ps_if (pt_not (pt_val (pe_callB (k_isi (K := K) rfl) (by rfl) T.n_isinstance (by decide +kernel) (pa_cons (pv 1) (pa_cons (pe_glob (v := .ref T.c_Sheet) (by rfl) T.m_Sheet rfl) pa_nil))))) (pss_one (ps_ret (pe_bl))) (pss_nil)) (pss_one (ps_ret (pe_cmpR (k_eqD (K := K) rfl hr.units) (pe_meth0 (pv 0) T.cl_Sheet T.me_Sheet__place (ok_Sheet__place T) (hr.mono (by decide)) T.b_Sheet__place .nil pass0) (pe_meth0 (pv 1) T.cl_Sheet T.me_Sheet__place (ok_Sheet__place T) (hr.mono (by decide)) T.b_Sheet__place .nil pass0) (nomark _))))), ?_⟩
  rintro ⟨p, v, d⟩ G M vs ⟨rfl, (hd : Dp K G v d)⟩
  exact sv_ifs (a := true) (et_not (a := false) (et_B (ev_isiX T.do_Sheet (ev_varP rfl hd)))) (fun G1 e1 _ => sv_ret ev_c fun v' G' M' e r => r) fun G1 e1 hb => by cases hb
theorem opX_Sheet___eq__ (T : Txt K mg) {X : Cx} (hP : X.prog = P := by rfl) (hw : X.w = w := by rfl) (hK : X.K = K := by rfl) (hm : X.mg = mg := by rfl) (hr : Room 2 X.A) : OpR X (compareOp .Eq) (rCmpX K T.c_Sheet (spec (xeqPre K) xeqPost) E0) := by
  subst hP hw hK hm
  exact op_cmpX rfl T.me_Sheet___eq__.at_ T.me_Sheet___eq__.fn (okX_Sheet___eq__ T) hr T.b_Sheet___eq__ pass0

-- place_value
theorem ok_place_value (T : Txt K mg) : FnOk P w K mg base CX0 1 T.a_place_value T.fd_place_value ["base", "figures", "last"] (spec (placePre K) placePost) := by
  refine fn_sv T.F_place_value sc_place_value (fun x G M vs h => by obtain ⟨v, rfl, _⟩ := h; rfl) fun cdv A outer s H E hr => ⟨_, (pss_cons (ps_set (i := 3) sc_place_value.nd rfl (Or.inl rfl) (pv 2)) (pss_cons (ps_for PassesOwn.never rfl (pi_list (pe_revL (pv 1))) (pg_name (i := 4) sc_place_value.nd rfl (Or.inl rfl)) (pss_one (ps_set (i := 3) sc_place_value.nd rfl (Or.inl rfl) (pe_op op_add (pe_op op_mul (pv 3) (pv 0)) (pv 4))))) (pss_one (ps_ret (pv 3))))), ?_⟩
  rintro ⟨b, figs, last⟩ G M vs ⟨v, rfl, (dv : Dp K G v (.list (figs.map PyData.int))), (hb : -(2 ^ 64) < b ∧ b < 2 ^ 64)⟩
  refine sv_let (ev_var rfl) ?_
  rintro _ G1 M1 e1 ⟨rfl, rfl⟩
  refine sv_seq (N := fun G2 σ2 M2 => M2 = M1 ∧ ∃ f, σ2 = [some (.int b), some v, some (.int last), some (.int (horner b figs last)), f]) ?_ ?_
  · refine sv_forD (K := K) (ds := (figs.map PyData.int).reverse) (M1 := M1) (fun i G2 σ2 M2 => M2 = M1 ∧ ∃ f, σ2 = [some (.int b), some v, some (.int last), some (.int (horner b (figs.reverse.take i).reverse last)), f]) (Ev.frz (ev_revL (ev_varP rfl (dm dv e1)))) ?_ ?_ ?_
    · exact fun G' _ => ⟨rfl, none, rfl⟩
    · rintro i d x G2 σ2 M2 e2 hd dx ⟨rfl, f, rfl⟩
      obtain ⟨n, hn, rfl⟩ : ∃ n, figs.reverse[i]? = some n ∧ d = .int n := by
        rw [← List.map_reverse, List.getElem?_map] at hd
        cases q : figs.reverse[i]? with
        | none => rw [q] at hd; cases hd
        | some n => rw [q] at hd; exact ⟨n, rfl, (Option.some.inj hd).symm⟩
      obtain rfl := dp_int dx
      refine sv_tgN (sv_set (ev_I0 (ev_I (ev_var rfl) (ev_var rfl) (.inr hb)) (ev_var rfl)) ?_)
      rintro _ G3 M3 e3 ⟨rfl, rfl⟩
      refine ⟨rfl, some (.int n), ?_⟩
      show _ = [some (.int b), some v, some (.int last), some (.int (horner b (figs.reverse.take (i + 1)).reverse last)), some (.int n)]
      rw [List.take_add_one, hn]
      simp [horner]
    · rintro G2 σ2 M2 e2 ⟨rfl, f, rfl⟩
      refine ⟨rfl, f, ?_⟩
      have hq : (figs.reverse.take figs.length).reverse = figs := by
        rw [List.take_of_length_le (by simp), List.reverse_reverse]
      simp only [List.length_reverse, List.length_map, hq]
  · rintro G2 σ2 M2 e2 ⟨rfl, f, rfl⟩
    exact sv_ret (ev_var rfl) fun v' G' M' e r => r

-- Sheet_value
theorem ok_Sheet_value (T : Txt K mg) : FnOk P w K mg base CX0 2 T.a_Sheet_value T.fd_Sheet_value ["self"] (spec (shGPre K T.c_Sheet) fun x M => isV (.int (valueOf x.2.1 x.2.2.2)) M) := by
  refine fn_sv T.F_Sheet_value sc_Sheet_value (fun x G M vs h => by obtain ⟨⟨rfl, _⟩, _⟩ := h; rfl) fun cdv A outer s H E hr => ⟨_, (pss_one (ps_ret (pe_call (ok_place_value T) (hr.mono (by decide)) (by rfl) T.m_place_value T.F_place_value.kp T.b_place_value .nil pass0 (pa_cons (k_fld (K := K) rfl (pv 0) rfl) (pa_cons (pe_lc (own := [("column", 1)]) (g := gName 1) (tt := tYes) rfl sc_Sheet_value.nd (pi_list (k_fld (K := K) rfl (pv 0) rfl)) (blkOk_by (N := ["self", "column"]) (sc := defScope s_Sheet_value) (by decide +kernel)) (fun _ _ _ _ _ => pg_name (i := 1) sc_Sheet_value.nd rfl (Or.inl rfl)) (fun _ _ _ _ _ => pts_nil) (fun _ _ _ _ _ => pe_callB (k_sumT (K := K) rfl rfl) (by rfl) T.n_sum (by decide +kernel) (pa_cons (pv 1) pa_nil))) (pa_cons (pe_int) pa_nil)))))), ?_⟩
  rintro ⟨p, b, r, cs⟩ G M vs ⟨⟨rfl, dx, l, xs, h1, h2, h3⟩, hl, hb⟩
  refine sv_ret (ev_place (K := K) (b := b) (figs := cs.map List.sum) (last := 0) (ea_cons (ev_fld (ev_var rfl) h1 T.cl_Sheet T.na_Sheet__base shF_b) (ea_cons ?_ (ea_cons ev_c ea_nil))) hb) fun v' G' M' e r => r
  refine Ev.frz (ev_mapA (K := K) (own' := [1]) (p := l) (xs := xs) (ds := cs.map colD) (M1 := M) (fun i => .int (((cs[i]?).getD []).sum)) (ev_fld (ev_var rfl) h1 T.cl_Sheet T.na_Sheet__columns shF_c) h2 h3 (by rw [List.length_map]; exact hl) (fun i d x G' hd e dx => ?_) (fun _ => rfl) ?_)
  · rw [List.getElem?_map] at hd
    cases q : cs[i]? with
    | none => rw [q] at hd; cases hd
    | some c =>
      rw [q] at hd
      cases hd
      exact ev_iD (ev_sumT (K := K) (ns := c) (ev_varP rfl dx))
  · refine kept_ext (by simp) fun i d hd => ?_
    rw [List.map_map, List.getElem?_map] at hd
    cases q : cs[i]? with
    | none => rw [q] at hd; cases hd
    | some z => rw [q] at hd; cases hd; rfl

-- _law_strangers_right
theorem ok__law_strangers_right (T : Txt K mg) : FnOk P w K mg base CX0 7 T.a__law_strangers_right T.fd__law_strangers_right ["deck", "sheet", "base", "rows", "columns"] (spec (stranPre K T.c_Sheet) stranPost) := by
  refine fn_sv T.F__law_strangers_right sc__law_strangers_right (fun x G M vs h => by obtain ⟨v, rfl, _⟩ := h; rfl) fun cdv A outer s H E hr => ⟨_, (pss_cons (ps_set (i := 5) sc__law_strangers_right.nd rfl (Or.inl rfl) (pe_op op_sub (pe_op op_add (pv 2) (pe_int)) (pe_op op_mul (pe_int) (pe_callTy c_int (by rfl) T.n_int (by decide +kernel) (pa_cons (pe_cmpR op_eq (pv 2) (pe_int) (nomark _)) pa_nil))))) (pss_cons (ps_setLc (i := 6) (own := [("i", 9)]) (g := gName 9) (tt := tYes) rfl sc__law_strangers_right.nd rfl rfl (sw_true rfl rfl rfl (by decide +kernel)) (pi_range1 (by rfl) T.n_range (pa_cons (pe_callB (k_len (K := K) rfl) (by rfl) T.n_len (by decide +kernel) (pa_cons (pv 4) pa_nil)) pa_nil)) (blkOk_by (N := ["deck", "sheet", "base", "rows", "columns", "other_base", "plain", "other_rows", "value", "i", "j"]) (sc := defScope s__law_strangers_right) (by decide +kernel)) (fun _ _ _ _ _ => pg_name (i := 9) sc__law_strangers_right.nd rfl (Or.inl rfl)) (fun _ _ _ _ _ => pts_nil) (fun _ _ _ _ _ => pe_callTy (k_tup (K := K) rfl) (by rfl) T.n_tuple (by decide +kernel) (pa_cons (pe_lc (own := [("j", 10)]) (g := gName 10) (tt := tYes) rfl sc__law_strangers_right.nd (pi_range1 (by rfl) T.n_range (pa_cons (pv 3) pa_nil)) (by refine blkOk_by (N := ["deck", "sheet", "base", "rows", "columns", "other_base", "plain", "other_rows", "value", "i", "j"]) ?_; rfl) (fun _ _ _ _ _ => pg_name (i := 10) sc__law_strangers_right.nd rfl (Or.inl rfl)) (fun _ _ _ _ _ => pts_nil) (fun _ _ _ _ _ => pe_int)) pa_nil))) (pss_cons (ps_if (pt_cmpR op_notBl (pe_cmpR (opO_Sheet___eq__ T (hr := hr.mono (by decide))) (pe_make T.k_Sheet (okG_Sheet___init__ T) (hr.mono (by decide)) (by rfl) T.m_Sheet T.b_Sheet___init__ .nil passL (pa_cons (pv 5) (pa_cons (pv 3) (pa_cons (pv 6) pa_nil)))) (pe_make T.k_Sheet (okG_Sheet___init__ T) (hr.mono (by decide)) (by rfl) T.m_Sheet T.b_Sheet___init__ .nil passL (pa_cons (pv 2) (pa_cons (pv 3) (pa_cons (pv 6) pa_nil)))) (nomark _)) (pe_bl) (nomark _)) (pss_one (ps_ret (pe_bl))) (pss_nil)) (pss_cons (ps_set (i := 7) sc__law_strangers_right.nd rfl (Or.inl rfl) (pe_op op_sub (pe_op op_add (pv 3) (pe_int)) (pe_op op_mul (pe_int) (pe_callTy c_int (by rfl) T.n_int (by decide +kernel) (pa_cons (pe_cmpR op_eq (pv 3) (pe_int) (nomark _)) pa_nil))))) (pss_cons (ps_if (pt_cmpR op_notBl (pe_cmpR (opO_Sheet___eq__ T (hr := hr.mono (by decide))) (pe_make T.k_Sheet (okG_Sheet___init__ T) (hr.mono (by decide)) (by rfl) T.m_Sheet T.b_Sheet___init__ .nil passL (pa_cons (pv 2) (pa_cons (pv 3) (pa_cons (pe_lst pa_nil) pa_nil)))) (pe_make T.k_Sheet (okG_Sheet___init__ T) (hr.mono (by decide)) (by rfl) T.m_Sheet T.b_Sheet___init__ .nil passL (pa_cons (pv 2) (pa_cons (pv 7) (pa_cons (pe_lst pa_nil) pa_nil)))) (nomark _)) (pe_bl) (nomark _)) (pss_one (ps_ret (pe_bl))) (pss_nil)) (pss_cons (ps_set (i := 8) sc__law_strangers_right.nd rfl (Or.inl rfl) (pe_ix (k_ixL (K := K) rfl) (pe_lst (pa_cons (pe_callTy (k_list (K := K) rfl) (by rfl) T.n_list (by decide +kernel) (pa_cons (pv 4) pa_nil)) (pa_cons (pe_non) (pa_cons (pe_prop (pv 1) T.cl_Sheet T.p_Sheet_value (ok_Sheet_value T) (hr.mono (by decide)) T.b_Sheet_value .nil pass0 rfl) (pa_cons (pe_tup (pa_cons (pv 2) (pa_cons (pv 3) (pa_cons (pe_callTy (k_list (K := K) rfl) (by rfl) T.n_list (by decide +kernel) (pa_cons (pv 4) pa_nil)) pa_nil)))) (pa_cons (pe_str) pa_nil)))))) (pe_call (ok__law_draw T) (hr.mono (by decide)) (by rfl) T.m__law_draw T.F__law_draw.kp T.b__law_draw .nil pass0 (pa_cons (pv 0) (pa_cons (pe_int) pa_nil))) (fun _ _ => rfl))) (pss_one (ps_ret (pe_cmpR op_isBl (pe_cmpR (opX_Sheet___eq__ T (hr := hr.mono (by decide))) (pv 1) (pv 8) (nomark _)) (pe_bl) (nomark _)))))))))), ?_⟩
  rintro ⟨dk, i, D, p, b, r, cs⟩ G M vs ⟨v, rfl, (hv : Dp K G v (.list (cs.map colD))), (hS : ∀ M', ShAt K T.c_Sheet G M' p b r cs), (g : GoodSh b r cs), (hl : cs.length ≤ 20), (hi : M[i]? = some (dk, D.ho))⟩
  have gb := g.b2
  have gb' := g.b12
  have gr := g.r1
  have gr' := g.r4
  have hbb : -(2 ^ 64) < b ∧ b < 2 ^ 64 := ⟨by omega, by omega⟩
  refine sv_let (ev_I0 (g := fun i j => V.int (i - j)) (ev_I0 (g := fun i j => V.int (i + j)) (ev_var rfl) ev_c) (ev_I (C := CMul) (g := fun i j => V.int (i * j)) ev_c (ev_intB (ev_eqI (ev_var rfl) ev_c)) (.inl ⟨by decide, by decide⟩))) ?_
  rintro _ G1 M1 e1 ⟨rfl, rfl⟩
  show Sv E _ [some (.ref dk), some (.ref p), some (.int b), some (.int r), some v, some (.int (othB b)), none, none, none, none, none] G1 M1 _
  have hob : othB b ≠ b ∧ 2 ≤ othB b ∧ othB b ≤ 12 := by
    unfold othB
    by_cases h : b = 12
    · rw [decide_eq_true h]
      simp
      omega
    · rw [decide_eq_false h]
      simp
      omega
  have hlen : ∀ (G' : Hp) (σ : L2.St) (M' : Mem), Ex G G' → σ[4]? = some (some v) → Ev (tCB (rLenS K) (tCons (tVar 4) tNil)) σ G' M' (isV (.int (cs.length : Int)) M') := fun G' σ M' e h0 => by
    have := ev_lenL (K := K) (ev_varP (M := M') h0 (dm hv e))
    rw [List.length_map] at this
    exact this
  refine sv_let (R := isD K (.list ((List.replicate cs.length (List.replicate r.toNat (0 : Int))).map colD)) M1) (Ev.frz ?_) ?_
  · rw [List.map_replicate, ← kept_same]
    have := ev_lcR (K := K) (σ := [some (.ref dk), some (.ref p), some (.int b), some (.int r), some v, some (.int (othB b)), none, none, none, none, none]) (G := G1) (M := M1) (own' := [9]) (k := 9) (tt := tYes) (te := tCB (rTupS K) (tCons (tLc (iRng1 (tCons (tVar 3) tNil)) (gName 10) tYes (tC (.int 0)) [10]) tNil)) (nn := (cs.length : Int)) (fun _ => true) (fun _ => M1) (fun j => colD (List.replicate r.toNat (0 : Int))) (ea_cons (hlen _ _ _ e1 rfl) ea_nil) (by omega) (by omega) (fun _ _ _ _ => et_yes) (fun j G' hj e _ => ?_) (fun _ _ => rfl) (fun _ => rfl)
    · rw [Int.toNat_natCast] at this
      exact this
    · refine ev_tupD (K := K) (Ev.frz ?_)
      rw [← kept_const]
      exact ev_lcR (K := K) (nn := r) (fun _ => true) (fun _ => M1) (fun j => .int 0) (ea_cons (ev_var rfl) ea_nil) (by omega) (by omega) (fun _ _ _ _ => et_yes) (fun j G' hj e _ => ev_iD ev_c) (fun _ _ => rfl) (fun _ => rfl)
  rintro pv G2 M2 e2 ⟨hpv, eM⟩
  obtain rfl := eM.symm
  have gp : ∀ b', 2 ≤ b' → b' ≤ 12 → GoodSh b' r (List.replicate cs.length (List.replicate r.toNat (0 : Int))) := fun b' h1 h2 => ⟨h1, h2, gr, gr', by rw [List.length_replicate]; omega, fun c hc => by
    rw [List.eq_of_mem_replicate hc]
    exact ⟨by rw [List.length_replicate]; omega, fun f hf => by rw [List.eq_of_mem_replicate hf]; omega⟩⟩
  generalize List.replicate cs.length (List.replicate r.toNat (0 : Int)) = pl at hpv gp
  refine sv_ifs (a := false) (M1 := M1) ?_ (fun G' _ hb => by cases hb) fun G3 e3 _ => sv_next fun G4 e4 => ?_
  · have := ev_notB (ev_cmpS (K := K) (C := T.c_Sheet) (E := E0) (f := fun d e => PyData.eqv d e) (Ev.frzSh (ev_mkSh3 (K := K) (C := T.c_Sheet) (E := E0) (cs := pl) (ev_var (σ := [some (.ref dk), some (.ref p), some (.int b), some (.int r), some v, some (.int (othB b)), some pv, none, none, none, none]) (G := G2) (M := M1) (k := 5) rfl) (ev_var (k := 3) rfl) (ev_varP (k := 6) rfl hpv) (gp _ hob.2.1 hob.2.2))) (Ev.frzSh (ev_mkSh3 (K := K) (C := T.c_Sheet) (E := E0) (cs := pl) (ev_var (k := 2) rfl) (ev_var (k := 3) rfl) (ev_varP (k := 6) rfl hpv) (gp _ gb gb'))) (fun G' v e h => by obtain ⟨a, h1, h2⟩ := h.at_; exact ⟨a, h1, h2 _⟩) (fun G' v e h => by obtain ⟨a, h1, h2⟩ := h.at_; exact ⟨a, h1, h2 _⟩)) (ev_c (x := .bl false))
    rw [eqv_place, show decide ((othB b, r, pl) = (b, r, pl)) = false from decide_eq_false (fun z => hob.1 (congrArg (fun t => t.1) z)), decide_eq_true rfl] at this
    exact et_test this
  have e24 := e3.trans e4
  have hor : (r + 1 - 2 * (if decide (r = 4) then 1 else 0)) ≠ r ∧ 1 ≤ (r + 1 - 2 * (if decide (r = 4) then 1 else 0)) ∧ (r + 1 - 2 * (if decide (r = 4) then 1 else 0)) ≤ 4 := by
    by_cases h : r = 4
    · rw [decide_eq_true h]
      simp
      omega
    · rw [decide_eq_false h]
      simp
      omega
  refine sv_let (ev_I0 (g := fun i j => V.int (i - j)) (ev_I0 (g := fun i j => V.int (i + j)) (ev_var rfl) ev_c) (ev_I (C := CMul) (g := fun i j => V.int (i * j)) ev_c (ev_intB (ev_eqI (ev_var rfl) ev_c)) (.inl ⟨by decide, by decide⟩))) ?_
  rintro _ G5 M5 e5 ⟨rfl, eM⟩
  obtain rfl := eM.symm
  generalize (r + 1 - 2 * (if decide (r = 4) then 1 else 0)) = orr at hor
  have gn : ∀ r', 1 ≤ r' → r' ≤ 4 → GoodSh b r' ([] : List (List Int)) := fun r' h1 h2 => ⟨gb, gb', h1, h2, by show 0 ≤ 10000; omega, fun c hc => by cases hc⟩
  refine sv_ifs (a := false) (M1 := M1) ?_ (fun G' _ hb => by cases hb) fun G6 e6 _ => sv_next fun G7 e7 => ?_
  · have := ev_notB (ev_cmpS (K := K) (C := T.c_Sheet) (E := E0) (f := fun d e => PyData.eqv d e) (Ev.frzSh (ev_mkSh3 (K := K) (C := T.c_Sheet) (E := E0) (cs := []) (ev_var (σ := [some (.ref dk), some (.ref p), some (.int b), some (.int r), some v, some (.int (othB b)), some pv, some (.int orr), none, none, none]) (G := G5) (M := M1) (k := 2) rfl) (ev_var (k := 3) rfl) (Ev.frz (ev_lstO (K := K) (ds := []) ea_nil (by decide))) (gn _ gr gr'))) (Ev.frzSh (ev_mkSh3 (K := K) (C := T.c_Sheet) (E := E0) (cs := []) (ev_var (k := 2) rfl) (ev_var (k := 7) rfl) (Ev.frz (ev_lstO (K := K) (ds := []) ea_nil (by decide))) (gn _ hor.2.1 hor.2.2))) (fun G' v e h => by obtain ⟨a, h1, h2⟩ := h.at_; exact ⟨a, h1, h2 _⟩) (fun G' v e h => by obtain ⟨a, h1, h2⟩ := h.at_; exact ⟨a, h1, h2 _⟩)) (ev_c (x := .bl false))
    rw [eqv_place, show decide ((b, r, ([] : List (List Int))) = (b, orr, [])) = false from decide_eq_false (fun z => hor.1 (congrArg (fun t => t.2.1) z).symm), decide_eq_true rfl] at this
    exact et_test this
  have e17 : Ex G1 G7 := (((e2.trans e24).trans e5).trans e6).trans e7
  have e07 := e1.trans e17
  have hcopy : ∀ (M' : Mem) (σ : L2.St), σ[4]? = some (some v) → Ev (tCB (rListS K) (tCons (tVar 4) tNil)) σ G7 M' (isD K (.list (cs.map colD)) M') := fun M' σ h2 => Ev.frz (ev_listD (K := K) (ev_varP h2 (dm hv e07)))
  obtain ⟨dx, l, xs, h1, h2, h3⟩ := hS M1
  have d0 : 0 ≤ dv D 5 := dv_lo (by decide)
  have d1 : dv D 5 < 5 := dv_hi (by decide)
  obtain ⟨dd, hdd⟩ : ∃ dd, atI [PyData.list (cs.map colD), .none, .int (valueOf b cs), .tuple [.int b, .int r, .list (cs.map colD)], .str ""] (dv D 5) = some dd := by
    have : dv D 5 = 0 ∨ dv D 5 = 1 ∨ dv D 5 = 2 ∨ dv D 5 = 3 ∨ dv D 5 = 4 := by omega
    rcases this with h | h | h | h | h <;> rw [h] <;> exact ⟨_, rfl⟩
  refine sv_let (ev_ixDL (K := K) (M1 := M1) (M2 := M1.set i (dk, (dn D 5).ho)) (Ev.frz (ev_lstO (K := K) (ds := [.list (cs.map colD), .none, .int (valueOf b cs), .tuple [.int b, .int r, .list (cs.map colD)], .str ""]) (ea_cons (hcopy _ _ rfl) (ea_cons (ev_nD ev_c) (ea_cons (ev_iD (ev_prop (pre := shGPre K T.c_Sheet) (post := fun x M => isV (.int (valueOf x.2.1 x.2.2.2)) M) (p, b, r, cs) (ev_var rfl) (h1.ex e07) fun G1 e1 => ⟨⟨rfl, (hS _).ex (e07.trans e1)⟩, by show cs.length ≤ 100000; omega, hbb⟩)) (ea_cons (ev_tup (K := K) (ds := [.int b, .int r, .list (cs.map colD)]) (ea_cons (ev_iD (ev_var rfl)) (ea_cons (ev_iD (ev_var rfl)) (ea_cons (hcopy _ _ rfl) ea_nil))) (by show 3 ≤ 1000; decide)) (ea_cons (ev_sD ev_c) ea_nil))))) (by show 5 ≤ 1000; decide))) (ev_draw (D := D) i (ea_cons (ev_var rfl) (ea_cons ev_c ea_nil)) hi (by decide) (by decide)) hdd) ?_
  rintro vv G8 M8 e8 ⟨hvv, rfl⟩
  obtain ⟨dx, l, xs, h1, h2, h3⟩ := hS (M1.set i (dk, (dn D 5).ho))
  have := ev_isB (ev_cmpX (K := K) (C := T.c_Sheet) (pre := xeqPre K) (post := xeqPost) (E' := E0) (R := isV (.bl false) (M1.set i (dk, (dn D 5).ho))) (fun v => (p, v, dd)) T.do_Sheet (ev_var (σ := [some (.ref dk), some (.ref p), some (.int b), some (.int r), some v, some (.int (othB b)), some pv, some (.int orr), some vv, none, none]) (M := M1.set i (dk, (dn D 5).ho)) (k := 1) rfl) (ev_varP (k := 8) rfl hvv) (h1.ex (e07.trans e8)) (fun v G1 e h => ⟨rfl, h⟩) fun v G1 w M3 e r => r) (ev_c (x := .bl false))
  rw [decide_eq_true rfl] at this
  exact sv_ret this fun v' G' M' e r => r

-- _law_turned
theorem ok__law_turned (T : Txt K mg) : FnOk P w K mg base CX0 3 T.a__law_turned T.fd__law_turned ["deck", "columns", "base", "rows"] (spec (turnPre K) (turnPost K)) := by
  refine fn_sv T.F__law_turned sc__law_turned (fun x G M vs h => by obtain ⟨v, rfl, _⟩ := h; rfl) fun cdv A outer s H E hr => ⟨_, (pss_cons (ps_set (i := 4) sc__law_turned.nd rfl (Or.inl rfl) (pe_call (ok__law_draw T) (hr.mono (by decide)) (by rfl) T.m__law_draw T.F__law_draw.kp T.b__law_draw .nil pass0 (pa_cons (pv 0) (pa_cons (pe_int) pa_nil)))) (pss_cons (ps_set (i := 5) sc__law_turned.nd rfl (Or.inl rfl) (pe_callTy (k_list (K := K) rfl) (by rfl) T.n_list (by decide +kernel) (pa_cons (pv 1) pa_nil))) (pss_cons (ps_set (i := 6) sc__law_turned.nd rfl (Or.inl rfl) (pe_call (ok__law_draw T) (hr.mono (by decide)) (by rfl) T.m__law_draw T.F__law_draw.kp T.b__law_draw .nil pass0 (pa_cons (pv 0) (pa_cons (pe_op op_add (pe_callB (k_len (K := K) rfl) (by rfl) T.n_len (by decide +kernel) (pa_cons (pv 1) pa_nil)) (pe_int)) pa_nil)))) (pss_cons (ps_set (i := 7) sc__law_turned.nd rfl (Or.inl rfl) (pe_call (ok__law_draw T) (hr.mono (by decide)) (by rfl) T.m__law_draw T.F__law_draw.kp T.b__law_draw .nil pass0 (pa_cons (pv 0) (pa_cons (pv 3) pa_nil)))) (pss_cons (ps_set (i := 8) sc__law_turned.nd rfl (Or.inl rfl) (pe_call (ok__law_draw T) (hr.mono (by decide)) (by rfl) T.m__law_draw T.F__law_draw.kp T.b__law_draw .nil pass0 (pa_cons (pv 0) (pa_cons (pv 2) pa_nil)))) (pss_cons (ps_if (PW.pt (pw_or (pt_cmpR op_eq (pv 4) (pe_int) (nomark _)) (pw_or1 (PW.pt (pw_and (pt_cmpR op_eq (pv 4) (pe_int) (nomark _)) (pw_and1 (pt_cmpR op_gt (pe_callB (k_len (K := K) rfl) (by rfl) T.n_len (by decide +kernel) (pa_cons (pv 5) pa_nil)) (pe_int) (nomark _)))))))) (pss_one (ps_ret (pv 5))) (pss_nil)) (pss_cons (ps_if (pt_cmpR op_eq (pv 4) (pe_int) (nomark _)) (pss_one (ps_ret (pe_op (k_cat (K := K) rfl) (pe_op (k_cat (K := K) rfl) (pe_slice (k_slL (K := K) rfl) (pv 5) po_none (po_some (pv 6))) (pe_lst (pa_cons (pe_call (ok__law_column T) (hr.mono (by decide)) (by rfl) T.m__law_column T.F__law_column.kp T.b__law_column .nil pass0 (pa_cons (pv 0) (pa_cons (pv 2) (pa_cons (pv 3) pa_nil)))) pa_nil))) (pe_slice (k_slL (K := K) rfl) (pv 5) (po_some (pv 6)) po_none)))) (pss_nil)) (pss_cons (ps_if (pt_cmpR op_eq (pv 4) (pe_int) (nomark _)) (pss_one (ps_ret (pe_op (k_cat (K := K) rfl) (pe_slice (k_slL (K := K) rfl) (pv 5) po_none (po_some (pv 6))) (pe_slice (k_slL (K := K) rfl) (pv 5) (po_some (pe_op op_add (pv 6) (pe_int))) po_none)))) (pss_nil)) (pss_cons (ps_if (pt_cmpR op_eq (pv 6) (pe_callB (k_len (K := K) rfl) (by rfl) T.n_len (by decide +kernel) (pa_cons (pv 1) pa_nil)) (nomark _)) (pss_one (ps_ret (pv 5))) (pss_nil)) (pss_cons (ps_set (i := 9) sc__law_turned.nd rfl (Or.inl rfl) (pe_callTy (k_list (K := K) rfl) (by rfl) T.n_list (by decide +kernel) (pa_cons (pe_ix (k_ixL (K := K) rfl) (pv 5) (pv 6) (fun _ _ => rfl)) pa_nil))) (pss_cons (ps_asg (pv 8) (pg_sub (pv 9) (pv 7) set_list)) (pss_cons (ps_if (pt_cmpR op_eq (pv 4) (pe_int) (nomark _)) (pss_cons (ps_set (i := 10) sc__law_turned.nd rfl (Or.inl rfl) (pe_call (ok__law_draw T) (hr.mono (by decide)) (by rfl) T.m__law_draw T.F__law_draw.kp T.b__law_draw .nil pass0 (pa_cons (pv 0) (pa_cons (pe_callB (k_len (K := K) rfl) (by rfl) T.n_len (by decide +kernel) (pa_cons (pv 1) pa_nil)) pa_nil)))) (pss_cons (ps_set (i := 11) sc__law_turned.nd rfl (Or.inl rfl) (pe_ix (k_ixL (K := K) rfl) (pv 5) (pv 10) (fun _ _ => rfl))) (pss_cons (ps_asg (pe_ix (k_ixL (K := K) rfl) (pv 5) (pv 6) (fun _ _ => rfl)) (pg_sub (pv 5) (pv 10) set_list)) (pss_cons (ps_asg (pv 11) (pg_sub (pv 5) (pv 6) set_list)) (pss_one (ps_ret (pv 5))))))) (pss_nil)) (pss_cons (ps_asg (pe_callTy (k_tup (K := K) rfl) (by rfl) T.n_tuple (by decide +kernel) (pa_cons (pv 9) pa_nil)) (pg_sub (pv 5) (pv 6) set_list)) (pss_one (ps_ret (pv 5)))))))))))))))), ?_⟩
  rintro ⟨dk, i, D, b, r, cs⟩ G M vs ⟨v, rfl, (hv : Dp K G v (.list (cs.map colD))), (g : GoodSh b r cs), (hl : cs.length ≤ 20), (hi : M[i]? = some (dk, D.ho))⟩
  have hset : ∀ (o : HO), (M.set i (dk, o))[i]? = some (dk, o) := fun o => by rw [List.getElem?_set_self (List.getElem?_eq_some_iff.mp hi).1]
  have hil : i < M.length := (List.getElem?_eq_some_iff.mp hi).1
  have gb := g.b2
  have gb' := g.b12
  have gr := g.r1
  have gr' := g.r4
  refine sv_let (ev_draw (D := D) i (ea_cons (ev_var rfl) (ea_cons ev_c ea_nil)) hi (by decide) (by decide)) ?_
  rintro _ G1 M1 e1 ⟨rfl, rfl⟩
  generalize dv D 6 = way
  generalize dn D 6 = D
  refine sv_let (ev_listD (K := K) (ev_varP rfl (dm hv e1))) ?_
  rintro _ G2 M2 e2 ⟨tl, ts, rfl, rfl, hts⟩
  have hv := dm hv (e1.trans e2)
  have htl : ts.length = cs.length := by rw [dpa_len hts, List.length_map]
  have hlen : ∀ (G' : Hp) (σ : L2.St) (M' : Mem), Ex G2 G' → σ[1]? = some (some v) → Ev (tCB (rLenS K) (tCons (tVar 1) tNil)) σ G' M' (isV (.int (cs.length : Int)) M') := fun G' σ M' e h0 => by
    have := ev_lenL (K := K) (ev_varP (M := M') h0 (dm hv e))
    rw [List.length_map] at this
    exact this
  have hdk : ∀ (o : HO) (X : Mem), (M.set i (dk, o) ++ X)[i]? = some (dk, o) := fun o X => by rw [List.getElem?_append_left (by rw [List.length_set]; exact hil)]; exact hset o
  have hdks : ∀ (o o' : HO) (X : Mem), (M.set i (dk, o) ++ X).set i (dk, o') = M.set i (dk, o') ++ X := fun o o' X => by rw [List.set_append_left _ _ (by rw [List.length_set]; exact hil), List.set_set]
  have htt : ∀ (o : HO) (ys : List V) (X : Mem), (M.set i (dk, o) ++ ((tl, HO.lst ys) :: X))[M.length]? = some (tl, .lst ys) := fun o ys X => by
    rw [List.getElem?_append_right (by rw [List.length_set]; exact Nat.le_refl _), List.length_set, Nat.sub_self]
    rfl
  have htts : ∀ (o : HO) (ys zs : List V) (X : Mem), (M.set i (dk, o) ++ ((tl, HO.lst ys) :: X)).set M.length (tl, .lst zs) = M.set i (dk, o) ++ ((tl, HO.lst zs) :: X) := fun o ys zs X => by
    rw [List.set_append_right _ _ (by rw [List.length_set]; exact Nat.le_refl _), List.length_set, Nat.sub_self]
    rfl
  have hdraw : ∀ (n : Int) (D : Deck) (X : Mem) (σ : L2.St) (G' : Hp) (te : TE), σ[0]? = some (some (.ref dk)) → Ev te σ G' (M.set i (dk, D.ho) ++ X) (isV (.int n) (M.set i (dk, D.ho) ++ X)) → 0 < n → n < 2 ^ 200 → Ev (tCall (spec drawPre drawPost) [] E0 (tCons (tVar 0) (tCons te tNil))) σ G' (M.set i (dk, D.ho) ++ X) (isV (.int (dv D n)) (M.set i (dk, (dn D n).ho) ++ X)) := fun n D X σ G' te h0 h1 h2 h3 => by
    have := ev_draw (D := D) (n := n) (σ := σ) (G := G') (E := E0) i (ea_cons (ev_var h0) (ea_cons h1 ea_nil)) (hdk D.ho X) h2 h3
    rw [hdks] at this
    exact this
  refine sv_let (hdraw ((cs.length : Int) + 1) D [(tl, .lst ts)] _ _ _ rfl (ev_I0 (g := fun i j => V.int (i + j)) (hlen _ _ _ (Ex.refl _) rfl) ev_c) (by omega) (by omega)) ?_
  rintro _ G3 M3 e3 ⟨rfl, rfl⟩
  have a0 : 0 ≤ dv D ((cs.length : Int) + 1) := dv_lo (by omega)
  have a1 : dv D ((cs.length : Int) + 1) < (cs.length : Int) + 1 := dv_hi (by omega)
  generalize dv D ((cs.length : Int) + 1) = at_ at a0 a1
  generalize dn D ((cs.length : Int) + 1) = D
  refine sv_let (hdraw r D [(tl, .lst ts)] _ _ _ rfl (ev_var rfl) (by omega) (by omega)) ?_
  rintro _ G4 M4 e4 ⟨rfl, rfl⟩
  have j0 : 0 ≤ dv D r := dv_lo (by omega)
  have j1 : dv D r < r := dv_hi (by omega)
  generalize dv D r = j at j0 j1
  generalize dn D r = D
  refine sv_let (hdraw b D [(tl, .lst ts)] _ _ _ rfl (ev_var rfl) (by omega) (by omega)) ?_
  rintro _ G5 M5 e5 ⟨rfl, rfl⟩
  have f0 : 0 ≤ dv D b := dv_lo (by omega)
  have f1 : dv D b < b := dv_hi (by omega)
  generalize dv D b = fig at f0 f1
  generalize dn D b = D
  have e25 := (e3.trans e4).trans e5
  have hts := dma hts e25
  show Sv E _ [some (.ref dk), some v, some (.int b), some (.int r), some (.int way), some (.ref tl), some (.int at_), some (.int j), some (.int fig), none, none, none] G5 (M.set i (dk, D.ho) ++ [(tl, .lst ts)]) { nx := _, rt := turnPost K (dk, i, _, b, r, cs) M }
  -- what is handed back: the list that is owned
  have hret : ∀ (σ : L2.St) (G' : Hp) (D : Deck) (ys : List V) (X : Mem) (ds : List (List Int)) (nx : Hp → L2.St → Mem → Prop), σ[5]? = some (some (.ref tl)) → DpAll K G' ys (ds.map colD) → GoodSh b r ds → ds.length ≤ 20 → Sv E (tRet (tVar 5)) σ G' (M.set i (dk, D.ho) ++ ((tl, .lst ys) :: X)) { nx := nx, rt := turnPost K (dk, i, D, b, r, cs) M } := fun σ G' D ys X ds nx h5 hy gd hdl => by
    have e0 : M.set i (dk, D.ho) ++ ((tl, HO.lst ys) :: X) = (M.set i (dk, D.ho) ++ [(tl, .lst ys)]) ++ X := by simp
    rw [e0]
    refine sv_less (sv_frzLast fun G3 e3 ht => sv_ret (ev_varP (P := fun G v => Dp K G v (.list (ds.map colD))) h5 (.lst (SqL.of ht) (dma hy e3))) fun v' G4 M4 e4 z => ?_)
    obtain ⟨z1, rfl⟩ := z
    exact ⟨ds, D, z1, rfl, gd, hdl⟩
  obtain ⟨a, rfl⟩ : ∃ a : Nat, at_ = a := ⟨at_.toNat, by omega⟩
  have hT : ∀ (G' : Hp) (o : HO), AtL K G' (M.set i (dk, o) ++ [(tl, .lst ts)]) tl ts := fun G' o => .M (htt o ts [])
  refine sv_ifs (M1 := M.set i (dk, D.ho) ++ [(tl, .lst ts)]) (et_or (et_test (ev_eqI (ev_var rfl) ev_c)) fun _ => et_and (et_test (ev_eqI (ev_var rfl) ev_c)) fun _ => et_test (ev_I0 (g := fun i j => V.bl (decide (j < i))) (ev_lenA (K := K) (ev_var rfl) (hT _ _)) ev_c)) (fun G6 e6 hc => hret _ _ D ts [] cs _ rfl (dma hts e6) g hl) fun G6 e6 hc => sv_next fun G7 e7 => ?_
  have hc1 : way = 1 → cs.length ≤ 19 := fun h => by
    subst h
    simp at hc
    omega
  have e57 := e6.trans e7
  have hsl : ∀ (G' : Hp) (σ : L2.St) (o : HO) (lo hi : Option Int) (ta tb : TO), Ex G7 G' → σ[5]? = some (some (.ref tl)) → EvO ta σ G' (M.set i (dk, o) ++ [(tl, .lst ts)]) lo (M.set i (dk, o) ++ [(tl, .lst ts)]) → EvO tb σ G' (M.set i (dk, o) ++ [(tl, .lst ts)]) hi (M.set i (dk, o) ++ [(tl, .lst ts)]) → Ev (tSl (rSlL K) (tVar 5) ta tb) σ G' (M.set i (dk, o) ++ [(tl, .lst ts)]) (isD K (.list (cutD (cs.map colD) lo hi)) (M.set i (dk, o) ++ [(tl, .lst ts)])) := fun G' σ o lo hi ta tb e h5 h1 h2 => Ev.frz (ev_slLA (K := K) (ev_var h5) (hT _ _) (dma hts (e57.trans e)) h1 h2)
  have hal : a ≤ cs.length := by omega
  refine sv_ifs (M1 := M.set i (dk, D.ho) ++ [(tl, .lst ts)]) (et_test (ev_eqI (ev_var rfl) ev_c)) (fun G8 e8 hc => ?_) fun G8 e8 hc => sv_next fun G9 e9 => ?_
  · have hw : way = 1 := by simpa using hc
    have h19 := hc1 hw
    have gc : GoodCol b r (colOf D b r) := colOf_good (by omega) (by omega)
    have hev := ev_catD (K := K) (Ev.frz (ev_catD (K := K) (hsl G8 [some (.ref dk), some v, some (.int b), some (.int r), some (.int way), some (.ref tl), some (.int (a : Int)), some (.int j), some (.int fig), none, none, none] D.ho none (some (a : Int)) tNoPart (tPart (tVar 6)) e8 rfl eo_none (eo_some (ev_var rfl))) (Ev.frz (ev_lstO (K := K) (ds := [colD (colOf D b r)]) (M1 := M.set i (dk, (colDk D b r).ho) ++ [(tl, .lst ts)]) (ea_cons (by
      have := ev_lcol (K := K) (D := D) (b := b) (r := r) (σ := [some (.ref dk), some v, some (.int b), some (.int r), some (.int way), some (.ref tl), some (.int (a : Int)), some (.int j), some (.int fig), none, none, none]) (G := G8) (E := E0) i (ea_cons (ev_var (k := 0) rfl) (ea_cons (ev_var (k := 2) rfl) (ea_cons (ev_var (k := 3) rfl) ea_nil))) (hdk D.ho [(tl, .lst ts)]) (by omega) (by omega) (by omega) (by omega)
      rw [hdks] at this
      exact this) ea_nil) (by show 1 ≤ 1000; decide))) (by rw [cutD_take, List.length_take, List.length_map]; show _ + 1 ≤ 100000; omega))) (hsl G8 [some (.ref dk), some v, some (.int b), some (.int r), some (.int way), some (.ref tl), some (.int (a : Int)), some (.int j), some (.int fig), none, none, none] (colDk D b r).ho (some (a : Int)) none (tPart (tVar 6)) tNoPart e8 rfl (eo_some (ev_var rfl)) eo_none) (by rw [cutD_take, cutD_drop, List.length_append, List.length_take, List.length_drop, List.length_map]; show _ + 1 + _ ≤ 100000; omega)
    rw [cutD_take, cutD_drop] at hev
    have hds : (cs.map colD).take a ++ [colD (colOf D b r)] ++ (cs.map colD).drop a = (cs.take a ++ [colOf D b r] ++ cs.drop a).map colD := by simp [List.map_take, List.map_drop]
    rw [hds] at hev
    refine sv_retL (M' := []) (Ev.frz hev) fun v' G' M' e z => ?_
    obtain ⟨z1, rfl⟩ := z
    refine ⟨M.set i (dk, (colDk D b r).ho), [(tl, .lst ts)], rfl, cs.take a ++ [colOf D b r] ++ cs.drop a, colDk D b r, z1, rfl, ⟨g.b2, g.b12, g.r1, g.r4, ?_, fun c hc => ?_⟩, ?_⟩
    · simp only [List.length_append, List.length_take, List.length_drop, List.length_cons, List.length_nil]
      omega
    · rcases List.mem_append.mp hc with h | h
      · rcases List.mem_append.mp h with h | h
        · exact g.col c (List.mem_of_mem_take h)
        · cases List.mem_singleton.mp h
          exact gc
      · exact g.col c (List.mem_of_mem_drop h)
    · simp only [List.length_append, List.length_take, List.length_drop, List.length_cons, List.length_nil]
      omega
  have e79 := e8.trans e9
  refine sv_ifs (M1 := M.set i (dk, D.ho) ++ [(tl, .lst ts)]) (et_test (ev_eqI (ev_var rfl) ev_c)) (fun G10 e10 hc => ?_) fun G10 e10 hc => sv_next fun G11 e11 => ?_
  · have hev := ev_catD (K := K) (hsl G10 [some (.ref dk), some v, some (.int b), some (.int r), some (.int way), some (.ref tl), some (.int (a : Int)), some (.int j), some (.int fig), none, none, none] D.ho none (some (a : Int)) tNoPart (tPart (tVar 6)) (e79.trans e10) rfl eo_none (eo_some (ev_var rfl))) (hsl G10 [some (.ref dk), some v, some (.int b), some (.int r), some (.int way), some (.ref tl), some (.int (a : Int)), some (.int j), some (.int fig), none, none, none] D.ho (some (((a + 1 : Nat)) : Int)) none (tPart (tOp (rI0 fun i j => V.int (i + j)) (tVar 6) (tC (.int 1)))) tNoPart (e79.trans e10) rfl (eo_some (ev_I0 (g := fun i j => V.int (i + j)) (ev_var (k := 6) (x := .int (a : Int)) rfl) (ev_c (x := .int 1)))) eo_none) (by rw [cutD_take, cutD_drop, List.length_take, List.length_drop, List.length_map]; omega)
    rw [cutD_take, cutD_drop] at hev
    have hds : (cs.map colD).take a ++ (cs.map colD).drop (a + 1) = (cs.take a ++ cs.drop (a + 1)).map colD := by simp [List.map_take, List.map_drop]
    rw [hds] at hev
    refine sv_retL (M' := []) (Ev.frz hev) fun v' G' M' e z => ?_
    obtain ⟨z1, rfl⟩ := z
    refine ⟨M.set i (dk, D.ho), [(tl, .lst ts)], rfl, cs.take a ++ cs.drop (a + 1), D, z1, rfl, ⟨g.b2, g.b12, g.r1, g.r4, ?_, fun c hc => ?_⟩, ?_⟩
    · simp only [List.length_append, List.length_take, List.length_drop]
      omega
    · rcases List.mem_append.mp hc with h | h
      · exact g.col c (List.mem_of_mem_take h)
      · exact g.col c (List.mem_of_mem_drop h)
    · simp only [List.length_append, List.length_take, List.length_drop]
      omega
  have e711 := (e79.trans e10).trans e11
  have e511 := e57.trans e711
  have e211 : Ex G2 G11 := e25.trans e511
  refine sv_ifs (M1 := M.set i (dk, D.ho) ++ [(tl, .lst ts)]) (et_test (ev_eqI (ev_var rfl) (hlen _ _ _ e211 rfl))) (fun G12 e12 hc => hret _ _ D ts [] cs _ rfl (dma hts (e511.trans e12)) g hl) fun G12 e12 hc => sv_next fun G13 e13 => ?_
  have hac : a < cs.length := by
    have : (a : Int) ≠ cs.length := by simpa using hc
    omega
  have e513 := (e511.trans e12).trans e13
  have hts := dma hts e513
  have hca : cs[a]? = some cs[a] := List.getElem?_eq_getElem hac
  have gca : GoodCol b r cs[a] := g.col _ (List.getElem_mem hac)
  obtain ⟨xa, hxa, dxa⟩ := dpa_at (i := a) (d := colD cs[a]) hts (by rw [List.getElem?_map, hca]; rfl)
  refine sv_let (ev_listT (K := K) (Ev.toDp (ev_ixL (K := K) (ev_var rfl) (ev_var rfl) (hT _ _) (L2.atI_nat hxa)) dxa)) ?_
  rintro _ G14 M14 e14 ⟨fl, fs, rfl, rfl, hfs⟩
  have hfl : fs.length = cs[a].length := by rw [dpa_len hfs, List.length_map]
  have hcl := gca.1
  have e0 : (M.set i (dk, D.ho) ++ [(tl, HO.lst ts)]) ++ [(fl, HO.lst fs)] = M.set i (dk, D.ho) ++ [(tl, .lst ts), (fl, .lst fs)] := by simp
  rw [e0]
  have hff : ∀ (o : HO) (ys zs : List V), (M.set i (dk, o) ++ [(tl, HO.lst ys), (fl, HO.lst zs)])[M.length + 1]? = some (fl, .lst zs) := fun o ys zs => by
    rw [List.getElem?_append_right (by rw [List.length_set]; omega), List.length_set]
    rw [show M.length + 1 - M.length = 1 by omega]
    rfl
  have hffs : ∀ (o : HO) (ys zs ws : List V), (M.set i (dk, o) ++ [(tl, HO.lst ys), (fl, HO.lst zs)]).set (M.length + 1) (fl, .lst ws) = M.set i (dk, o) ++ [(tl, HO.lst ys), (fl, HO.lst ws)] := fun o ys zs ws => by
    rw [List.set_append_right _ _ (by rw [List.length_set]; omega), List.length_set]
    rw [show M.length + 1 - M.length = 1 by omega]
    rfl
  refine sv_seq (N := fun G' σ' M' => σ' = [some (.ref dk), some v, some (.int b), some (.int r), some (.int way), some (.ref tl), some (.int (a : Int)), some (.int j), some (.int fig), some (.ref fl), none, none] ∧ M' = M.set i (dk, D.ho) ++ [(tl, .lst ts), (fl, .lst (fs.set j.toNat (.int fig)))]) (sv_setIx (n := M.length + 1) (x := .int fig) (ev_var rfl) (ev_var rfl) (ev_var rfl) (hff _ _ _) (j := j.toNat) (by unfold ixN; rw [if_pos j0, if_pos (by omega)]) fun G' e => ⟨rfl, hffs _ _ _ _⟩) ?_
  rintro G15 σ15 M15 e15 ⟨rfl, rfl⟩
  have gnew : GoodCol b r (cs[a].set j.toNat fig) := ⟨by rw [List.length_set]; exact gca.1, fun f hf => (List.mem_or_eq_of_mem_set hf).elim (gca.2 f) fun e => e ▸ ⟨f0, f1⟩⟩
  have hfn : DpAll K G15 (fs.set j.toNat (.int fig)) ((cs[a].set j.toNat fig).map .int) := by
    rw [List.map_set]
    exact dpa_set (dma hfs e15) (.int fig)
  have e1315 := e14.trans e15
  refine sv_ifs (M1 := M.set i (dk, D.ho) ++ [(tl, .lst ts), (fl, .lst (fs.set j.toNat (.int fig)))]) (et_test (ev_eqI (ev_var rfl) ev_c)) (fun G16 e16 hc => ?_) fun G16 e16 hc => sv_next fun G17 e17 => ?_
  · have e1316 := e1315.trans e16
    refine sv_let (hdraw (cs.length : Int) D [(tl, .lst ts), (fl, .lst (fs.set j.toNat (.int fig)))] _ _ _ rfl (hlen _ _ _ ((e25.trans e513).trans e1316) rfl) (by omega) (by omega)) ?_
    rintro _ G17 M17 e17 ⟨rfl, rfl⟩
    have t0 : 0 ≤ dv D (cs.length : Int) := dv_lo (by omega)
    have t1 : dv D (cs.length : Int) < cs.length := dv_hi (by omega)
    generalize dv D (cs.length : Int) = to at t0 t1
    generalize dn D (cs.length : Int) = D
    obtain ⟨t, rfl⟩ : ∃ t : Nat, to = t := ⟨to.toNat, by omega⟩
    have htc : t < cs.length := by omega
    have hct : cs[t]? = some cs[t] := List.getElem?_eq_getElem htc
    obtain ⟨xt, hxt, dxt⟩ := dpa_at (i := t) (d := colD cs[t]) hts (by rw [List.getElem?_map, hct]; rfl)
    have e1317 := e1316.trans e17
    refine sv_let (ev_ixL (K := K) (ev_var rfl) (ev_var rfl) (.M (htt _ ts _)) (L2.atI_nat hxt)) ?_
    rintro vx G18 M18 e18 ⟨hvx, rfl⟩
    obtain rfl := hvx.symm
    have hixt : ixN ts.length (t : Int) = some t := by
      unfold ixN
      rw [if_pos (by omega), if_pos (by omega), Int.toNat_natCast]
    have hixa : ixN (ts.set t xa).length (a : Int) = some a := by
      unfold ixN
      rw [List.length_set, if_pos (by omega), if_pos (by omega), Int.toNat_natCast]
    refine sv_seq (N := fun G' σ' M' => σ' = [some (.ref dk), some v, some (.int b), some (.int r), some (.int way), some (.ref tl), some (.int (a : Int)), some (.int j), some (.int fig), some (.ref fl), some (.int (t : Int)), some xt] ∧ M' = M.set i (dk, D.ho) ++ [(tl, .lst (ts.set t xa)), (fl, .lst (fs.set j.toNat (.int fig)))]) (sv_setIx (n := M.length) (x := xa) (ev_ixL (K := K) (ev_var rfl) (ev_var rfl) (.M (htt _ ts _)) (L2.atI_nat hxa)) (ev_var rfl) (ev_var rfl) (htt _ ts _) hixt fun G' e => ⟨rfl, htts _ _ _ _⟩) ?_
    rintro G19 σ19 M19 e19 ⟨rfl, rfl⟩
    refine sv_seq (N := fun G' σ' M' => σ' = [some (.ref dk), some v, some (.int b), some (.int r), some (.int way), some (.ref tl), some (.int (a : Int)), some (.int j), some (.int fig), some (.ref fl), some (.int (t : Int)), some xt] ∧ M' = M.set i (dk, D.ho) ++ [(tl, .lst ((ts.set t xa).set a xt)), (fl, .lst (fs.set j.toNat (.int fig)))]) (sv_setIx (n := M.length) (x := xt) (ev_var rfl) (ev_var rfl) (ev_var rfl) (htt _ _ _) hixa fun G' e => ⟨rfl, htts _ _ _ _⟩) ?_
    rintro G20 σ20 M20 e20 ⟨rfl, rfl⟩
    have e1320 := ((e1317.trans e18).trans e19).trans e20
    refine hret _ _ D _ _ ((cs.set t cs[a]).set a cs[t]) _ rfl ?_ ⟨g.b2, g.b12, g.r1, g.r4, by rw [List.length_set, List.length_set]; exact g.len, fun c hc => ?_⟩ (by rw [List.length_set, List.length_set]; exact hl)
    · rw [List.map_set, List.map_set]
      exact dpa_set (dpa_set (dma hts e1320) (dm dxa e1320)) (dm dxt e1320)
    · rcases List.mem_or_eq_of_mem_set hc with h | rfl
      · rcases List.mem_or_eq_of_mem_set h with h | rfl
        · exact g.col c h
        · exact gca
      · exact g.col _ (List.getElem_mem htc)
  have hixa : ixN ts.length (a : Int) = some a := by
    unfold ixN
    rw [if_pos (by omega), if_pos (by omega), Int.toNat_natCast]
  obtain ⟨dN, hdN⟩ : ∃ d, colD (cs[a].set j.toNat fig) = d := ⟨_, rfl⟩
  refine sv_seq (N := fun G' σ' M' => σ' = [some (.ref dk), some v, some (.int b), some (.int r), some (.int way), some (.ref tl), some (.int (a : Int)), some (.int j), some (.int fig), some (.ref fl), none, none] ∧ ∃ y, Dp K G' y dN ∧ M' = M.set i (dk, D.ho) ++ [(tl, .lst (ts.set a y)), (fl, .lst (fs.set j.toNat (.int fig)))]) (sv_setIxP (Pp := fun G v => Dp K G v dN) (n := M.length) (by rw [← hdN]; exact ev_tupA (K := K) (ev_var rfl) (.M (hff _ _ _)) (dma hfn (e16.trans e17))) (ev_var rfl) (ev_var rfl) (htt _ ts _) hixa fun y G' e hy => ⟨rfl, y, hy, htts _ _ _ _⟩) ?_
  rintro G18 σ18 M18 e18 ⟨rfl, y, hy, rfl⟩
  refine hret _ _ D _ _ (cs.set a (cs[a].set j.toNat fig)) _ rfl ?_ ⟨g.b2, g.b12, g.r1, g.r4, by rw [List.length_set]; exact g.len, fun c hc => (List.mem_or_eq_of_mem_set hc).elim (g.col c) fun e => e ▸ gnew⟩ (by rw [List.length_set]; exact hl)
  rw [← hdN] at hy
  rw [List.map_set]
  exact dpa_set (dma hts (((e1315.trans e16).trans e17).trans e18)) hy

-- Sheet___ge__
theorem ok_Sheet___ge__ (T : Txt K mg) : FnOk P w K mg base CX0 2 T.a_Sheet___ge__ T.fd_Sheet___ge__ ["self", "other"] (spec (cmpPre K T.c_Sheet) (cmpPost fun d e => !PySem.W.dataLt d e)) := by
  refine fn_sv T.F_Sheet___ge__ sc_Sheet___ge__ (fun x G M vs h => by obtain ⟨rfl, _⟩ := h; rfl) fun cdv A outer s H E hr => ⟨_, (pss_cons (ps_if (pt_not (pt_val (pe_callB (k_isi (K := K) rfl) (by rfl) T.n_isinstance (by decide +kernel) (pa_cons (pv 1) (pa_cons (pe_glob (v := .ref T.c_Sheet) (by rfl) T.m_Sheet rfl) pa_nil))))) (pss_one (ps_never)) (pss_nil)) (pss_one (ps_ret (pe_cmpR (k_geD (K := K) rfl hr.units) (pe_meth0 (pv 0) T.cl_Sheet T.me_Sheet__place (ok_Sheet__place T) (hr.mono (by decide)) T.b_Sheet__place .nil pass0) (pe_meth0 (pv 1) T.cl_Sheet T.me_Sheet__place (ok_Sheet__place T) (hr.mono (by decide)) T.b_Sheet__place .nil pass0) (nomark _))))), ?_⟩
  rintro ⟨⟨p, b, r, cs⟩, q, b', r', ds⟩ G M vs ⟨rfl, ⟨dx, l, xs, h1, h2, h3⟩, ⟨dy, l', ys, k1, k2, k3⟩⟩
  refine sv_ifs (a := false) (et_not (a := true) (et_B (ev_isiO T.ic_Sheet T.cl_Sheet T.io_Sheet (ev_var rfl) k1))) (fun G1 e1 hb => by cases hb) fun G1 e1 _ => sv_next fun G2 e2 => ?_
  have e12 := e1.trans e2
  refine sv_ret (ev_ordX (K := K) (d := placeD b r cs) (e := placeD b' r' ds) (ev_placeO (K := K) (ev_var rfl) (h1.ex e12) (h2.ex e12)) (ev_placeO (K := K) (ev_var rfl) (k1.ex e12) (k2.ex e12)) (fun G1 v e h => ?_) (fun G1 v e h => ?_) (alike_place _ _ _ _ _ _) (by unfold placeD; simp) (dep_place _ _ _)) fun v' G' M' e r => r
  · obtain ⟨t, rfl, ht⟩ := h
    exact da_place ht (h2.ex (e12.trans e)) (dma h3 (e12.trans e))
  · obtain ⟨t, rfl, ht⟩ := h
    exact da_place ht (k2.ex (e12.trans e)) (dma k3 (e12.trans e))
theorem opO_Sheet___ge__ (T : Txt K mg) {X : Cx} (hP : X.prog = P := by rfl) (hw : X.w = w := by rfl) (hK : X.K = K := by rfl) (hm : X.mg = mg := by rfl) (hr : Room 2 X.A) : OpR X (compareOp .GtE) (rCmpO T.c_Sheet (spec (cmpPre K T.c_Sheet) (cmpPost fun d e => !PySem.W.dataLt d e)) E0) := by
  subst hP hw hK hm
  exact op_cmpO rfl T.me_Sheet___ge__.at_ T.me_Sheet___ge__.fn (ok_Sheet___ge__ T) hr T.b_Sheet___ge__ pass0

-- Sheet___gt__
theorem ok_Sheet___gt__ (T : Txt K mg) : FnOk P w K mg base CX0 2 T.a_Sheet___gt__ T.fd_Sheet___gt__ ["self", "other"] (spec (cmpPre K T.c_Sheet) (cmpPost fun d e => PySem.W.dataLt e d)) := by
  refine fn_sv T.F_Sheet___gt__ sc_Sheet___gt__ (fun x G M vs h => by obtain ⟨rfl, _⟩ := h; rfl) fun cdv A outer s H E hr => ⟨_, (pss_cons (ps_if (pt_not (pt_val (pe_callB (k_isi (K := K) rfl) (by rfl) T.n_isinstance (by decide +kernel) (pa_cons (pv 1) (pa_cons (pe_glob (v := .ref T.c_Sheet) (by rfl) T.m_Sheet rfl) pa_nil))))) (pss_one (ps_never)) (pss_nil)) (pss_one (ps_ret (pe_cmpR (k_gtD (K := K) rfl hr.units) (pe_meth0 (pv 0) T.cl_Sheet T.me_Sheet__place (ok_Sheet__place T) (hr.mono (by decide)) T.b_Sheet__place .nil pass0) (pe_meth0 (pv 1) T.cl_Sheet T.me_Sheet__place (ok_Sheet__place T) (hr.mono (by decide)) T.b_Sheet__place .nil pass0) (nomark _))))), ?_⟩
  rintro ⟨⟨p, b, r, cs⟩, q, b', r', ds⟩ G M vs ⟨rfl, ⟨dx, l, xs, h1, h2, h3⟩, ⟨dy, l', ys, k1, k2, k3⟩⟩
  refine sv_ifs (a := false) (et_not (a := true) (et_B (ev_isiO T.ic_Sheet T.cl_Sheet T.io_Sheet (ev_var rfl) k1))) (fun G1 e1 hb => by cases hb) fun G1 e1 _ => sv_next fun G2 e2 => ?_
  have e12 := e1.trans e2
  refine sv_ret (ev_ordX (K := K) (d := placeD b r cs) (e := placeD b' r' ds) (ev_placeO (K := K) (ev_var rfl) (h1.ex e12) (h2.ex e12)) (ev_placeO (K := K) (ev_var rfl) (k1.ex e12) (k2.ex e12)) (fun G1 v e h => ?_) (fun G1 v e h => ?_) (alike_place _ _ _ _ _ _) (by unfold placeD; simp) (dep_place _ _ _)) fun v' G' M' e r => r
  · obtain ⟨t, rfl, ht⟩ := h
    exact da_place ht (h2.ex (e12.trans e)) (dma h3 (e12.trans e))
  · obtain ⟨t, rfl, ht⟩ := h
    exact da_place ht (k2.ex (e12.trans e)) (dma k3 (e12.trans e))
theorem opO_Sheet___gt__ (T : Txt K mg) {X : Cx} (hP : X.prog = P := by rfl) (hw : X.w = w := by rfl) (hK : X.K = K := by rfl) (hm : X.mg = mg := by rfl) (hr : Room 2 X.A) : OpR X (compareOp .Gt) (rCmpO T.c_Sheet (spec (cmpPre K T.c_Sheet) (cmpPost fun d e => PySem.W.dataLt e d)) E0) := by
  subst hP hw hK hm
  exact op_cmpO rfl T.me_Sheet___gt__.at_ T.me_Sheet___gt__.fn (ok_Sheet___gt__ T) hr T.b_Sheet___gt__ pass0

-- Sheet___le__
theorem ok_Sheet___le__ (T : Txt K mg) : FnOk P w K mg base CX0 2 T.a_Sheet___le__ T.fd_Sheet___le__ ["self", "other"] (spec (cmpPre K T.c_Sheet) (cmpPost fun d e => !PySem.W.dataLt e d)) := by
  refine fn_sv T.F_Sheet___le__ sc_Sheet___le__ (fun x G M vs h => by obtain ⟨rfl, _⟩ := h; rfl) fun cdv A outer s H E hr => ⟨_, (pss_cons (ps_if (pt_not (pt_val (pe_callB (k_isi (K := K) rfl) (by rfl) T.n_isinstance (by decide +kernel) (pa_cons (pv 1) (pa_cons (pe_glob (v := .ref T.c_Sheet) (by rfl) T.m_Sheet rfl) pa_nil))))) (pss_one (ps_never)) (pss_nil)) (pss_one (ps_ret (pe_cmpR (k_leD (K := K) rfl hr.units) (pe_meth0 (pv 0) T.cl_Sheet T.me_Sheet__place (ok_Sheet__place T) (hr.mono (by decide)) T.b_Sheet__place .nil pass0) (pe_meth0 (pv 1) T.cl_Sheet T.me_Sheet__place (ok_Sheet__place T) (hr.mono (by decide)) T.b_Sheet__place .nil pass0) (nomark _))))), ?_⟩
  rintro ⟨⟨p, b, r, cs⟩, q, b', r', ds⟩ G M vs ⟨rfl, ⟨dx, l, xs, h1, h2, h3⟩, ⟨dy, l', ys, k1, k2, k3⟩⟩
  refine sv_ifs (a := false) (et_not (a := true) (et_B (ev_isiO T.ic_Sheet T.cl_Sheet T.io_Sheet (ev_var rfl) k1))) (fun G1 e1 hb => by cases hb) fun G1 e1 _ => sv_next fun G2 e2 => ?_
  have e12 := e1.trans e2
  refine sv_ret (ev_ordX (K := K) (d := placeD b r cs) (e := placeD b' r' ds) (ev_placeO (K := K) (ev_var rfl) (h1.ex e12) (h2.ex e12)) (ev_placeO (K := K) (ev_var rfl) (k1.ex e12) (k2.ex e12)) (fun G1 v e h => ?_) (fun G1 v e h => ?_) (alike_place _ _ _ _ _ _) (by unfold placeD; simp) (dep_place _ _ _)) fun v' G' M' e r => r
  · obtain ⟨t, rfl, ht⟩ := h
    exact da_place ht (h2.ex (e12.trans e)) (dma h3 (e12.trans e))
  · obtain ⟨t, rfl, ht⟩ := h
    exact da_place ht (k2.ex (e12.trans e)) (dma k3 (e12.trans e))
theorem opO_Sheet___le__ (T : Txt K mg) {X : Cx} (hP : X.prog = P := by rfl) (hw : X.w = w := by rfl) (hK : X.K = K := by rfl) (hm : X.mg = mg := by rfl) (hr : Room 2 X.A) : OpR X (compareOp .LtE) (rCmpO T.c_Sheet (spec (cmpPre K T.c_Sheet) (cmpPost fun d e => !PySem.W.dataLt e d)) E0) := by
  subst hP hw hK hm
  exact op_cmpO rfl T.me_Sheet___le__.at_ T.me_Sheet___le__.fn (ok_Sheet___le__ T) hr T.b_Sheet___le__ pass0

-- Sheet___lt__
theorem ok_Sheet___lt__ (T : Txt K mg) : FnOk P w K mg base CX0 2 T.a_Sheet___lt__ T.fd_Sheet___lt__ ["self", "other"] (spec (cmpPre K T.c_Sheet) (cmpPost fun d e => PySem.W.dataLt d e)) := by
  refine fn_sv T.F_Sheet___lt__ sc_Sheet___lt__ (fun x G M vs h => by obtain ⟨rfl, _⟩ := h; rfl) fun cdv A outer s H E hr => ⟨_, (pss_cons (ps_if (pt_not (pt_val (pe_callB (k_isi (K := K) rfl) (by rfl) T.n_isinstance (by decide +kernel) (pa_cons (pv 1) (pa_cons (pe_glob (v := .ref T.c_Sheet) (by rfl) T.m_Sheet rfl) pa_nil))))) (pss_one (ps_never)) (pss_nil)) (pss_one (ps_ret (pe_cmpR (k_ltD (K := K) rfl hr.units) (pe_meth0 (pv 0) T.cl_Sheet T.me_Sheet__place (ok_Sheet__place T) (hr.mono (by decide)) T.b_Sheet__place .nil pass0) (pe_meth0 (pv 1) T.cl_Sheet T.me_Sheet__place (ok_Sheet__place T) (hr.mono (by decide)) T.b_Sheet__place .nil pass0) (nomark _))))), ?_⟩
  rintro ⟨⟨p, b, r, cs⟩, q, b', r', ds⟩ G M vs ⟨rfl, ⟨dx, l, xs, h1, h2, h3⟩, ⟨dy, l', ys, k1, k2, k3⟩⟩
  refine sv_ifs (a := false) (et_not (a := true) (et_B (ev_isiO T.ic_Sheet T.cl_Sheet T.io_Sheet (ev_var rfl) k1))) (fun G1 e1 hb => by cases hb) fun G1 e1 _ => sv_next fun G2 e2 => ?_
  have e12 := e1.trans e2
  refine sv_ret (ev_ordX (K := K) (d := placeD b r cs) (e := placeD b' r' ds) (ev_placeO (K := K) (ev_var rfl) (h1.ex e12) (h2.ex e12)) (ev_placeO (K := K) (ev_var rfl) (k1.ex e12) (k2.ex e12)) (fun G1 v e h => ?_) (fun G1 v e h => ?_) (alike_place _ _ _ _ _ _) (by unfold placeD; simp) (dep_place _ _ _)) fun v' G' M' e r => r
  · obtain ⟨t, rfl, ht⟩ := h
    exact da_place ht (h2.ex (e12.trans e)) (dma h3 (e12.trans e))
  · obtain ⟨t, rfl, ht⟩ := h
    exact da_place ht (k2.ex (e12.trans e)) (dma k3 (e12.trans e))
theorem opO_Sheet___lt__ (T : Txt K mg) {X : Cx} (hP : X.prog = P := by rfl) (hw : X.w = w := by rfl) (hK : X.K = K := by rfl) (hm : X.mg = mg := by rfl) (hr : Room 2 X.A) : OpR X (compareOp .Lt) (rCmpO T.c_Sheet (spec (cmpPre K T.c_Sheet) (cmpPost fun d e => PySem.W.dataLt d e)) E0) := by
  subst hP hw hK hm
  exact op_cmpO rfl T.me_Sheet___lt__.at_ T.me_Sheet___lt__.fn (ok_Sheet___lt__ T) hr T.b_Sheet___lt__ pass0

-- _law_two_right
theorem ok__law_two_right (T : Txt K mg) : FnOk P w K mg base CX0 3 T.a__law_two_right T.fd__law_two_right ["one", "other", "due"] (spec (twoPre K T.c_Sheet) twoPost) := by
  refine fn_sv T.F__law_two_right sc__law_two_right (fun x G M vs h => by obtain ⟨rfl, _⟩ := h; rfl) fun cdv A outer s H E hr => ⟨_, (pss_cons (ps_set (i := 3) sc__law_two_right.nd rfl (Or.inl rfl) (pe_lst (pa_cons (pe_cmpR (opO_Sheet___lt__ T (hr := hr.mono (by decide))) (pv 0) (pv 1) (nomark _)) (pa_cons (pe_cmpR (opO_Sheet___gt__ T (hr := hr.mono (by decide))) (pv 0) (pv 1) (nomark _)) (pa_cons (pe_cmpR (opO_Sheet___le__ T (hr := hr.mono (by decide))) (pv 0) (pv 1) (nomark _)) (pa_cons (pe_cmpR (opO_Sheet___ge__ T (hr := hr.mono (by decide))) (pv 0) (pv 1) (nomark _)) (pa_cons (pe_cmpR (opO_Sheet___eq__ T (hr := hr.mono (by decide))) (pv 0) (pv 1) (nomark _)) pa_nil))))))) (pss_cons (ps_for PassesOwn.never rfl (pi_list (pv 3)) (pg_name (i := 4) sc__law_two_right.nd rfl (Or.inl rfl)) (pss_one (ps_if (PW.pt (pw_and (pt_cmpR op_notBl (pv 4) (pe_bl) (nomark _)) (pw_and1 (pt_cmpR op_notBl (pv 4) (pe_bl) (nomark _))))) (pss_one (ps_ret (pe_bl))) (pss_nil)))) (pss_one (ps_ret (pe_cmpR (k_eqD (K := K) rfl hr.units) (pv 3) (pe_lst (pa_cons (pe_cmpR op_lt (pv 2) (pe_int) (nomark _)) (pa_cons (pe_cmpR op_gt (pv 2) (pe_int) (nomark _)) (pa_cons (pe_cmpR op_le (pv 2) (pe_int) (nomark _)) (pa_cons (pe_cmpR op_ge (pv 2) (pe_int) (nomark _)) (pa_cons (pe_cmpR op_eq (pv 2) (pe_int) (nomark _)) pa_nil)))))) (nomark _)))))), ?_⟩
  rintro ⟨⟨p, b, r, cs⟩, q, b', r', ds⟩ G M vs ⟨rfl, (hS : ShAt K T.c_Sheet G M p b r cs), (hT : ShAt K T.c_Sheet G M q b' r' ds), (rfl : b = b'), (rfl : r = r'), (g : GoodSh b r cs), (g' : GoodSh b r ds)⟩
  have hc : ∀ c ∈ cs, c.length = r.toNat := fun c hc => by have := (g.col c hc).1; omega
  have hd : ∀ c ∈ ds, c.length = r.toNat := fun c hc => by have := (g'.col c hc).1; omega
  have hcmp : ∀ (f : PyData → PyData → Bool), Ev (tOp (rCmpO T.c_Sheet (spec (cmpPre K T.c_Sheet) (cmpPost f)) E0) (tVar 0) (tVar 1)) (start ["one", "other", "due", "found", "answer"] [.ref p, .ref q, .int (ordV cs ds)]) G M (isV (.bl (f (placeD b r cs) (placeD b r ds))) M) := fun f => ev_cmpS (P1 := fun _ v => v = .ref p) (P2 := fun _ v => v = .ref q) (ev_var rfl) (ev_var rfl) (fun G1 v e h => ⟨p, h, hS.ex e⟩) (fun G1 v e h => ⟨q, h, hT.ex e⟩)
  refine sv_let (R := isD K (.list ([ltS cs ds, ltS ds cs, !ltS ds cs, !ltS cs ds, decide (cs = ds)].map .bool)) M) (Ev.frz ?_) ?_
  · have h1 := hcmp fun d e => PySem.W.dataLt d e
    have h2 := hcmp fun d e => PySem.W.dataLt e d
    have h3 := hcmp fun d e => !PySem.W.dataLt e d
    have h4 := hcmp fun d e => !PySem.W.dataLt d e
    have h5 := hcmp fun d e => PyData.eqv d e
    simp only [lt_place] at h1 h2 h3 h4
    rw [eqv_place, show decide ((b, r, cs) = (b, r, ds)) = decide (cs = ds) by simp] at h5
    exact ev_lstO (K := K) (ds := [.bool (ltS cs ds), .bool (ltS ds cs), .bool (!ltS ds cs), .bool (!ltS cs ds), .bool (decide (cs = ds))]) (ea_cons (ev_bD h1) (ea_cons (ev_bD h2) (ea_cons (ev_bD h3) (ea_cons (ev_bD h4) (ea_cons (ev_bD h5) ea_nil))))) (by show 5 ≤ 1000; decide)
  rintro fv G1 M1 e1 ⟨hf, rfl⟩
  refine sv_seq (N := fun G' σ' M' => M' = M1 ∧ ∃ y, σ' = [some (.ref p), some (.ref q), some (.int (ordV cs ds)), some fv, y]) (sv_forD (K := K) (M1 := M1) (ds := [ltS cs ds, ltS ds cs, !ltS ds cs, !ltS cs ds, decide (cs = ds)].map .bool) (fun i G' σ' M' => M' = M1 ∧ ∃ y, σ' = [some (.ref p), some (.ref q), some (.int (ordV cs ds)), some fv, y]) (ev_varP rfl hf) (fun G' e => ⟨rfl, none, rfl⟩) ?_ ?_) ?_
  · rintro i d x G' σ' M' e hd' dx ⟨rfl, y, rfl⟩
    obtain ⟨bb, rfl⟩ : ∃ bb, d = .bool bb := by
      rw [List.getElem?_map] at hd'
      obtain ⟨z, _, rfl⟩ := Option.map_eq_some_iff.mp hd'
      exact ⟨z, rfl⟩
    obtain rfl := dp_bl dx
    refine sv_tgN (sv_if (M1 := M') (et_and (et_test (ev_notB (ev_var rfl) ev_c)) fun _ => et_test (ev_notB (ev_var rfl) ev_c)) (fun G' _ hb => ?_) fun G3 e3 _ => sv_next fun G4 e4 => ⟨rfl, _, rfl⟩)
    cases bb <;> cases hb
  · rintro G' σ' M' e ⟨rfl, y, rfl⟩
    exact ⟨rfl, y, rfl⟩
  rintro G3 σ3 M3 e3 ⟨rfl, y, rfl⟩
  have := ev_eqD (K := K) (d := .list ([ltS cs ds, ltS ds cs, !ltS ds cs, !ltS cs ds, decide (cs = ds)].map .bool)) (e := .list ([decide (ordV cs ds < 0), decide (0 < ordV cs ds), decide (ordV cs ds ≤ 0), decide (0 ≤ ordV cs ds), decide (ordV cs ds = 0)].map .bool)) (ev_varP (σ := [some (.ref p), some (.ref q), some (.int (ordV cs ds)), some fv, y]) (M := M3) (k := 3) rfl (dm hf e3)) (Ev.frz (ev_lstO (K := K) (ds := [.bool (decide (ordV cs ds < 0)), .bool (decide (0 < ordV cs ds)), .bool (decide (ordV cs ds ≤ 0)), .bool (decide (0 ≤ ordV cs ds)), .bool (decide (ordV cs ds = 0))]) (ea_cons (ev_bD (ev_I0 (g := fun i j => V.bl (decide (i < j))) (ev_var (k := 2) rfl) ev_c)) (ea_cons (ev_bD (ev_I0 (g := fun i j => V.bl (decide (j < i))) (ev_var (k := 2) rfl) ev_c)) (ea_cons (ev_bD (ev_I0 (g := fun i j => V.bl (decide (i ≤ j))) (ev_var (k := 2) rfl) ev_c)) (ea_cons (ev_bD (ev_I0 (g := fun i j => V.bl (decide (j ≤ i))) (ev_var (k := 2) rfl) ev_c)) (ea_cons (ev_bD (ev_eqI (ev_var (k := 2) rfl) ev_c)) ea_nil))))) (by show 5 ≤ 1000; decide))) (sh_bools (n := 0) _).ok (sh_bools (n := 0) _).ok
  have heq : [ltS cs ds, ltS ds cs, !ltS ds cs, !ltS cs ds, decide (cs = ds)] = [decide (ordV cs ds < 0), decide (0 < ordV cs ds), decide (ordV cs ds ≤ 0), decide (0 ≤ ordV cs ds), decide (ordV cs ds = 0)] := by
    by_cases h : cs = ds
    · subst h
      rw [ordV_self, ltS_self]
      simp
    · have ht := ltS_tri hc hd h
      unfold ordV
      rw [if_neg h, ht, decide_eq_false h]
      cases ltS cs ds <;> simp
  rw [eqv_bools, decide_eq_true heq] at this
  exact sv_ret this fun v' G' M' e r => r

-- law
theorem ok_law (T : Txt K mg) : FnOk P w K mg base CX0 8 T.a_law T.fd_law ["script"] (spec (lawPre K) lawPost) := by
  refine fn_sv T.F_law sc_law (fun x G M vs h => by obtain ⟨v, rfl, _⟩ := h; rfl) fun cdv A outer s H E hr => ⟨_, (pss_cons (ps_for PassesOwn.never rfl (pi_list (pe_call (ok__law_cells T) (hr.mono (by decide)) (by rfl) T.m__law_cells T.F__law_cells.kp T.b__law_cells .nil pass0 (pa_cons (pv 0) pa_nil))) (pg_name (i := 1) sc_law.nd rfl (Or.inl rfl)) (pss_cons (ps_set (i := 2) sc_law.nd rfl (Or.inl rfl) (pe_call (ok__law_deck T) (hr.mono (by decide)) (by rfl) T.m__law_deck T.F__law_deck.kp T.b__law_deck .nil pass0 (pa_cons (pv 1) pa_nil))) (pss_cons (ps_set (i := 3) sc_law.nd rfl (Or.inr rfl) (pe_op op_add (pe_int) (pe_call (ok__law_draw T) (hr.mono (by decide)) (by rfl) T.m__law_draw T.F__law_draw.kp T.b__law_draw .nil pass0 (pa_cons (pv 2) (pa_cons (pe_int) pa_nil))))) (pss_cons (ps_set (i := 4) sc_law.nd rfl (Or.inr rfl) (pe_op op_add (pe_int) (pe_call (ok__law_draw T) (hr.mono (by decide)) (by rfl) T.m__law_draw T.F__law_draw.kp T.b__law_draw .nil pass0 (pa_cons (pv 2) (pa_cons (pe_int) pa_nil))))) (pss_cons (ps_set (i := 5) sc_law.nd rfl (Or.inl rfl) (pe_lst (pa_cons (pe_call (ok__law_columns T) (hr.mono (by decide)) (by rfl) T.m__law_columns T.F__law_columns.kp T.b__law_columns .nil pass0 (pa_cons (pv 2) (pa_cons (pv 3) (pa_cons (pv 4) (pa_cons (pe_int) pa_nil))))) pa_nil))) (pss_cons (ps_for PassesOwn.never rfl (pi_range1 (by rfl) T.n_range (pa_cons (pe_op op_add (pe_int) (pe_call (ok__law_draw T) (hr.mono (by decide)) (by rfl) T.m__law_draw T.F__law_draw.kp T.b__law_draw .nil pass0 (pa_cons (pv 2) (pa_cons (pe_int) pa_nil)))) pa_nil)) (pg_name (i := 6) sc_law.nd rfl (Or.inl rfl)) (pss_one (ps_expr (pe_bm PySem.F.plainAttrs_list PySem.F.slot_list_append PySem.F.type_list_append mt_append (pv 5) (pa_cons (pe_call (ok__law_turned T) (hr.mono (by decide)) (by rfl) T.m__law_turned T.F__law_turned.kp T.b__law_turned .nil pass0 (pa_cons (pv 2) (pa_cons (pe_ix (k_ixL (K := K) rfl) (pv 5) (pv 6) (fun _ _ => rfl)) (pa_cons (pv 3) (pa_cons (pv 4) pa_nil))))) pa_nil))))) (pss_cons (ps_setLc (i := 7) (own := [("columns", 9)]) (g := gName 9) (tt := tYes) rfl sc_law.nd rfl rfl (sw_true rfl rfl rfl (by decide +kernel)) (pi_list (pv 5)) (blkOk_by (N := ["script", "cell", "deck", "base", "rows", "every", "k", "sheets", "n", "columns"]) (sc := defScope s_law) (by decide +kernel)) (fun _ _ _ _ _ => pg_name (i := 9) sc_law.nd rfl (Or.inl rfl)) (fun _ _ _ _ _ => pts_nil) (fun _ _ _ _ _ => pe_make T.k_Sheet (okG_Sheet___init__ T) (hr.mono (by decide)) (by rfl) T.m_Sheet T.b_Sheet___init__ .nil passL (pa_cons (pv 3) (pa_cons (pv 4) (pa_cons (pv 9) pa_nil))))) (pss_cons (ps_for PassesOwn.never rfl (pi_range1 (by rfl) T.n_range (pa_cons (pe_callB (k_len (K := K) rfl) (by rfl) T.n_len (by decide +kernel) (pa_cons (pv 7) pa_nil)) pa_nil)) (pg_name (i := 6) sc_law.nd rfl (Or.inl rfl)) (pss_one (ps_for PassesOwn.never rfl (pi_range1 (by rfl) T.n_range (pa_cons (pe_callB (k_len (K := K) rfl) (by rfl) T.n_len (by decide +kernel) (pa_cons (pv 7) pa_nil)) pa_nil)) (pg_name (i := 8) sc_law.nd rfl (Or.inl rfl)) (pss_one (ps_if (pt_not (pt_val (pe_call (ok__law_two_right T) (hr.mono (by decide)) (by rfl) T.m__law_two_right T.F__law_two_right.kp T.b__law_two_right .nil pass0 (pa_cons (pe_ix (k_ixL (K := K) rfl) (pv 7) (pv 6) (fun _ _ => rfl)) (pa_cons (pe_ix (k_ixL (K := K) rfl) (pv 7) (pv 8) (fun _ _ => rfl)) (pa_cons (pe_call (ok__law_order T) (hr.mono (by decide)) (by rfl) T.m__law_order T.F__law_order.kp T.b__law_order .nil pass0 (pa_cons (pe_ix (k_ixL (K := K) rfl) (pv 5) (pv 6) (fun _ _ => rfl)) (pa_cons (pe_ix (k_ixL (K := K) rfl) (pv 5) (pv 8) (fun _ _ => rfl)) pa_nil))) pa_nil)))))) (pss_one (ps_ret (pe_bl))) (pss_nil)))))) (pss_cons (ps_if (pt_not (pt_val (pe_call (ok__law_strangers_right T) (hr.mono (by decide)) (by rfl) T.m__law_strangers_right T.F__law_strangers_right.kp T.b__law_strangers_right .nil pass0 (pa_cons (pv 2) (pa_cons (pe_ix (k_ixL (K := K) rfl) (pv 7) (pe_int) (fun _ _ => rfl)) (pa_cons (pv 3) (pa_cons (pv 4) (pa_cons (pe_ix (k_ixL (K := K) rfl) (pv 5) (pe_int) (fun _ _ => rfl)) pa_nil)))))))) (pss_one (ps_ret (pe_bl))) (pss_nil)) (pss_one (ps_for PassesOwn.never rfl (pi_range1 (by rfl) T.n_range (pa_cons (pe_callB (k_len (K := K) rfl) (by rfl) T.n_len (by decide +kernel) (pa_cons (pv 7) pa_nil)) pa_nil)) (pg_name (i := 6) sc_law.nd rfl (Or.inl rfl)) (pss_one (ps_if (pt_not (pt_val (pe_call (ok__law_are_columns T) (hr.mono (by decide)) (by rfl) T.m__law_are_columns T.F__law_are_columns.kp T.b__law_are_columns .nil pass0 (pa_cons (pe_prop (pe_ix (k_ixL (K := K) rfl) (pv 7) (pv 6) (fun _ _ => rfl)) T.cl_Sheet T.p_Sheet_columns (ok_Sheet_columns T) (hr.mono (by decide)) T.b_Sheet_columns .nil pass0 rfl) (pa_cons (pe_ix (k_ixL (K := K) rfl) (pv 5) (pv 6) (fun _ _ => rfl)) pa_nil))))) (pss_one (ps_ret (pe_bl))) (pss_nil)))))))))))))) (pss_one (ps_ret (pe_bl)))), ?_⟩
  rintro ns G M vs ⟨v, rfl, dvs, hl, rfl⟩
  refine sv_seq (N := fun _ _ _ => True) (sv_forD (K := K) (ds := (cellsOf ns).map PyData.int) (fun i G' σ' M' => M' = [] ∧ ∃ y1 y2 y3 y4 y5 y6 y7 y8, σ' = [some v, y1, y2, y3, y4, y5, y6, y7, y8, none]) (ev_cells (ea_cons (ev_varP rfl dvs) ea_nil) hl) ?_ ?_ ?_) ?_
  · exact fun G' _ => ⟨rfl, none, none, none, none, none, none, none, none, rfl⟩
  · rintro i d x G2 σ2 M2 e2 hd dx ⟨rfl, y1, y2, y3, y4, y5, y6, y7, y8, rfl⟩
    obtain ⟨c, hc, rfl⟩ : ∃ c, (cellsOf ns)[i]? = some c ∧ d = .int c := by
      rw [List.getElem?_map] at hd
      cases q : (cellsOf ns)[i]? with
      | none => rw [q] at hd; cases hd
      | some n => rw [q] at hd; exact ⟨n, rfl, (Option.some.inj hd).symm⟩
    obtain rfl := dp_int dx
    refine sv_tgN (sv_let (ev_deck (ea_cons (ev_var rfl) ea_nil)) ?_)
    rintro _ G3 M3 e3 ⟨dk, rfl, rfl⟩
    refine sv_let (ev_I0 ev_c (ev_draw 0 (ea_cons (ev_var rfl) (ea_cons ev_c ea_nil)) rfl (by decide) (by decide))) ?_
    rintro _ G5 M5 e5 ⟨rfl, rfl⟩
    refine sv_let (ev_I0 ev_c (ev_draw 0 (ea_cons (ev_var rfl) (ea_cons ev_c ea_nil)) rfl (by decide) (by decide))) ?_
    rintro _ G6 M6 e6 ⟨rfl, rfl⟩
    have hb0 : 0 ≤ dv (deckOf c) 11 := dv_lo (by decide)
    have hb1 : dv (deckOf c) 11 < 11 := dv_hi (by decide)
    have hr0 : 0 ≤ dv (dn (deckOf c) 11) 4 := dv_lo (by decide)
    have hr1 : dv (dn (deckOf c) 11) 4 < 4 := dv_hi (by decide)
    generalize hb : (2 : Int) + dv (deckOf c) 11 = b
    generalize hr' : (1 : Int) + dv (dn (deckOf c) 11) 4 = r
    generalize hD : dn (dn (deckOf c) 11) 4 = D
    show Sv E _ [some v, some (.int c), some (.ref dk), some (.int b), some (.int r), y5, y6, y7, y8, none] G6 [(dk, D.ho)] _
    have b2 : 2 ≤ b := by omega
    have b12 : b ≤ 12 := by omega
    have r1 : 1 ≤ r := by omega
    have r4 : r ≤ 4 := by omega
    clear hb hr' hD hb0 hb1 hr0 hr1
    have g0 : GoodSh b r (colsOf D b r 20) ∧ (colsOf D b r 20).length ≤ 20 := by
      have := colsOf_len (D := D) (b := b) (r := r) (most := 20) (by decide)
      exact ⟨⟨by omega, by omega, by omega, by omega, by omega, colsOf_good (by omega) (by omega)⟩, by omega⟩
    refine sv_let (ev_lstO (K := K) (M1 := [(dk, (colsEnd D b r 20).ho)]) (ds := [.list ((colsOf D b r 20).map colD)]) (ea_cons (Ev.frz (ev_lcols (K := K) 0 (ea_cons (ev_var rfl) (ea_cons (ev_var rfl) (ea_cons (ev_var rfl) (ea_cons ev_c ea_nil)))) rfl (by omega) (by omega) (by omega) (by omega) (by decide) (by decide))) ea_nil) (by show 1 ≤ 1000; decide)) ?_
    rintro _ G7 M7 e7 ⟨el, xs, rfl, rfl, hxs⟩
    generalize colsOf D b r 20 = c0 at hxs g0
    generalize colsEnd D b r 20 = D
    have n0 : 0 ≤ dv D 3 := dv_lo (by decide)
    have n1 : dv D 3 < 3 := dv_hi (by decide)
    refine sv_seq (N := fun G' σ' M' => ∃ (D : Deck) (css : List (List (List Int))) (xs : List V) (y6 : Option V), M' = [(dk, D.ho), (el, HO.lst xs)] ∧ DpAll K G' xs (css.map fun cs => .list (cs.map colD)) ∧ (1 ≤ css.length ∧ css.length ≤ 5) ∧ (∀ cs ∈ css, GoodSh b r cs ∧ cs.length ≤ 20) ∧ σ' = [some v, some (.int c), some (.ref dk), some (.int b), some (.int r), some (.ref el), y6, y7, y8, none])
      (sv_forR (n := 2 + dv D 3) (M1 := [(dk, (dn D 3).ho), (el, HO.lst xs)]) (fun i G' σ' M' => ∃ (D : Deck) (css : List (List (List Int))) (xs : List V) (y6 : Option V), M' = [(dk, D.ho), (el, HO.lst xs)] ∧ DpAll K G' xs (css.map fun cs => .list (cs.map colD)) ∧ css.length = i + 1 ∧ (∀ cs ∈ css, GoodSh b r cs ∧ cs.length ≤ 20) ∧ σ' = [some v, some (.int c), some (.ref dk), some (.int b), some (.int r), some (.ref el), y6, y7, y8, none]) (ea_cons (ev_I0 (g := fun i j => V.int (i + j)) ev_c (ev_draw (D := D) (M1 := [(dk, D.ho), (el, HO.lst xs)]) 0 (ea_cons (ev_var rfl) (ea_cons ev_c ea_nil)) rfl (by decide) (by decide))) ea_nil) (fun G' e => ⟨dn D 3, [c0], xs, y6, rfl, dma hxs e, rfl, (fun cs h => by cases List.mem_singleton.mp h; exact g0), rfl⟩) (by omega) ?_ ?_) ?_
    · rintro i G' σ' M' e hi ⟨D, css, xs, y6, rfl, hxs, hcl, hcs, rfl⟩
      have hic : i < css.length := by omega
      have hci : css[i]? = some css[i] := List.getElem?_eq_getElem hic
      obtain ⟨xi, hxi, dxi⟩ := dpa_at (i := i) (d := .list (css[i].map colD)) hxs (by rw [List.getElem?_map, hci]; rfl)
      obtain ⟨gi, li⟩ := hcs _ (List.getElem_mem hic)
      have hxl : xs.length = css.length := by rw [dpa_len hxs, List.length_map]
      refine sv_tgN (sv_drop (ev_appendE (K := K) (n := 1) (xs := xs) (R := turnPost K (dk, 0, D, b, r, css[i]) [(dk, D.ho), (el, .lst xs)]) (ev_var rfl) (ev_call (pre := turnPre K) (post := turnPost K) (M1 := [(dk, D.ho), (el, .lst xs)]) (dk, 0, D, b, r, css[i]) (ea_cons (P := fun _ v => v = .ref dk) (ev_var rfl) (ea_cons (P := fun _ v => v = xi) (ev_ixL (K := K) (ev_var rfl) (ev_var rfl) (.M (i := 1) rfl) (by rw [Int.zero_add]; exact L2.atI_nat hxi)) (ea_cons (P := fun _ v => v = .int b) (ev_var rfl) (ea_cons (P := fun _ v => v = .int r) (ev_var rfl) ea_nil)))) fun G1 vs e' a => ?_) (fun G1 v M1 z => ?_) ⟨1, xs, rfl⟩ (by omega)) fun v' G'' M'' e' z => ?_)
      · obtain ⟨v1, v2, v3, v4, rfl, h1, h2, h3, h4⟩ := allP4 a
        subst h1 h2 h3 h4
        exact ⟨_, rfl, dm dxi e', gi, li, rfl⟩
      · obtain ⟨cs', D', _, rfl, _⟩ := z
        rfl
      · obtain ⟨_, y, M1', ⟨cs', D', hy, rfl, g', l'⟩, rfl⟩ := z
        refine ⟨D', css ++ [cs'], xs ++ [y], some (.int (0 + (i : Int))), rfl, ?_, by simp [hcl], fun cs h => ?_, rfl⟩
        · rw [List.map_append]
          exact dpa_app (dma hxs e') (.cons hy .nil)
        · rcases List.mem_append.mp h with h | h
          · exact hcs cs h
          · cases List.mem_singleton.mp h
            exact ⟨g', l'⟩
    · rintro G' σ' M' e ⟨D, css, xs, y6, rfl, hxs, hcl, hcs, rfl⟩
      exact ⟨D, css, xs, y6, rfl, hxs, by omega, hcs, rfl⟩
    rintro G8 σ8 M8 e8 ⟨D, css, xs, y6, rfl, hxs, hcl, hcs, rfl⟩
    have hxl : xs.length = css.length := by rw [dpa_len hxs, List.length_map]
    refine sv_let (ev_mapP (K := K) (p := el) (xs := xs) (ds := css.map fun cs => .list (cs.map colD)) (fun i G y => ∃ cs, css[i]? = some cs ∧ ShFz K T.c_Sheet b r cs G y) (fun i G G' v e h => by obtain ⟨cs, h1, h2⟩ := h; exact ⟨cs, h1, Mono.mono _ _ _ e h2⟩) (ev_var rfl) (.M (i := 1) rfl) hxs (by rw [List.length_map]; omega) (fun i d x G' hd e dx => ?_) (fun _ => rfl)) ?_
    · rw [List.getElem?_map] at hd
      cases q : css[i]? with
      | none => rw [q] at hd; cases hd
      | some cs =>
        rw [q] at hd
        cases hd
        exact (Ev.frzSh (ev_mkSh3 (K := K) (C := T.c_Sheet) (cs := cs) (ev_var rfl) (ev_var rfl) (ev_varP rfl dx) (hcs cs (List.mem_of_getElem? q)).1)).impP fun G1 v _ h => ⟨cs, rfl, h⟩
    rintro _ G9 M9 e9 ⟨⟨sl, ws, rfl, hsl, hwl, hws⟩, rfl⟩
    rw [List.length_map] at hwl
    have hxs := dma hxs e9
    have key : ∀ k, k < css.length → ∃ cs p x, css[k]? = some cs ∧ ws[k]? = some (.ref p) ∧ (∀ M', ShAt K T.c_Sheet G9 M' p b r cs) ∧ xs[k]? = some x ∧ Dp K G9 x (.list (cs.map colD)) ∧ GoodSh b r cs ∧ cs.length ≤ 20 := fun k hk => by
      obtain ⟨cs, hck, hz⟩ := hws k ws[k] (List.getElem?_eq_getElem (by omega))
      obtain ⟨p, hp, hS⟩ := hz.at_
      obtain ⟨x, hx, dx⟩ := dpa_at (i := k) (d := .list (cs.map colD)) hxs (by rw [List.getElem?_map, hck]; rfl)
      obtain ⟨g, l⟩ := hcs cs (List.mem_of_getElem? hck)
      exact ⟨cs, p, x, hck, by rw [List.getElem?_eq_getElem (by omega), hp], hS, hx, dx, g, l⟩
    have hln : ∀ (G' : Hp) (σ : L2.St) (M' : Mem), Ex G9 G' → σ[7]? = some (some (.ref sl)) → Ev (tCB (rLenS K) (tCons (tVar 7) tNil)) σ G' M' (isV (.int (css.length : Int)) M') := fun G' σ M' e h0 => by
      have := ev_lenA (K := K) (M := M') (ev_var h0) (.G (SqL.of (e _ _ hsl)))
      rw [hwl] at this
      exact this
    have hws' : ∀ (G' : Hp) (σ : L2.St) (M' : Mem) (k s : Nat) (p : Addr) (tk : TE), Ex G9 G' → σ[7]? = some (some (.ref sl)) → Ev tk σ G' M' (isV (.int (k : Int)) M') → ws[k]? = some (.ref p) → Ev (tOp (rIxL K) (tVar 7) tk) σ G' M' (isV (.ref p) M') := fun G' σ M' k s p tk e h0 h1 h2 => ev_ixL (K := K) (ev_var h0) h1 (.G (SqL.of (e _ _ hsl))) (L2.atI_nat h2)
    have hev : ∀ (G' : Hp) (σ : L2.St) (D : Deck) (k : Nat) (x : V) (tk : TE), σ[5]? = some (some (.ref el)) → Ev tk σ G' [(dk, D.ho), (el, HO.lst xs)] (isV (.int (k : Int)) [(dk, D.ho), (el, HO.lst xs)]) → xs[k]? = some x → Ev (tOp (rIxL K) (tVar 5) tk) σ G' [(dk, D.ho), (el, HO.lst xs)] (isV x [(dk, D.ho), (el, HO.lst xs)]) := fun G' σ D k x tk h0 h1 h2 => ev_ixL (K := K) (ev_var h0) h1 (.M (i := 1) rfl) (L2.atI_nat h2)
    refine sv_seq (N := fun G' σ' M' => M' = [(dk, D.ho), (el, HO.lst xs)] ∧ ∃ y6 y8, σ' = [some v, some (.int c), some (.ref dk), some (.int b), some (.int r), some (.ref el), y6, some (.ref sl), y8, none]) (sv_forR (n := (css.length : Int)) (M1 := [(dk, D.ho), (el, HO.lst xs)]) (fun i G' σ' M' => M' = [(dk, D.ho), (el, HO.lst xs)] ∧ ∃ y6 y8, σ' = [some v, some (.int c), some (.ref dk), some (.int b), some (.int r), some (.ref el), y6, some (.ref sl), y8, none]) (ea_cons (hln _ _ _ (Ex.refl _) rfl) ea_nil) (fun G' e => ⟨rfl, y6, y8, rfl⟩) (by omega) ?_ ?_) ?_
    · rintro k G' σ' M' e hk ⟨rfl, y6, y8, rfl⟩
      obtain ⟨cs, p, x, hck, hwk, hS, hxk, dxk, gk, lk⟩ := key k (by omega)
      refine sv_tgN ?_
      show Sv E _ [some v, some (.int c), some (.ref dk), some (.int b), some (.int r), some (.ref el), some (.int (0 + (k : Int))), some (.ref sl), y8, none] G' _ _
      rw [Int.zero_add]
      refine sv_forR (n := (css.length : Int)) (M1 := [(dk, D.ho), (el, HO.lst xs)]) (fun i G' σ' M' => M' = [(dk, D.ho), (el, HO.lst xs)] ∧ ∃ y8, σ' = [some v, some (.int c), some (.ref dk), some (.int b), some (.int r), some (.ref el), some (.int (k : Int)), some (.ref sl), y8, none]) (ea_cons (hln _ _ _ e rfl) ea_nil) (fun G' e => ⟨rfl, y8, rfl⟩) (by omega) ?_ ?_
      · rintro n G'' σ' M' e' hn ⟨rfl, y8, rfl⟩
        obtain ⟨ds, q, z, hcn, hwn, hT, hxn, dxn, gn, ln⟩ := key n (by omega)
        have ee := e.trans e'
        refine sv_tgN (sv_if (a := false) (M1 := [(dk, D.ho), (el, HO.lst xs)]) (et_not (a := true) (et_B ?_)) (fun G' _ hb => by cases hb) fun G10 e10 _ => sv_next fun G11 e11 => ⟨rfl, _, rfl⟩)
        show Ev _ [some v, some (.int c), some (.ref dk), some (.int b), some (.int r), some (.ref el), some (.int (k : Int)), some (.ref sl), some (.int (0 + (n : Int))), none] G'' _ _
        rw [Int.zero_add]
        refine ev_call (pre := twoPre K T.c_Sheet) (post := twoPost) ((p, b, r, cs), (q, b, r, ds)) (ea_cons (P := fun _ v => v = .ref p) (hws' _ _ _ k 0 p _ ee rfl (ev_var rfl) hwk) (ea_cons (P := fun _ v => v = .ref q) (hws' _ _ _ n 0 q _ ee rfl (ev_var rfl) hwn) (ea_cons (P := fun _ v => v = .int (ordV cs ds)) (ev_call (pre := orderPre K) (post := orderPost) (cs, ds, r.toNat) (ea_cons (P := fun _ v => v = x) (hev _ _ D k x _ rfl (ev_var rfl) hxk) (ea_cons (P := fun _ v => v = z) (hev _ _ D n z _ rfl (ev_var rfl) hxn) ea_nil)) fun G1 vs e'' a => ?_) ea_nil))) fun G1 vs e'' a => ?_
        · obtain ⟨v1, v2, rfl, h1, h2⟩ := allP2 a
          subst h1 h2
          exact ⟨_, _, rfl, dm dxk (ee.trans e''), dm dxn (ee.trans e''), by show r.toNat ≤ 1000; omega, by show cs.length ≤ 1000; omega, fun c hc => by have := (gk.col c hc).1; show c.length = r.toNat; omega, fun c hc => by have := (gn.col c hc).1; show c.length = r.toNat; omega⟩
        · obtain ⟨v1, v2, v3, rfl, h1, h2, h3⟩ := allP3 a
          subst h1 h2 h3
          exact ⟨rfl, (hS _).ex (ee.trans e''), (hT _).ex (ee.trans e''), rfl, rfl, gk, gn⟩
      · rintro G'' σ' M' e' ⟨rfl, y8, rfl⟩
        exact ⟨rfl, _, _, rfl⟩
    · rintro G' σ' M' e ⟨rfl, y6, y8, rfl⟩
      exact ⟨rfl, y6, y8, rfl⟩
    rintro G10 σ10 M10 e10 ⟨rfl, y6, y8, rfl⟩
    obtain ⟨cs, p, x, hck, hwk, hS, hxk, dxk, gk, lk⟩ := key 0 (by omega)
    refine sv_ifs (a := false) (M1 := [(dk, (dn D 5).ho), (el, HO.lst xs)]) (et_not (a := true) (et_B (ev_call (pre := stranPre K T.c_Sheet) (post := stranPost) (M1 := [(dk, D.ho), (el, HO.lst xs)]) (dk, 0, D, p, b, r, cs) (ea_cons (P := fun _ v => v = .ref dk) (ev_var rfl) (ea_cons (P := fun _ v => v = .ref p) (hws' _ _ _ 0 0 p _ e10 rfl ev_c hwk) (ea_cons (P := fun _ v => v = .int b) (ev_var rfl) (ea_cons (P := fun _ v => v = .int r) (ev_var rfl) (ea_cons (P := fun _ v => v = x) (hev _ _ D 0 x _ rfl ev_c hxk) ea_nil))))) fun G1 vs e'' a => ?_))) (fun G' _ hb => by cases hb) fun G11 e11 _ => sv_next fun G12 e12 => ?_
    · obtain ⟨v1, v2, v3, v4, v5, rfl, h1, h2, h3, h4, h5⟩ := allP5 a
      subst h1 h2 h3 h4 h5
      exact ⟨_, rfl, dm dxk (e10.trans e''), fun M' => (hS M').ex (e10.trans e''), gk, lk, rfl⟩
    have e912 := (e10.trans e11).trans e12
    refine sv_behind (sv_forR (n := (css.length : Int)) (M1 := [(dk, (dn D 5).ho), (el, HO.lst xs)]) (fun i G' σ' M' => M' = [(dk, (dn D 5).ho), (el, HO.lst xs)] ∧ ∃ y6, σ' = [some v, some (.int c), some (.ref dk), some (.int b), some (.int r), some (.ref el), y6, some (.ref sl), y8, none]) (ea_cons (hln _ _ _ e912 rfl) ea_nil) (fun G' e => ⟨rfl, y6, rfl⟩) (by omega) ?_ ?_)
    · rintro k G' σ' M' e hk ⟨rfl, y6, rfl⟩
      obtain ⟨cs, p, x, hck, hwk, hS, hxk, dxk, gk, lk⟩ := key k (by omega)
      have ee := e912.trans e
      obtain ⟨dx, l, zs, h1, h2, h3⟩ := (hS [(dk, (dn D 5).ho), (el, HO.lst xs)]).ex ee
      refine sv_tgN (sv_if (a := false) (M1 := [(dk, (dn D 5).ho), (el, HO.lst xs)]) (et_not (a := true) (et_B ?_)) (fun G' _ hb => by cases hb) fun G13 e13 _ => sv_next fun G14 e14 => ⟨rfl, _, rfl⟩)
      show Ev _ [some v, some (.int c), some (.ref dk), some (.int b), some (.int r), some (.ref el), some (.int (0 + (k : Int))), some (.ref sl), y8, none] G' _ _
      rw [Int.zero_add]
      have := ev_areD (K := K) (E' := E0) (fs := cs) (cs := cs) (M1 := [(dk, (dn D 5).ho), (el, HO.lst xs)]) (ea_cons (Ev.frz (ev_prop (pre := shPre K T.c_Sheet) (post := fun x M => own K (x.2.2.2.map colD) M) (E := E0) (p, b, r, cs) (hws' G' [some v, some (.int c), some (.ref dk), some (.int b), some (.int r), some (.ref el), some (.int (k : Int)), some (.ref sl), y8, none] [(dk, (dn D 5).ho), (el, HO.lst xs)] k 0 p (tVar 6) ee rfl (ev_var rfl) hwk) h1 fun G1 e1 => ⟨rfl, (hS _).ex (ee.trans e1)⟩)) (ea_cons (Ev.toDp (hev _ _ (dn D 5) k x (tVar 6) rfl (ev_var rfl) hxk) (dm dxk ee)) ea_nil)) (by omega) (by omega) fun c hc => by have := gk.clen hc; omega
      rw [decide_eq_true rfl] at this
      exact this
    · rintro G' σ' M' e ⟨rfl, y6, rfl⟩
      exact ⟨[], _, rfl, rfl, _, _, _, _, _, _, _, _, rfl⟩
  · exact fun _ _ _ _ _ => trivial
  · rintro G2 σ2 M2 e2 _
    refine sv_ret ev_c fun v' G' M' e r => r.1

end
def txt_mk {K : PySem.W.Frag} {h : Heap} {mg : Str → Option Value} (X : K.In h) (G : h.Ns mainGlobals mg) {c_Sheet : Addr} {c_InvalidSheet : Addr} {a_is_whole : Addr} {oc_is_whole kV_is_whole dc_is_whole pm_is_whole cd_is_whole ct_is_whole : Value} {od_is_whole an_is_whole : Option Addr} {sl_is_whole : Array (Option Value)} {a_is_column : Addr} {oc_is_column kV_is_column dc_is_column pm_is_column cd_is_column ct_is_column : Value} {od_is_column an_is_column : Option Addr} {sl_is_column : Array (Option Value)} {a__are_columns : Addr} {oc__are_columns kV__are_columns dc__are_columns pm__are_columns cd__are_columns ct__are_columns : Value} {od__are_columns an__are_columns : Option Addr} {sl__are_columns : Array (Option Value)} {a_is_base : Addr} {oc_is_base kV_is_base dc_is_base pm_is_base cd_is_base ct_is_base : Value} {od_is_base an_is_base : Option Addr} {sl_is_base : Array (Option Value)} {a_is_rows : Addr} {oc_is_rows kV_is_rows dc_is_rows pm_is_rows cd_is_rows ct_is_rows : Value} {od_is_rows an_is_rows : Option Addr} {sl_is_rows : Array (Option Value)} {a_Sheet___init__ : Addr} {oc_Sheet___init__ kV_Sheet___init__ dc_Sheet___init__ pm_Sheet___init__ cd_Sheet___init__ ct_Sheet___init__ : Value} {od_Sheet___init__ an_Sheet___init__ : Option Addr} {sl_Sheet___init__ : Array (Option Value)} {a_Sheet_columns : Addr} {oc_Sheet_columns kV_Sheet_columns dc_Sheet_columns pm_Sheet_columns cd_Sheet_columns ct_Sheet_columns : Value} {od_Sheet_columns an_Sheet_columns : Option Addr} {sl_Sheet_columns : Array (Option Value)} {pa_Sheet_columns : Addr} {re_Sheet_columns : List Value} {a__law_is_integer : Addr} {oc__law_is_integer kV__law_is_integer dc__law_is_integer pm__law_is_integer cd__law_is_integer ct__law_is_integer : Value} {od__law_is_integer an__law_is_integer : Option Addr} {sl__law_is_integer : Array (Option Value)} {a__law_is_column : Addr} {oc__law_is_column kV__law_is_column dc__law_is_column pm__law_is_column cd__law_is_column ct__law_is_column : Value} {od__law_is_column an__law_is_column : Option Addr} {sl__law_is_column : Array (Option Value)} {a__law_are_columns : Addr} {oc__law_are_columns kV__law_are_columns dc__law_are_columns pm__law_are_columns cd__law_are_columns ct__law_are_columns : Value} {od__law_are_columns an__law_are_columns : Option Addr} {sl__law_are_columns : Array (Option Value)} {a__law_cells : Addr} {oc__law_cells kV__law_cells dc__law_cells pm__law_cells cd__law_cells ct__law_cells : Value} {od__law_cells an__law_cells : Option Addr} {sl__law_cells : Array (Option Value)} {a__law_draw : Addr} {oc__law_draw kV__law_draw dc__law_draw pm__law_draw cd__law_draw ct__law_draw : Value} {od__law_draw an__law_draw : Option Addr} {sl__law_draw : Array (Option Value)} {a__law_column : Addr} {oc__law_column kV__law_column dc__law_column pm__law_column cd__law_column ct__law_column : Value} {od__law_column an__law_column : Option Addr} {sl__law_column : Array (Option Value)} {a__law_columns : Addr} {oc__law_columns kV__law_columns dc__law_columns pm__law_columns cd__law_columns ct__law_columns : Value} {od__law_columns an__law_columns : Option Addr} {sl__law_columns : Array (Option Value)} {a__law_deck : Addr} {oc__law_deck kV__law_deck dc__law_deck pm__law_deck cd__law_deck ct__law_deck : Value} {od__law_deck an__law_deck : Option Addr} {sl__law_deck : Array (Option Value)} {a__law_order : Addr} {oc__law_order kV__law_order dc__law_order pm__law_order cd__law_order ct__law_order : Value} {od__law_order an__law_order : Option Addr} {sl__law_order : Array (Option Value)} {a_Sheet__place : Addr} {oc_Sheet__place kV_Sheet__place dc_Sheet__place pm_Sheet__place cd_Sheet__place ct_Sheet__place : Value} {od_Sheet__place an_Sheet__place : Option Addr} {sl_Sheet__place : Array (Option Value)} {a_Sheet___eq__ : Addr} {oc_Sheet___eq__ kV_Sheet___eq__ dc_Sheet___eq__ pm_Sheet___eq__ cd_Sheet___eq__ ct_Sheet___eq__ : Value} {od_Sheet___eq__ an_Sheet___eq__ : Option Addr} {sl_Sheet___eq__ : Array (Option Value)} {a_place_value : Addr} {oc_place_value kV_place_value dc_place_value pm_place_value cd_place_value ct_place_value : Value} {od_place_value an_place_value : Option Addr} {sl_place_value : Array (Option Value)} {a_Sheet_value : Addr} {oc_Sheet_value kV_Sheet_value dc_Sheet_value pm_Sheet_value cd_Sheet_value ct_Sheet_value : Value} {od_Sheet_value an_Sheet_value : Option Addr} {sl_Sheet_value : Array (Option Value)} {pa_Sheet_value : Addr} {re_Sheet_value : List Value} {a__law_strangers_right : Addr} {oc__law_strangers_right kV__law_strangers_right dc__law_strangers_right pm__law_strangers_right cd__law_strangers_right ct__law_strangers_right : Value} {od__law_strangers_right an__law_strangers_right : Option Addr} {sl__law_strangers_right : Array (Option Value)} {a__law_turned : Addr} {oc__law_turned kV__law_turned dc__law_turned pm__law_turned cd__law_turned ct__law_turned : Value} {od__law_turned an__law_turned : Option Addr} {sl__law_turned : Array (Option Value)} {a_Sheet___ge__ : Addr} {oc_Sheet___ge__ kV_Sheet___ge__ dc_Sheet___ge__ pm_Sheet___ge__ cd_Sheet___ge__ ct_Sheet___ge__ : Value} {od_Sheet___ge__ an_Sheet___ge__ : Option Addr} {sl_Sheet___ge__ : Array (Option Value)} {a_Sheet___gt__ : Addr} {oc_Sheet___gt__ kV_Sheet___gt__ dc_Sheet___gt__ pm_Sheet___gt__ cd_Sheet___gt__ ct_Sheet___gt__ : Value} {od_Sheet___gt__ an_Sheet___gt__ : Option Addr} {sl_Sheet___gt__ : Array (Option Value)} {a_Sheet___le__ : Addr} {oc_Sheet___le__ kV_Sheet___le__ dc_Sheet___le__ pm_Sheet___le__ cd_Sheet___le__ ct_Sheet___le__ : Value} {od_Sheet___le__ an_Sheet___le__ : Option Addr} {sl_Sheet___le__ : Array (Option Value)} {a_Sheet___lt__ : Addr} {oc_Sheet___lt__ kV_Sheet___lt__ dc_Sheet___lt__ pm_Sheet___lt__ cd_Sheet___lt__ ct_Sheet___lt__ : Value} {od_Sheet___lt__ an_Sheet___lt__ : Option Addr} {sl_Sheet___lt__ : Array (Option Value)} {a__law_two_right : Addr} {oc__law_two_right kV__law_two_right dc__law_two_right pm__law_two_right cd__law_two_right ct__law_two_right : Value} {od__law_two_right an__law_two_right : Option Addr} {sl__law_two_right : Array (Option Value)} {a_law : Addr} {oc_law kV_law dc_law pm_law cd_law ct_law : Value} {od_law an_law : Option Addr} {sl_law : Array (Option Value)}
    (ac_Sheet : PySem.W.nsIn K mainGlobals "Sheet" = some (some (.ref c_Sheet)))
    (ac_InvalidSheet : PySem.W.nsIn K mainGlobals "InvalidSheet" = some (some (.ref c_InvalidSheet)))
    (af_is_whole : PySem.W.nsIn K mainGlobals "is_whole" = some (some (.ref a_is_whole)))
    (lf_is_whole : K.lookup a_is_whole = some ⟨oc_is_whole, od_is_whole, .func (PySem.W.fnOf "is_whole" "is_whole" (defArgs s_is_whole) (defBody s_is_whole) (defScope s_is_whole) .none kV_is_whole dc_is_whole pm_is_whole an_is_whole cd_is_whole ct_is_whole), sl_is_whole⟩)
    (cf_is_whole : PySem.W.codeIn K cd_is_whole "is_whole" = true)
    (kf_is_whole : PySem.W.keepIn K (.ref a_is_whole) = true)
    (af_is_column : PySem.W.nsIn K mainGlobals "is_column" = some (some (.ref a_is_column)))
    (lf_is_column : K.lookup a_is_column = some ⟨oc_is_column, od_is_column, .func (PySem.W.fnOf "is_column" "is_column" (defArgs s_is_column) (defBody s_is_column) (defScope s_is_column) .none kV_is_column dc_is_column pm_is_column an_is_column cd_is_column ct_is_column), sl_is_column⟩)
    (cf_is_column : PySem.W.codeIn K cd_is_column "is_column" = true)
    (kf_is_column : PySem.W.keepIn K (.ref a_is_column) = true)
    (af__are_columns : PySem.W.nsIn K mainGlobals "_are_columns" = some (some (.ref a__are_columns)))
    (lf__are_columns : K.lookup a__are_columns = some ⟨oc__are_columns, od__are_columns, .func (PySem.W.fnOf "_are_columns" "_are_columns" (defArgs s__are_columns) (defBody s__are_columns) (defScope s__are_columns) .none kV__are_columns dc__are_columns pm__are_columns an__are_columns cd__are_columns ct__are_columns), sl__are_columns⟩)
    (cf__are_columns : PySem.W.codeIn K cd__are_columns "_are_columns" = true)
    (kf__are_columns : PySem.W.keepIn K (.ref a__are_columns) = true)
    (af_is_base : PySem.W.nsIn K mainGlobals "is_base" = some (some (.ref a_is_base)))
    (lf_is_base : K.lookup a_is_base = some ⟨oc_is_base, od_is_base, .func (PySem.W.fnOf "is_base" "is_base" (defArgs s_is_base) (defBody s_is_base) (defScope s_is_base) .none kV_is_base dc_is_base pm_is_base an_is_base cd_is_base ct_is_base), sl_is_base⟩)
    (cf_is_base : PySem.W.codeIn K cd_is_base "is_base" = true)
    (kf_is_base : PySem.W.keepIn K (.ref a_is_base) = true)
    (af_is_rows : PySem.W.nsIn K mainGlobals "is_rows" = some (some (.ref a_is_rows)))
    (lf_is_rows : K.lookup a_is_rows = some ⟨oc_is_rows, od_is_rows, .func (PySem.W.fnOf "is_rows" "is_rows" (defArgs s_is_rows) (defBody s_is_rows) (defScope s_is_rows) .none kV_is_rows dc_is_rows pm_is_rows an_is_rows cd_is_rows ct_is_rows), sl_is_rows⟩)
    (cf_is_rows : PySem.W.codeIn K cd_is_rows "is_rows" = true)
    (kf_is_rows : PySem.W.keepIn K (.ref a_is_rows) = true)
    (af_Sheet___init__ : PySem.W.findIn K (.ref c_Sheet) "__init__" = some (some (.ref a_Sheet___init__)))
    (if_Sheet___init__ : PySem.W.isFn K (.ref a_Sheet___init__) = true)
    (lf_Sheet___init__ : K.lookup a_Sheet___init__ = some ⟨oc_Sheet___init__, od_Sheet___init__, .func (PySem.W.fnOf "__init__" "Sheet.__init__" (defArgs s_Sheet___init__) (defBody s_Sheet___init__) (defScope s_Sheet___init__) .none kV_Sheet___init__ dc_Sheet___init__ pm_Sheet___init__ an_Sheet___init__ cd_Sheet___init__ ct_Sheet___init__), sl_Sheet___init__⟩)
    (cf_Sheet___init__ : PySem.W.codeIn K cd_Sheet___init__ "Sheet.__init__" = true)
    (kf_Sheet___init__ : PySem.W.keepIn K (.ref a_Sheet___init__) = true)
    (pf_Sheet_columns : PySem.W.findIn K (.ref c_Sheet) "columns" = some (some (.ref pa_Sheet_columns)))
    (pg_Sheet_columns : PySem.W.specialIn K (.ref pa_Sheet_columns) "__get__" = some (some (.builtin "property.__get__")))
    (pt_Sheet_columns : PySem.W.takesIn K (.ref pa_Sheet_columns) = some true)
    (pr_Sheet_columns : PySem.W.recIn K pa_Sheet_columns "property" = some (.ref a_Sheet_columns :: re_Sheet_columns))
    (lf_Sheet_columns : K.lookup a_Sheet_columns = some ⟨oc_Sheet_columns, od_Sheet_columns, .func (PySem.W.fnOf "columns" "Sheet.columns" (defArgs s_Sheet_columns) (defBody s_Sheet_columns) (defScope s_Sheet_columns) .none kV_Sheet_columns dc_Sheet_columns pm_Sheet_columns an_Sheet_columns cd_Sheet_columns ct_Sheet_columns), sl_Sheet_columns⟩)
    (cf_Sheet_columns : PySem.W.codeIn K cd_Sheet_columns "Sheet.columns" = true)
    (kf_Sheet_columns : PySem.W.keepIn K (.ref a_Sheet_columns) = true)
    (af__law_is_integer : PySem.W.nsIn K mainGlobals "_law_is_integer" = some (some (.ref a__law_is_integer)))
    (lf__law_is_integer : K.lookup a__law_is_integer = some ⟨oc__law_is_integer, od__law_is_integer, .func (PySem.W.fnOf "_law_is_integer" "_law_is_integer" (defArgs s__law_is_integer) (defBody s__law_is_integer) (defScope s__law_is_integer) .none kV__law_is_integer dc__law_is_integer pm__law_is_integer an__law_is_integer cd__law_is_integer ct__law_is_integer), sl__law_is_integer⟩)
    (cf__law_is_integer : PySem.W.codeIn K cd__law_is_integer "_law_is_integer" = true)
    (kf__law_is_integer : PySem.W.keepIn K (.ref a__law_is_integer) = true)
    (af__law_is_column : PySem.W.nsIn K mainGlobals "_law_is_column" = some (some (.ref a__law_is_column)))
    (lf__law_is_column : K.lookup a__law_is_column = some ⟨oc__law_is_column, od__law_is_column, .func (PySem.W.fnOf "_law_is_column" "_law_is_column" (defArgs s__law_is_column) (defBody s__law_is_column) (defScope s__law_is_column) .none kV__law_is_column dc__law_is_column pm__law_is_column an__law_is_column cd__law_is_column ct__law_is_column), sl__law_is_column⟩)
    (cf__law_is_column : PySem.W.codeIn K cd__law_is_column "_law_is_column" = true)
    (kf__law_is_column : PySem.W.keepIn K (.ref a__law_is_column) = true)
    (af__law_are_columns : PySem.W.nsIn K mainGlobals "_law_are_columns" = some (some (.ref a__law_are_columns)))
    (lf__law_are_columns : K.lookup a__law_are_columns = some ⟨oc__law_are_columns, od__law_are_columns, .func (PySem.W.fnOf "_law_are_columns" "_law_are_columns" (defArgs s__law_are_columns) (defBody s__law_are_columns) (defScope s__law_are_columns) .none kV__law_are_columns dc__law_are_columns pm__law_are_columns an__law_are_columns cd__law_are_columns ct__law_are_columns), sl__law_are_columns⟩)
    (cf__law_are_columns : PySem.W.codeIn K cd__law_are_columns "_law_are_columns" = true)
    (kf__law_are_columns : PySem.W.keepIn K (.ref a__law_are_columns) = true)
    (af__law_cells : PySem.W.nsIn K mainGlobals "_law_cells" = some (some (.ref a__law_cells)))
    (lf__law_cells : K.lookup a__law_cells = some ⟨oc__law_cells, od__law_cells, .func (PySem.W.fnOf "_law_cells" "_law_cells" (defArgs s__law_cells) (defBody s__law_cells) (defScope s__law_cells) .none kV__law_cells dc__law_cells pm__law_cells an__law_cells cd__law_cells ct__law_cells), sl__law_cells⟩)
    (cf__law_cells : PySem.W.codeIn K cd__law_cells "_law_cells" = true)
    (kf__law_cells : PySem.W.keepIn K (.ref a__law_cells) = true)
    (af__law_draw : PySem.W.nsIn K mainGlobals "_law_draw" = some (some (.ref a__law_draw)))
    (lf__law_draw : K.lookup a__law_draw = some ⟨oc__law_draw, od__law_draw, .func (PySem.W.fnOf "_law_draw" "_law_draw" (defArgs s__law_draw) (defBody s__law_draw) (defScope s__law_draw) .none kV__law_draw dc__law_draw pm__law_draw an__law_draw cd__law_draw ct__law_draw), sl__law_draw⟩)
    (cf__law_draw : PySem.W.codeIn K cd__law_draw "_law_draw" = true)
    (kf__law_draw : PySem.W.keepIn K (.ref a__law_draw) = true)
    (af__law_column : PySem.W.nsIn K mainGlobals "_law_column" = some (some (.ref a__law_column)))
    (lf__law_column : K.lookup a__law_column = some ⟨oc__law_column, od__law_column, .func (PySem.W.fnOf "_law_column" "_law_column" (defArgs s__law_column) (defBody s__law_column) (defScope s__law_column) .none kV__law_column dc__law_column pm__law_column an__law_column cd__law_column ct__law_column), sl__law_column⟩)
    (cf__law_column : PySem.W.codeIn K cd__law_column "_law_column" = true)
    (kf__law_column : PySem.W.keepIn K (.ref a__law_column) = true)
    (af__law_columns : PySem.W.nsIn K mainGlobals "_law_columns" = some (some (.ref a__law_columns)))
    (lf__law_columns : K.lookup a__law_columns = some ⟨oc__law_columns, od__law_columns, .func (PySem.W.fnOf "_law_columns" "_law_columns" (defArgs s__law_columns) (defBody s__law_columns) (defScope s__law_columns) .none kV__law_columns dc__law_columns pm__law_columns an__law_columns cd__law_columns ct__law_columns), sl__law_columns⟩)
    (cf__law_columns : PySem.W.codeIn K cd__law_columns "_law_columns" = true)
    (kf__law_columns : PySem.W.keepIn K (.ref a__law_columns) = true)
    (af__law_deck : PySem.W.nsIn K mainGlobals "_law_deck" = some (some (.ref a__law_deck)))
    (lf__law_deck : K.lookup a__law_deck = some ⟨oc__law_deck, od__law_deck, .func (PySem.W.fnOf "_law_deck" "_law_deck" (defArgs s__law_deck) (defBody s__law_deck) (defScope s__law_deck) .none kV__law_deck dc__law_deck pm__law_deck an__law_deck cd__law_deck ct__law_deck), sl__law_deck⟩)
    (cf__law_deck : PySem.W.codeIn K cd__law_deck "_law_deck" = true)
    (kf__law_deck : PySem.W.keepIn K (.ref a__law_deck) = true)
    (af__law_order : PySem.W.nsIn K mainGlobals "_law_order" = some (some (.ref a__law_order)))
    (lf__law_order : K.lookup a__law_order = some ⟨oc__law_order, od__law_order, .func (PySem.W.fnOf "_law_order" "_law_order" (defArgs s__law_order) (defBody s__law_order) (defScope s__law_order) .none kV__law_order dc__law_order pm__law_order an__law_order cd__law_order ct__law_order), sl__law_order⟩)
    (cf__law_order : PySem.W.codeIn K cd__law_order "_law_order" = true)
    (kf__law_order : PySem.W.keepIn K (.ref a__law_order) = true)
    (af_Sheet__place : PySem.W.findIn K (.ref c_Sheet) "_place" = some (some (.ref a_Sheet__place)))
    (if_Sheet__place : PySem.W.isFn K (.ref a_Sheet__place) = true)
    (lf_Sheet__place : K.lookup a_Sheet__place = some ⟨oc_Sheet__place, od_Sheet__place, .func (PySem.W.fnOf "_place" "Sheet._place" (defArgs s_Sheet__place) (defBody s_Sheet__place) (defScope s_Sheet__place) .none kV_Sheet__place dc_Sheet__place pm_Sheet__place an_Sheet__place cd_Sheet__place ct_Sheet__place), sl_Sheet__place⟩)
    (cf_Sheet__place : PySem.W.codeIn K cd_Sheet__place "Sheet._place" = true)
    (kf_Sheet__place : PySem.W.keepIn K (.ref a_Sheet__place) = true)
    (af_Sheet___eq__ : PySem.W.findIn K (.ref c_Sheet) "__eq__" = some (some (.ref a_Sheet___eq__)))
    (if_Sheet___eq__ : PySem.W.isFn K (.ref a_Sheet___eq__) = true)
    (lf_Sheet___eq__ : K.lookup a_Sheet___eq__ = some ⟨oc_Sheet___eq__, od_Sheet___eq__, .func (PySem.W.fnOf "__eq__" "Sheet.__eq__" (defArgs s_Sheet___eq__) (defBody s_Sheet___eq__) (defScope s_Sheet___eq__) .none kV_Sheet___eq__ dc_Sheet___eq__ pm_Sheet___eq__ an_Sheet___eq__ cd_Sheet___eq__ ct_Sheet___eq__), sl_Sheet___eq__⟩)
    (cf_Sheet___eq__ : PySem.W.codeIn K cd_Sheet___eq__ "Sheet.__eq__" = true)
    (kf_Sheet___eq__ : PySem.W.keepIn K (.ref a_Sheet___eq__) = true)
    (af_place_value : PySem.W.nsIn K mainGlobals "place_value" = some (some (.ref a_place_value)))
    (lf_place_value : K.lookup a_place_value = some ⟨oc_place_value, od_place_value, .func (PySem.W.fnOf "place_value" "place_value" (defArgs s_place_value) (defBody s_place_value) (defScope s_place_value) .none kV_place_value dc_place_value pm_place_value an_place_value cd_place_value ct_place_value), sl_place_value⟩)
    (cf_place_value : PySem.W.codeIn K cd_place_value "place_value" = true)
    (kf_place_value : PySem.W.keepIn K (.ref a_place_value) = true)
    (pf_Sheet_value : PySem.W.findIn K (.ref c_Sheet) "value" = some (some (.ref pa_Sheet_value)))
    (pg_Sheet_value : PySem.W.specialIn K (.ref pa_Sheet_value) "__get__" = some (some (.builtin "property.__get__")))
    (pt_Sheet_value : PySem.W.takesIn K (.ref pa_Sheet_value) = some true)
    (pr_Sheet_value : PySem.W.recIn K pa_Sheet_value "property" = some (.ref a_Sheet_value :: re_Sheet_value))
    (lf_Sheet_value : K.lookup a_Sheet_value = some ⟨oc_Sheet_value, od_Sheet_value, .func (PySem.W.fnOf "value" "Sheet.value" (defArgs s_Sheet_value) (defBody s_Sheet_value) (defScope s_Sheet_value) .none kV_Sheet_value dc_Sheet_value pm_Sheet_value an_Sheet_value cd_Sheet_value ct_Sheet_value), sl_Sheet_value⟩)
    (cf_Sheet_value : PySem.W.codeIn K cd_Sheet_value "Sheet.value" = true)
    (kf_Sheet_value : PySem.W.keepIn K (.ref a_Sheet_value) = true)
    (af__law_strangers_right : PySem.W.nsIn K mainGlobals "_law_strangers_right" = some (some (.ref a__law_strangers_right)))
    (lf__law_strangers_right : K.lookup a__law_strangers_right = some ⟨oc__law_strangers_right, od__law_strangers_right, .func (PySem.W.fnOf "_law_strangers_right" "_law_strangers_right" (defArgs s__law_strangers_right) (defBody s__law_strangers_right) (defScope s__law_strangers_right) .none kV__law_strangers_right dc__law_strangers_right pm__law_strangers_right an__law_strangers_right cd__law_strangers_right ct__law_strangers_right), sl__law_strangers_right⟩)
    (cf__law_strangers_right : PySem.W.codeIn K cd__law_strangers_right "_law_strangers_right" = true)
    (kf__law_strangers_right : PySem.W.keepIn K (.ref a__law_strangers_right) = true)
    (af__law_turned : PySem.W.nsIn K mainGlobals "_law_turned" = some (some (.ref a__law_turned)))
    (lf__law_turned : K.lookup a__law_turned = some ⟨oc__law_turned, od__law_turned, .func (PySem.W.fnOf "_law_turned" "_law_turned" (defArgs s__law_turned) (defBody s__law_turned) (defScope s__law_turned) .none kV__law_turned dc__law_turned pm__law_turned an__law_turned cd__law_turned ct__law_turned), sl__law_turned⟩)
    (cf__law_turned : PySem.W.codeIn K cd__law_turned "_law_turned" = true)
    (kf__law_turned : PySem.W.keepIn K (.ref a__law_turned) = true)
    (af_Sheet___ge__ : PySem.W.findIn K (.ref c_Sheet) "__ge__" = some (some (.ref a_Sheet___ge__)))
    (if_Sheet___ge__ : PySem.W.isFn K (.ref a_Sheet___ge__) = true)
    (lf_Sheet___ge__ : K.lookup a_Sheet___ge__ = some ⟨oc_Sheet___ge__, od_Sheet___ge__, .func (PySem.W.fnOf "__ge__" "Sheet.__ge__" (defArgs s_Sheet___ge__) (defBody s_Sheet___ge__) (defScope s_Sheet___ge__) .none kV_Sheet___ge__ dc_Sheet___ge__ pm_Sheet___ge__ an_Sheet___ge__ cd_Sheet___ge__ ct_Sheet___ge__), sl_Sheet___ge__⟩)
    (cf_Sheet___ge__ : PySem.W.codeIn K cd_Sheet___ge__ "Sheet.__ge__" = true)
    (kf_Sheet___ge__ : PySem.W.keepIn K (.ref a_Sheet___ge__) = true)
    (af_Sheet___gt__ : PySem.W.findIn K (.ref c_Sheet) "__gt__" = some (some (.ref a_Sheet___gt__)))
    (if_Sheet___gt__ : PySem.W.isFn K (.ref a_Sheet___gt__) = true)
    (lf_Sheet___gt__ : K.lookup a_Sheet___gt__ = some ⟨oc_Sheet___gt__, od_Sheet___gt__, .func (PySem.W.fnOf "__gt__" "Sheet.__gt__" (defArgs s_Sheet___gt__) (defBody s_Sheet___gt__) (defScope s_Sheet___gt__) .none kV_Sheet___gt__ dc_Sheet___gt__ pm_Sheet___gt__ an_Sheet___gt__ cd_Sheet___gt__ ct_Sheet___gt__), sl_Sheet___gt__⟩)
    (cf_Sheet___gt__ : PySem.W.codeIn K cd_Sheet___gt__ "Sheet.__gt__" = true)
    (kf_Sheet___gt__ : PySem.W.keepIn K (.ref a_Sheet___gt__) = true)
    (af_Sheet___le__ : PySem.W.findIn K (.ref c_Sheet) "__le__" = some (some (.ref a_Sheet___le__)))
    (if_Sheet___le__ : PySem.W.isFn K (.ref a_Sheet___le__) = true)
    (lf_Sheet___le__ : K.lookup a_Sheet___le__ = some ⟨oc_Sheet___le__, od_Sheet___le__, .func (PySem.W.fnOf "__le__" "Sheet.__le__" (defArgs s_Sheet___le__) (defBody s_Sheet___le__) (defScope s_Sheet___le__) .none kV_Sheet___le__ dc_Sheet___le__ pm_Sheet___le__ an_Sheet___le__ cd_Sheet___le__ ct_Sheet___le__), sl_Sheet___le__⟩)
    (cf_Sheet___le__ : PySem.W.codeIn K cd_Sheet___le__ "Sheet.__le__" = true)
    (kf_Sheet___le__ : PySem.W.keepIn K (.ref a_Sheet___le__) = true)
    (af_Sheet___lt__ : PySem.W.findIn K (.ref c_Sheet) "__lt__" = some (some (.ref a_Sheet___lt__)))
    (if_Sheet___lt__ : PySem.W.isFn K (.ref a_Sheet___lt__) = true)
    (lf_Sheet___lt__ : K.lookup a_Sheet___lt__ = some ⟨oc_Sheet___lt__, od_Sheet___lt__, .func (PySem.W.fnOf "__lt__" "Sheet.__lt__" (defArgs s_Sheet___lt__) (defBody s_Sheet___lt__) (defScope s_Sheet___lt__) .none kV_Sheet___lt__ dc_Sheet___lt__ pm_Sheet___lt__ an_Sheet___lt__ cd_Sheet___lt__ ct_Sheet___lt__), sl_Sheet___lt__⟩)
    (cf_Sheet___lt__ : PySem.W.codeIn K cd_Sheet___lt__ "Sheet.__lt__" = true)
    (kf_Sheet___lt__ : PySem.W.keepIn K (.ref a_Sheet___lt__) = true)
    (af__law_two_right : PySem.W.nsIn K mainGlobals "_law_two_right" = some (some (.ref a__law_two_right)))
    (lf__law_two_right : K.lookup a__law_two_right = some ⟨oc__law_two_right, od__law_two_right, .func (PySem.W.fnOf "_law_two_right" "_law_two_right" (defArgs s__law_two_right) (defBody s__law_two_right) (defScope s__law_two_right) .none kV__law_two_right dc__law_two_right pm__law_two_right an__law_two_right cd__law_two_right ct__law_two_right), sl__law_two_right⟩)
    (cf__law_two_right : PySem.W.codeIn K cd__law_two_right "_law_two_right" = true)
    (kf__law_two_right : PySem.W.keepIn K (.ref a__law_two_right) = true)
    (af_law : PySem.W.nsIn K mainGlobals "law" = some (some (.ref a_law)))
    (lf_law : K.lookup a_law = some ⟨oc_law, od_law, .func (PySem.W.fnOf "law" "law" (defArgs s_law) (defBody s_law) (defScope s_law) .none kV_law dc_law pm_law an_law cd_law ct_law), sl_law⟩)
    (cf_law : PySem.W.codeIn K cd_law "law" = true)
    (kf_law : PySem.W.keepIn K (.ref a_law) = true)
    (pg_Sheet : PySem.W.plainGet K c_Sheet Str.empty = true)
    (hd_Sheet : PySem.W.hasDictIn K c_Sheet = true)
    (po_Sheet : PySem.W.plainOver K c_Sheet = true)
    (sa_Sheet : PySem.W.findIn K (.ref c_Sheet) "__setattr__" = some (some (.builtin "object.__setattr__")))
    (mk_Sheet : PySem.W.makesIn K c_Sheet = true)
    (kc_Sheet : PySem.W.keepIn K (.ref c_Sheet) = true)
    (na_Sheet__base : PySem.W.findIn K (.ref c_Sheet) "_base" = some none)
    (na_Sheet__columns : PySem.W.findIn K (.ref c_Sheet) "_columns" = some none)
    (na_Sheet__rows : PySem.W.findIn K (.ref c_Sheet) "_rows" = some none)
    (ic1_Sheet : PySem.W.findIn K (.ref c_Sheet) "__class__" = some (some (.builtin "object.__class__")))
    (ic4_Sheet : PySem.W.mroIn K c_Sheet (.type "object") = some true)
    (icn : PySem.W.specialIn K (.builtin "object.__class__") "__get__" = some (some (.builtin "getset_descriptor.__get__")))
    (ict : PySem.W.takesIn K (.builtin "object.__class__") = some true)
    (io_Sheet : PySem.W.kitOne K (.ref c_Sheet) (.ref c_Sheet) = some true)
    (nf_Sheet_NoneType : PySem.W.notFirst K c_Sheet (.type "NoneType") = true)
    (nf_Sheet_bool : PySem.W.notFirst K c_Sheet (.type "bool") = true)
    (nf_Sheet_int : PySem.W.notFirst K c_Sheet (.type "int") = true)
    (nf_Sheet_str : PySem.W.notFirst K c_Sheet (.type "str") = true)
    (nf_Sheet_list : PySem.W.notFirst K c_Sheet (.type "list") = true)
    (nf_Sheet_tuple : PySem.W.notFirst K c_Sheet (.type "tuple") = true)
    (nf_Sheet_dict : PySem.W.notFirst K c_Sheet (.type "dict") = true)
    (ki_Sheet_NoneType : PySem.W.kitOne K (.type "NoneType") (.ref c_Sheet) = some false)
    (ki_Sheet_bool : PySem.W.kitOne K (.type "bool") (.ref c_Sheet) = some false)
    (ki_Sheet_int : PySem.W.kitOne K (.type "int") (.ref c_Sheet) = some false)
    (ki_Sheet_str : PySem.W.kitOne K (.type "str") (.ref c_Sheet) = some false)
    (ki_Sheet_list : PySem.W.kitOne K (.type "list") (.ref c_Sheet) = some false)
    (ki_Sheet_tuple : PySem.W.kitOne K (.type "tuple") (.ref c_Sheet) = some false)
    (ki_Sheet_dict : PySem.W.kitOne K (.type "dict") (.ref c_Sheet) = some false)
    (x_InvalidSheet : PySem.W.excIn K c_InvalidSheet [.type "ValueError", .type "Exception", .type "BaseException", .type "object"] "ValueError.__new__" = true)
    (xk_InvalidSheet : PySem.W.keepIn K (.ref c_InvalidSheet) = true)
    (xb_InvalidSheet : PySem.W.subIn K (.ref c_InvalidSheet) (.type "BaseException") = some true)
    (xt_InvalidSheet : PySem.W.typeIn K (.ref c_InvalidSheet) = some (.type "type"))
    (nb_all : PySem.W.nsIn K mainGlobals "all" = some none)
    (nb_bool : PySem.W.nsIn K mainGlobals "bool" = some none)
    (nb_int : PySem.W.nsIn K mainGlobals "int" = some none)
    (nb_isinstance : PySem.W.nsIn K mainGlobals "isinstance" = some none)
    (nb_len : PySem.W.nsIn K mainGlobals "len" = some none)
    (nb_list : PySem.W.nsIn K mainGlobals "list" = some none)
    (nb_range : PySem.W.nsIn K mainGlobals "range" = some none)
    (nb_sum : PySem.W.nsIn K mainGlobals "sum" = some none)
    (nb_tuple : PySem.W.nsIn K mainGlobals "tuple" = some none)
    : Txt K mg where
  c_Sheet := c_Sheet
  m_Sheet := PySem.W.mg_of X G ac_Sheet
  c_InvalidSheet := c_InvalidSheet
  m_InvalidSheet := PySem.W.mg_of X G ac_InvalidSheet
  a_is_whole := a_is_whole
  fd_is_whole := PySem.W.fnOf "is_whole" "is_whole" (defArgs s_is_whole) (defBody s_is_whole) (defScope s_is_whole) .none kV_is_whole dc_is_whole pm_is_whole an_is_whole cd_is_whole ct_is_whole
  F_is_whole := fun_mk (st := s_is_whole) lf_is_whole cf_is_whole kf_is_whole
  b_is_whole := (fun_mk (st := s_is_whole) lf_is_whole cf_is_whole kf_is_whole).binds (ps := ["value", "low", "high"]) fun _ _ _ _ _ _ us hl => match us, hl with | [_, _, _], _ => rfl
  m_is_whole := PySem.W.mg_of X G af_is_whole
  a_is_column := a_is_column
  fd_is_column := PySem.W.fnOf "is_column" "is_column" (defArgs s_is_column) (defBody s_is_column) (defScope s_is_column) .none kV_is_column dc_is_column pm_is_column an_is_column cd_is_column ct_is_column
  F_is_column := fun_mk (st := s_is_column) lf_is_column cf_is_column kf_is_column
  b_is_column := (fun_mk (st := s_is_column) lf_is_column cf_is_column kf_is_column).binds (ps := ["base", "rows", "value"]) fun _ _ _ _ _ _ us hl => match us, hl with | [_, _, _], _ => rfl
  m_is_column := PySem.W.mg_of X G af_is_column
  a__are_columns := a__are_columns
  fd__are_columns := PySem.W.fnOf "_are_columns" "_are_columns" (defArgs s__are_columns) (defBody s__are_columns) (defScope s__are_columns) .none kV__are_columns dc__are_columns pm__are_columns an__are_columns cd__are_columns ct__are_columns
  F__are_columns := fun_mk (st := s__are_columns) lf__are_columns cf__are_columns kf__are_columns
  b__are_columns := (fun_mk (st := s__are_columns) lf__are_columns cf__are_columns kf__are_columns).binds (ps := ["base", "rows", "value"]) fun _ _ _ _ _ _ us hl => match us, hl with | [_, _, _], _ => rfl
  m__are_columns := PySem.W.mg_of X G af__are_columns
  a_is_base := a_is_base
  fd_is_base := PySem.W.fnOf "is_base" "is_base" (defArgs s_is_base) (defBody s_is_base) (defScope s_is_base) .none kV_is_base dc_is_base pm_is_base an_is_base cd_is_base ct_is_base
  F_is_base := fun_mk (st := s_is_base) lf_is_base cf_is_base kf_is_base
  b_is_base := (fun_mk (st := s_is_base) lf_is_base cf_is_base kf_is_base).binds (ps := ["value"]) fun _ _ _ _ _ _ us hl => match us, hl with | [_], _ => rfl
  m_is_base := PySem.W.mg_of X G af_is_base
  a_is_rows := a_is_rows
  fd_is_rows := PySem.W.fnOf "is_rows" "is_rows" (defArgs s_is_rows) (defBody s_is_rows) (defScope s_is_rows) .none kV_is_rows dc_is_rows pm_is_rows an_is_rows cd_is_rows ct_is_rows
  F_is_rows := fun_mk (st := s_is_rows) lf_is_rows cf_is_rows kf_is_rows
  b_is_rows := (fun_mk (st := s_is_rows) lf_is_rows cf_is_rows kf_is_rows).binds (ps := ["value"]) fun _ _ _ _ _ _ us hl => match us, hl with | [_], _ => rfl
  m_is_rows := PySem.W.mg_of X G af_is_rows
  a_Sheet___init__ := a_Sheet___init__
  fd_Sheet___init__ := PySem.W.fnOf "__init__" "Sheet.__init__" (defArgs s_Sheet___init__) (defBody s_Sheet___init__) (defScope s_Sheet___init__) .none kV_Sheet___init__ dc_Sheet___init__ pm_Sheet___init__ an_Sheet___init__ cd_Sheet___init__ ct_Sheet___init__
  F_Sheet___init__ := fun_mk (st := s_Sheet___init__) lf_Sheet___init__ cf_Sheet___init__ kf_Sheet___init__
  b_Sheet___init__ := (fun_mk (st := s_Sheet___init__) lf_Sheet___init__ cf_Sheet___init__ kf_Sheet___init__).binds (ps := ["self", "base", "rows", "columns"]) fun _ _ _ _ _ _ us hl => match us, hl with | [_, _, _, _], _ => rfl
  me_Sheet___init__ := ⟨af_Sheet___init__, if_Sheet___init__, kf_Sheet___init__⟩
  a_Sheet_columns := a_Sheet_columns
  fd_Sheet_columns := PySem.W.fnOf "columns" "Sheet.columns" (defArgs s_Sheet_columns) (defBody s_Sheet_columns) (defScope s_Sheet_columns) .none kV_Sheet_columns dc_Sheet_columns pm_Sheet_columns an_Sheet_columns cd_Sheet_columns ct_Sheet_columns
  F_Sheet_columns := fun_mk (st := s_Sheet_columns) lf_Sheet_columns cf_Sheet_columns kf_Sheet_columns
  b_Sheet_columns := (fun_mk (st := s_Sheet_columns) lf_Sheet_columns cf_Sheet_columns kf_Sheet_columns).binds (ps := ["self"]) fun _ _ _ _ _ _ us hl => match us, hl with | [_], _ => rfl
  pa_Sheet_columns := pa_Sheet_columns
  p_Sheet_columns := ⟨pf_Sheet_columns, pg_Sheet_columns, pt_Sheet_columns, ⟨_, pr_Sheet_columns⟩⟩
  a__law_is_integer := a__law_is_integer
  fd__law_is_integer := PySem.W.fnOf "_law_is_integer" "_law_is_integer" (defArgs s__law_is_integer) (defBody s__law_is_integer) (defScope s__law_is_integer) .none kV__law_is_integer dc__law_is_integer pm__law_is_integer an__law_is_integer cd__law_is_integer ct__law_is_integer
  F__law_is_integer := fun_mk (st := s__law_is_integer) lf__law_is_integer cf__law_is_integer kf__law_is_integer
  b__law_is_integer := (fun_mk (st := s__law_is_integer) lf__law_is_integer cf__law_is_integer kf__law_is_integer).binds (ps := ["found"]) fun _ _ _ _ _ _ us hl => match us, hl with | [_], _ => rfl
  m__law_is_integer := PySem.W.mg_of X G af__law_is_integer
  a__law_is_column := a__law_is_column
  fd__law_is_column := PySem.W.fnOf "_law_is_column" "_law_is_column" (defArgs s__law_is_column) (defBody s__law_is_column) (defScope s__law_is_column) .none kV__law_is_column dc__law_is_column pm__law_is_column an__law_is_column cd__law_is_column ct__law_is_column
  F__law_is_column := fun_mk (st := s__law_is_column) lf__law_is_column cf__law_is_column kf__law_is_column
  b__law_is_column := (fun_mk (st := s__law_is_column) lf__law_is_column cf__law_is_column kf__law_is_column).binds (ps := ["found", "due"]) fun _ _ _ _ _ _ us hl => match us, hl with | [_, _], _ => rfl
  m__law_is_column := PySem.W.mg_of X G af__law_is_column
  a__law_are_columns := a__law_are_columns
  fd__law_are_columns := PySem.W.fnOf "_law_are_columns" "_law_are_columns" (defArgs s__law_are_columns) (defBody s__law_are_columns) (defScope s__law_are_columns) .none kV__law_are_columns dc__law_are_columns pm__law_are_columns an__law_are_columns cd__law_are_columns ct__law_are_columns
  F__law_are_columns := fun_mk (st := s__law_are_columns) lf__law_are_columns cf__law_are_columns kf__law_are_columns
  b__law_are_columns := (fun_mk (st := s__law_are_columns) lf__law_are_columns cf__law_are_columns kf__law_are_columns).binds (ps := ["found", "due"]) fun _ _ _ _ _ _ us hl => match us, hl with | [_, _], _ => rfl
  m__law_are_columns := PySem.W.mg_of X G af__law_are_columns
  a__law_cells := a__law_cells
  fd__law_cells := PySem.W.fnOf "_law_cells" "_law_cells" (defArgs s__law_cells) (defBody s__law_cells) (defScope s__law_cells) .none kV__law_cells dc__law_cells pm__law_cells an__law_cells cd__law_cells ct__law_cells
  F__law_cells := fun_mk (st := s__law_cells) lf__law_cells cf__law_cells kf__law_cells
  b__law_cells := (fun_mk (st := s__law_cells) lf__law_cells cf__law_cells kf__law_cells).binds (ps := ["script"]) fun _ _ _ _ _ _ us hl => match us, hl with | [_], _ => rfl
  m__law_cells := PySem.W.mg_of X G af__law_cells
  a__law_draw := a__law_draw
  fd__law_draw := PySem.W.fnOf "_law_draw" "_law_draw" (defArgs s__law_draw) (defBody s__law_draw) (defScope s__law_draw) .none kV__law_draw dc__law_draw pm__law_draw an__law_draw cd__law_draw ct__law_draw
  F__law_draw := fun_mk (st := s__law_draw) lf__law_draw cf__law_draw kf__law_draw
  b__law_draw := (fun_mk (st := s__law_draw) lf__law_draw cf__law_draw kf__law_draw).binds (ps := ["deck", "many"]) fun _ _ _ _ _ _ us hl => match us, hl with | [_, _], _ => rfl
  m__law_draw := PySem.W.mg_of X G af__law_draw
  a__law_column := a__law_column
  fd__law_column := PySem.W.fnOf "_law_column" "_law_column" (defArgs s__law_column) (defBody s__law_column) (defScope s__law_column) .none kV__law_column dc__law_column pm__law_column an__law_column cd__law_column ct__law_column
  F__law_column := fun_mk (st := s__law_column) lf__law_column cf__law_column kf__law_column
  b__law_column := (fun_mk (st := s__law_column) lf__law_column cf__law_column kf__law_column).binds (ps := ["deck", "base", "rows"]) fun _ _ _ _ _ _ us hl => match us, hl with | [_, _, _], _ => rfl
  m__law_column := PySem.W.mg_of X G af__law_column
  a__law_columns := a__law_columns
  fd__law_columns := PySem.W.fnOf "_law_columns" "_law_columns" (defArgs s__law_columns) (defBody s__law_columns) (defScope s__law_columns) .none kV__law_columns dc__law_columns pm__law_columns an__law_columns cd__law_columns ct__law_columns
  F__law_columns := fun_mk (st := s__law_columns) lf__law_columns cf__law_columns kf__law_columns
  b__law_columns := (fun_mk (st := s__law_columns) lf__law_columns cf__law_columns kf__law_columns).binds (ps := ["deck", "base", "rows", "most"]) fun _ _ _ _ _ _ us hl => match us, hl with | [_, _, _, _], _ => rfl
  m__law_columns := PySem.W.mg_of X G af__law_columns
  a__law_deck := a__law_deck
  fd__law_deck := PySem.W.fnOf "_law_deck" "_law_deck" (defArgs s__law_deck) (defBody s__law_deck) (defScope s__law_deck) .none kV__law_deck dc__law_deck pm__law_deck an__law_deck cd__law_deck ct__law_deck
  F__law_deck := fun_mk (st := s__law_deck) lf__law_deck cf__law_deck kf__law_deck
  b__law_deck := (fun_mk (st := s__law_deck) lf__law_deck cf__law_deck kf__law_deck).binds (ps := ["cell"]) fun _ _ _ _ _ _ us hl => match us, hl with | [_], _ => rfl
  m__law_deck := PySem.W.mg_of X G af__law_deck
  a__law_order := a__law_order
  fd__law_order := PySem.W.fnOf "_law_order" "_law_order" (defArgs s__law_order) (defBody s__law_order) (defScope s__law_order) .none kV__law_order dc__law_order pm__law_order an__law_order cd__law_order ct__law_order
  F__law_order := fun_mk (st := s__law_order) lf__law_order cf__law_order kf__law_order
  b__law_order := (fun_mk (st := s__law_order) lf__law_order cf__law_order kf__law_order).binds (ps := ["one", "other"]) fun _ _ _ _ _ _ us hl => match us, hl with | [_, _], _ => rfl
  m__law_order := PySem.W.mg_of X G af__law_order
  a_Sheet__place := a_Sheet__place
  fd_Sheet__place := PySem.W.fnOf "_place" "Sheet._place" (defArgs s_Sheet__place) (defBody s_Sheet__place) (defScope s_Sheet__place) .none kV_Sheet__place dc_Sheet__place pm_Sheet__place an_Sheet__place cd_Sheet__place ct_Sheet__place
  F_Sheet__place := fun_mk (st := s_Sheet__place) lf_Sheet__place cf_Sheet__place kf_Sheet__place
  b_Sheet__place := (fun_mk (st := s_Sheet__place) lf_Sheet__place cf_Sheet__place kf_Sheet__place).binds (ps := ["self"]) fun _ _ _ _ _ _ us hl => match us, hl with | [_], _ => rfl
  me_Sheet__place := ⟨af_Sheet__place, if_Sheet__place, kf_Sheet__place⟩
  a_Sheet___eq__ := a_Sheet___eq__
  fd_Sheet___eq__ := PySem.W.fnOf "__eq__" "Sheet.__eq__" (defArgs s_Sheet___eq__) (defBody s_Sheet___eq__) (defScope s_Sheet___eq__) .none kV_Sheet___eq__ dc_Sheet___eq__ pm_Sheet___eq__ an_Sheet___eq__ cd_Sheet___eq__ ct_Sheet___eq__
  F_Sheet___eq__ := fun_mk (st := s_Sheet___eq__) lf_Sheet___eq__ cf_Sheet___eq__ kf_Sheet___eq__
  b_Sheet___eq__ := (fun_mk (st := s_Sheet___eq__) lf_Sheet___eq__ cf_Sheet___eq__ kf_Sheet___eq__).binds (ps := ["self", "other"]) fun _ _ _ _ _ _ us hl => match us, hl with | [_, _], _ => rfl
  me_Sheet___eq__ := ⟨af_Sheet___eq__, if_Sheet___eq__, kf_Sheet___eq__⟩
  a_place_value := a_place_value
  fd_place_value := PySem.W.fnOf "place_value" "place_value" (defArgs s_place_value) (defBody s_place_value) (defScope s_place_value) .none kV_place_value dc_place_value pm_place_value an_place_value cd_place_value ct_place_value
  F_place_value := fun_mk (st := s_place_value) lf_place_value cf_place_value kf_place_value
  b_place_value := (fun_mk (st := s_place_value) lf_place_value cf_place_value kf_place_value).binds (ps := ["base", "figures", "last"]) fun _ _ _ _ _ _ us hl => match us, hl with | [_, _, _], _ => rfl
  m_place_value := PySem.W.mg_of X G af_place_value
  a_Sheet_value := a_Sheet_value
  fd_Sheet_value := PySem.W.fnOf "value" "Sheet.value" (defArgs s_Sheet_value) (defBody s_Sheet_value) (defScope s_Sheet_value) .none kV_Sheet_value dc_Sheet_value pm_Sheet_value an_Sheet_value cd_Sheet_value ct_Sheet_value
  F_Sheet_value := fun_mk (st := s_Sheet_value) lf_Sheet_value cf_Sheet_value kf_Sheet_value
  b_Sheet_value := (fun_mk (st := s_Sheet_value) lf_Sheet_value cf_Sheet_value kf_Sheet_value).binds (ps := ["self"]) fun _ _ _ _ _ _ us hl => match us, hl with | [_], _ => rfl
  pa_Sheet_value := pa_Sheet_value
  p_Sheet_value := ⟨pf_Sheet_value, pg_Sheet_value, pt_Sheet_value, ⟨_, pr_Sheet_value⟩⟩
  a__law_strangers_right := a__law_strangers_right
  fd__law_strangers_right := PySem.W.fnOf "_law_strangers_right" "_law_strangers_right" (defArgs s__law_strangers_right) (defBody s__law_strangers_right) (defScope s__law_strangers_right) .none kV__law_strangers_right dc__law_strangers_right pm__law_strangers_right an__law_strangers_right cd__law_strangers_right ct__law_strangers_right
  F__law_strangers_right := fun_mk (st := s__law_strangers_right) lf__law_strangers_right cf__law_strangers_right kf__law_strangers_right
  b__law_strangers_right := (fun_mk (st := s__law_strangers_right) lf__law_strangers_right cf__law_strangers_right kf__law_strangers_right).binds (ps := ["deck", "sheet", "base", "rows", "columns"]) fun _ _ _ _ _ _ us hl => match us, hl with | [_, _, _, _, _], _ => rfl
  m__law_strangers_right := PySem.W.mg_of X G af__law_strangers_right
  a__law_turned := a__law_turned
  fd__law_turned := PySem.W.fnOf "_law_turned" "_law_turned" (defArgs s__law_turned) (defBody s__law_turned) (defScope s__law_turned) .none kV__law_turned dc__law_turned pm__law_turned an__law_turned cd__law_turned ct__law_turned
  F__law_turned := fun_mk (st := s__law_turned) lf__law_turned cf__law_turned kf__law_turned
  b__law_turned := (fun_mk (st := s__law_turned) lf__law_turned cf__law_turned kf__law_turned).binds (ps := ["deck", "columns", "base", "rows"]) fun _ _ _ _ _ _ us hl => match us, hl with | [_, _, _, _], _ => rfl
  m__law_turned := PySem.W.mg_of X G af__law_turned
  a_Sheet___ge__ := a_Sheet___ge__
  fd_Sheet___ge__ := PySem.W.fnOf "__ge__" "Sheet.__ge__" (defArgs s_Sheet___ge__) (defBody s_Sheet___ge__) (defScope s_Sheet___ge__) .none kV_Sheet___ge__ dc_Sheet___ge__ pm_Sheet___ge__ an_Sheet___ge__ cd_Sheet___ge__ ct_Sheet___ge__
  F_Sheet___ge__ := fun_mk (st := s_Sheet___ge__) lf_Sheet___ge__ cf_Sheet___ge__ kf_Sheet___ge__
  b_Sheet___ge__ := (fun_mk (st := s_Sheet___ge__) lf_Sheet___ge__ cf_Sheet___ge__ kf_Sheet___ge__).binds (ps := ["self", "other"]) fun _ _ _ _ _ _ us hl => match us, hl with | [_, _], _ => rfl
  me_Sheet___ge__ := ⟨af_Sheet___ge__, if_Sheet___ge__, kf_Sheet___ge__⟩
  a_Sheet___gt__ := a_Sheet___gt__
  fd_Sheet___gt__ := PySem.W.fnOf "__gt__" "Sheet.__gt__" (defArgs s_Sheet___gt__) (defBody s_Sheet___gt__) (defScope s_Sheet___gt__) .none kV_Sheet___gt__ dc_Sheet___gt__ pm_Sheet___gt__ an_Sheet___gt__ cd_Sheet___gt__ ct_Sheet___gt__
  F_Sheet___gt__ := fun_mk (st := s_Sheet___gt__) lf_Sheet___gt__ cf_Sheet___gt__ kf_Sheet___gt__
  b_Sheet___gt__ := (fun_mk (st := s_Sheet___gt__) lf_Sheet___gt__ cf_Sheet___gt__ kf_Sheet___gt__).binds (ps := ["self", "other"]) fun _ _ _ _ _ _ us hl => match us, hl with | [_, _], _ => rfl
  me_Sheet___gt__ := ⟨af_Sheet___gt__, if_Sheet___gt__, kf_Sheet___gt__⟩
  a_Sheet___le__ := a_Sheet___le__
  fd_Sheet___le__ := PySem.W.fnOf "__le__" "Sheet.__le__" (defArgs s_Sheet___le__) (defBody s_Sheet___le__) (defScope s_Sheet___le__) .none kV_Sheet___le__ dc_Sheet___le__ pm_Sheet___le__ an_Sheet___le__ cd_Sheet___le__ ct_Sheet___le__
  F_Sheet___le__ := fun_mk (st := s_Sheet___le__) lf_Sheet___le__ cf_Sheet___le__ kf_Sheet___le__
  b_Sheet___le__ := (fun_mk (st := s_Sheet___le__) lf_Sheet___le__ cf_Sheet___le__ kf_Sheet___le__).binds (ps := ["self", "other"]) fun _ _ _ _ _ _ us hl => match us, hl with | [_, _], _ => rfl
  me_Sheet___le__ := ⟨af_Sheet___le__, if_Sheet___le__, kf_Sheet___le__⟩
  a_Sheet___lt__ := a_Sheet___lt__
  fd_Sheet___lt__ := PySem.W.fnOf "__lt__" "Sheet.__lt__" (defArgs s_Sheet___lt__) (defBody s_Sheet___lt__) (defScope s_Sheet___lt__) .none kV_Sheet___lt__ dc_Sheet___lt__ pm_Sheet___lt__ an_Sheet___lt__ cd_Sheet___lt__ ct_Sheet___lt__
  F_Sheet___lt__ := fun_mk (st := s_Sheet___lt__) lf_Sheet___lt__ cf_Sheet___lt__ kf_Sheet___lt__
  b_Sheet___lt__ := (fun_mk (st := s_Sheet___lt__) lf_Sheet___lt__ cf_Sheet___lt__ kf_Sheet___lt__).binds (ps := ["self", "other"]) fun _ _ _ _ _ _ us hl => match us, hl with | [_, _], _ => rfl
  me_Sheet___lt__ := ⟨af_Sheet___lt__, if_Sheet___lt__, kf_Sheet___lt__⟩
  a__law_two_right := a__law_two_right
  fd__law_two_right := PySem.W.fnOf "_law_two_right" "_law_two_right" (defArgs s__law_two_right) (defBody s__law_two_right) (defScope s__law_two_right) .none kV__law_two_right dc__law_two_right pm__law_two_right an__law_two_right cd__law_two_right ct__law_two_right
  F__law_two_right := fun_mk (st := s__law_two_right) lf__law_two_right cf__law_two_right kf__law_two_right
  b__law_two_right := (fun_mk (st := s__law_two_right) lf__law_two_right cf__law_two_right kf__law_two_right).binds (ps := ["one", "other", "due"]) fun _ _ _ _ _ _ us hl => match us, hl with | [_, _, _], _ => rfl
  m__law_two_right := PySem.W.mg_of X G af__law_two_right
  a_law := a_law
  fd_law := PySem.W.fnOf "law" "law" (defArgs s_law) (defBody s_law) (defScope s_law) .none kV_law dc_law pm_law an_law cd_law ct_law
  F_law := fun_mk (st := s_law) lf_law cf_law kf_law
  b_law := (fun_mk (st := s_law) lf_law cf_law kf_law).binds (ps := ["script"]) fun _ _ _ _ _ _ us hl => match us, hl with | [_], _ => rfl
  m_law := PySem.W.mg_of X G af_law
  cl_Sheet := ⟨pg_Sheet, hd_Sheet, po_Sheet, sa_Sheet⟩
  k_Sheet := ⟨mk_Sheet, af_Sheet___init__, if_Sheet___init__, kc_Sheet⟩
  na_Sheet__base := na_Sheet__base
  na_Sheet__columns := na_Sheet__columns
  na_Sheet__rows := na_Sheet__rows
  ic_Sheet := ⟨ic1_Sheet, icn, ict, ic4_Sheet⟩
  io_Sheet := io_Sheet
  do_Sheet := dataOut nf_Sheet_NoneType nf_Sheet_bool nf_Sheet_int nf_Sheet_str nf_Sheet_list nf_Sheet_tuple nf_Sheet_dict ki_Sheet_NoneType ki_Sheet_bool ki_Sheet_int ki_Sheet_str ki_Sheet_list ki_Sheet_tuple ki_Sheet_dict
  x_InvalidSheet := x_InvalidSheet
  xk_InvalidSheet := xk_InvalidSheet
  xb_InvalidSheet := xb_InvalidSheet
  xt_InvalidSheet := xt_InvalidSheet
  n_all := PySem.W.mg_none_of X G nb_all
  n_bool := PySem.W.mg_none_of X G nb_bool
  n_int := PySem.W.mg_none_of X G nb_int
  n_isinstance := PySem.W.mg_none_of X G nb_isinstance
  n_len := PySem.W.mg_none_of X G nb_len
  n_list := PySem.W.mg_none_of X G nb_list
  n_range := PySem.W.mg_none_of X G nb_range
  n_sum := PySem.W.mg_none_of X G nb_sum
  n_tuple := PySem.W.mg_none_of X G nb_tuple
theorem fin {P : Program} {w : World} {K : PySem.W.Frag} {h : Heap} {mg : Str → Option Value} {fa : Addr} (X : K.In h) (G : h.Ns mainGlobals mg) (hfa : mg "law" = some (.ref fa)) {c_Sheet : Addr} {c_InvalidSheet : Addr} {a_is_whole : Addr} {oc_is_whole kV_is_whole dc_is_whole pm_is_whole cd_is_whole ct_is_whole : Value} {od_is_whole an_is_whole : Option Addr} {sl_is_whole : Array (Option Value)} {a_is_column : Addr} {oc_is_column kV_is_column dc_is_column pm_is_column cd_is_column ct_is_column : Value} {od_is_column an_is_column : Option Addr} {sl_is_column : Array (Option Value)} {a__are_columns : Addr} {oc__are_columns kV__are_columns dc__are_columns pm__are_columns cd__are_columns ct__are_columns : Value} {od__are_columns an__are_columns : Option Addr} {sl__are_columns : Array (Option Value)} {a_is_base : Addr} {oc_is_base kV_is_base dc_is_base pm_is_base cd_is_base ct_is_base : Value} {od_is_base an_is_base : Option Addr} {sl_is_base : Array (Option Value)} {a_is_rows : Addr} {oc_is_rows kV_is_rows dc_is_rows pm_is_rows cd_is_rows ct_is_rows : Value} {od_is_rows an_is_rows : Option Addr} {sl_is_rows : Array (Option Value)} {a_Sheet___init__ : Addr} {oc_Sheet___init__ kV_Sheet___init__ dc_Sheet___init__ pm_Sheet___init__ cd_Sheet___init__ ct_Sheet___init__ : Value} {od_Sheet___init__ an_Sheet___init__ : Option Addr} {sl_Sheet___init__ : Array (Option Value)} {a_Sheet_columns : Addr} {oc_Sheet_columns kV_Sheet_columns dc_Sheet_columns pm_Sheet_columns cd_Sheet_columns ct_Sheet_columns : Value} {od_Sheet_columns an_Sheet_columns : Option Addr} {sl_Sheet_columns : Array (Option Value)} {pa_Sheet_columns : Addr} {re_Sheet_columns : List Value} {a__law_is_integer : Addr} {oc__law_is_integer kV__law_is_integer dc__law_is_integer pm__law_is_integer cd__law_is_integer ct__law_is_integer : Value} {od__law_is_integer an__law_is_integer : Option Addr} {sl__law_is_integer : Array (Option Value)} {a__law_is_column : Addr} {oc__law_is_column kV__law_is_column dc__law_is_column pm__law_is_column cd__law_is_column ct__law_is_column : Value} {od__law_is_column an__law_is_column : Option Addr} {sl__law_is_column : Array (Option Value)} {a__law_are_columns : Addr} {oc__law_are_columns kV__law_are_columns dc__law_are_columns pm__law_are_columns cd__law_are_columns ct__law_are_columns : Value} {od__law_are_columns an__law_are_columns : Option Addr} {sl__law_are_columns : Array (Option Value)} {a__law_cells : Addr} {oc__law_cells kV__law_cells dc__law_cells pm__law_cells cd__law_cells ct__law_cells : Value} {od__law_cells an__law_cells : Option Addr} {sl__law_cells : Array (Option Value)} {a__law_draw : Addr} {oc__law_draw kV__law_draw dc__law_draw pm__law_draw cd__law_draw ct__law_draw : Value} {od__law_draw an__law_draw : Option Addr} {sl__law_draw : Array (Option Value)} {a__law_column : Addr} {oc__law_column kV__law_column dc__law_column pm__law_column cd__law_column ct__law_column : Value} {od__law_column an__law_column : Option Addr} {sl__law_column : Array (Option Value)} {a__law_columns : Addr} {oc__law_columns kV__law_columns dc__law_columns pm__law_columns cd__law_columns ct__law_columns : Value} {od__law_columns an__law_columns : Option Addr} {sl__law_columns : Array (Option Value)} {a__law_deck : Addr} {oc__law_deck kV__law_deck dc__law_deck pm__law_deck cd__law_deck ct__law_deck : Value} {od__law_deck an__law_deck : Option Addr} {sl__law_deck : Array (Option Value)} {a__law_order : Addr} {oc__law_order kV__law_order dc__law_order pm__law_order cd__law_order ct__law_order : Value} {od__law_order an__law_order : Option Addr} {sl__law_order : Array (Option Value)} {a_Sheet__place : Addr} {oc_Sheet__place kV_Sheet__place dc_Sheet__place pm_Sheet__place cd_Sheet__place ct_Sheet__place : Value} {od_Sheet__place an_Sheet__place : Option Addr} {sl_Sheet__place : Array (Option Value)} {a_Sheet___eq__ : Addr} {oc_Sheet___eq__ kV_Sheet___eq__ dc_Sheet___eq__ pm_Sheet___eq__ cd_Sheet___eq__ ct_Sheet___eq__ : Value} {od_Sheet___eq__ an_Sheet___eq__ : Option Addr} {sl_Sheet___eq__ : Array (Option Value)} {a_place_value : Addr} {oc_place_value kV_place_value dc_place_value pm_place_value cd_place_value ct_place_value : Value} {od_place_value an_place_value : Option Addr} {sl_place_value : Array (Option Value)} {a_Sheet_value : Addr} {oc_Sheet_value kV_Sheet_value dc_Sheet_value pm_Sheet_value cd_Sheet_value ct_Sheet_value : Value} {od_Sheet_value an_Sheet_value : Option Addr} {sl_Sheet_value : Array (Option Value)} {pa_Sheet_value : Addr} {re_Sheet_value : List Value} {a__law_strangers_right : Addr} {oc__law_strangers_right kV__law_strangers_right dc__law_strangers_right pm__law_strangers_right cd__law_strangers_right ct__law_strangers_right : Value} {od__law_strangers_right an__law_strangers_right : Option Addr} {sl__law_strangers_right : Array (Option Value)} {a__law_turned : Addr} {oc__law_turned kV__law_turned dc__law_turned pm__law_turned cd__law_turned ct__law_turned : Value} {od__law_turned an__law_turned : Option Addr} {sl__law_turned : Array (Option Value)} {a_Sheet___ge__ : Addr} {oc_Sheet___ge__ kV_Sheet___ge__ dc_Sheet___ge__ pm_Sheet___ge__ cd_Sheet___ge__ ct_Sheet___ge__ : Value} {od_Sheet___ge__ an_Sheet___ge__ : Option Addr} {sl_Sheet___ge__ : Array (Option Value)} {a_Sheet___gt__ : Addr} {oc_Sheet___gt__ kV_Sheet___gt__ dc_Sheet___gt__ pm_Sheet___gt__ cd_Sheet___gt__ ct_Sheet___gt__ : Value} {od_Sheet___gt__ an_Sheet___gt__ : Option Addr} {sl_Sheet___gt__ : Array (Option Value)} {a_Sheet___le__ : Addr} {oc_Sheet___le__ kV_Sheet___le__ dc_Sheet___le__ pm_Sheet___le__ cd_Sheet___le__ ct_Sheet___le__ : Value} {od_Sheet___le__ an_Sheet___le__ : Option Addr} {sl_Sheet___le__ : Array (Option Value)} {a_Sheet___lt__ : Addr} {oc_Sheet___lt__ kV_Sheet___lt__ dc_Sheet___lt__ pm_Sheet___lt__ cd_Sheet___lt__ ct_Sheet___lt__ : Value} {od_Sheet___lt__ an_Sheet___lt__ : Option Addr} {sl_Sheet___lt__ : Array (Option Value)} {a__law_two_right : Addr} {oc__law_two_right kV__law_two_right dc__law_two_right pm__law_two_right cd__law_two_right ct__law_two_right : Value} {od__law_two_right an__law_two_right : Option Addr} {sl__law_two_right : Array (Option Value)} {a_law : Addr} {oc_law kV_law dc_law pm_law cd_law ct_law : Value} {od_law an_law : Option Addr} {sl_law : Array (Option Value)}
    (ac_Sheet : PySem.W.nsIn K mainGlobals "Sheet" = some (some (.ref c_Sheet)))
    (ac_InvalidSheet : PySem.W.nsIn K mainGlobals "InvalidSheet" = some (some (.ref c_InvalidSheet)))
    (af_is_whole : PySem.W.nsIn K mainGlobals "is_whole" = some (some (.ref a_is_whole)))
    (lf_is_whole : K.lookup a_is_whole = some ⟨oc_is_whole, od_is_whole, .func (PySem.W.fnOf "is_whole" "is_whole" (defArgs s_is_whole) (defBody s_is_whole) (defScope s_is_whole) .none kV_is_whole dc_is_whole pm_is_whole an_is_whole cd_is_whole ct_is_whole), sl_is_whole⟩)
    (cf_is_whole : PySem.W.codeIn K cd_is_whole "is_whole" = true)
    (kf_is_whole : PySem.W.keepIn K (.ref a_is_whole) = true)
    (af_is_column : PySem.W.nsIn K mainGlobals "is_column" = some (some (.ref a_is_column)))
    (lf_is_column : K.lookup a_is_column = some ⟨oc_is_column, od_is_column, .func (PySem.W.fnOf "is_column" "is_column" (defArgs s_is_column) (defBody s_is_column) (defScope s_is_column) .none kV_is_column dc_is_column pm_is_column an_is_column cd_is_column ct_is_column), sl_is_column⟩)
    (cf_is_column : PySem.W.codeIn K cd_is_column "is_column" = true)
    (kf_is_column : PySem.W.keepIn K (.ref a_is_column) = true)
    (af__are_columns : PySem.W.nsIn K mainGlobals "_are_columns" = some (some (.ref a__are_columns)))
    (lf__are_columns : K.lookup a__are_columns = some ⟨oc__are_columns, od__are_columns, .func (PySem.W.fnOf "_are_columns" "_are_columns" (defArgs s__are_columns) (defBody s__are_columns) (defScope s__are_columns) .none kV__are_columns dc__are_columns pm__are_columns an__are_columns cd__are_columns ct__are_columns), sl__are_columns⟩)
    (cf__are_columns : PySem.W.codeIn K cd__are_columns "_are_columns" = true)
    (kf__are_columns : PySem.W.keepIn K (.ref a__are_columns) = true)
    (af_is_base : PySem.W.nsIn K mainGlobals "is_base" = some (some (.ref a_is_base)))
    (lf_is_base : K.lookup a_is_base = some ⟨oc_is_base, od_is_base, .func (PySem.W.fnOf "is_base" "is_base" (defArgs s_is_base) (defBody s_is_base) (defScope s_is_base) .none kV_is_base dc_is_base pm_is_base an_is_base cd_is_base ct_is_base), sl_is_base⟩)
    (cf_is_base : PySem.W.codeIn K cd_is_base "is_base" = true)
    (kf_is_base : PySem.W.keepIn K (.ref a_is_base) = true)
    (af_is_rows : PySem.W.nsIn K mainGlobals "is_rows" = some (some (.ref a_is_rows)))
    (lf_is_rows : K.lookup a_is_rows = some ⟨oc_is_rows, od_is_rows, .func (PySem.W.fnOf "is_rows" "is_rows" (defArgs s_is_rows) (defBody s_is_rows) (defScope s_is_rows) .none kV_is_rows dc_is_rows pm_is_rows an_is_rows cd_is_rows ct_is_rows), sl_is_rows⟩)
    (cf_is_rows : PySem.W.codeIn K cd_is_rows "is_rows" = true)
    (kf_is_rows : PySem.W.keepIn K (.ref a_is_rows) = true)
    (af_Sheet___init__ : PySem.W.findIn K (.ref c_Sheet) "__init__" = some (some (.ref a_Sheet___init__)))
    (if_Sheet___init__ : PySem.W.isFn K (.ref a_Sheet___init__) = true)
    (lf_Sheet___init__ : K.lookup a_Sheet___init__ = some ⟨oc_Sheet___init__, od_Sheet___init__, .func (PySem.W.fnOf "__init__" "Sheet.__init__" (defArgs s_Sheet___init__) (defBody s_Sheet___init__) (defScope s_Sheet___init__) .none kV_Sheet___init__ dc_Sheet___init__ pm_Sheet___init__ an_Sheet___init__ cd_Sheet___init__ ct_Sheet___init__), sl_Sheet___init__⟩)
    (cf_Sheet___init__ : PySem.W.codeIn K cd_Sheet___init__ "Sheet.__init__" = true)
    (kf_Sheet___init__ : PySem.W.keepIn K (.ref a_Sheet___init__) = true)
    (pf_Sheet_columns : PySem.W.findIn K (.ref c_Sheet) "columns" = some (some (.ref pa_Sheet_columns)))
    (pg_Sheet_columns : PySem.W.specialIn K (.ref pa_Sheet_columns) "__get__" = some (some (.builtin "property.__get__")))
    (pt_Sheet_columns : PySem.W.takesIn K (.ref pa_Sheet_columns) = some true)
    (pr_Sheet_columns : PySem.W.recIn K pa_Sheet_columns "property" = some (.ref a_Sheet_columns :: re_Sheet_columns))
    (lf_Sheet_columns : K.lookup a_Sheet_columns = some ⟨oc_Sheet_columns, od_Sheet_columns, .func (PySem.W.fnOf "columns" "Sheet.columns" (defArgs s_Sheet_columns) (defBody s_Sheet_columns) (defScope s_Sheet_columns) .none kV_Sheet_columns dc_Sheet_columns pm_Sheet_columns an_Sheet_columns cd_Sheet_columns ct_Sheet_columns), sl_Sheet_columns⟩)
    (cf_Sheet_columns : PySem.W.codeIn K cd_Sheet_columns "Sheet.columns" = true)
    (kf_Sheet_columns : PySem.W.keepIn K (.ref a_Sheet_columns) = true)
    (af__law_is_integer : PySem.W.nsIn K mainGlobals "_law_is_integer" = some (some (.ref a__law_is_integer)))
    (lf__law_is_integer : K.lookup a__law_is_integer = some ⟨oc__law_is_integer, od__law_is_integer, .func (PySem.W.fnOf "_law_is_integer" "_law_is_integer" (defArgs s__law_is_integer) (defBody s__law_is_integer) (defScope s__law_is_integer) .none kV__law_is_integer dc__law_is_integer pm__law_is_integer an__law_is_integer cd__law_is_integer ct__law_is_integer), sl__law_is_integer⟩)
    (cf__law_is_integer : PySem.W.codeIn K cd__law_is_integer "_law_is_integer" = true)
    (kf__law_is_integer : PySem.W.keepIn K (.ref a__law_is_integer) = true)
    (af__law_is_column : PySem.W.nsIn K mainGlobals "_law_is_column" = some (some (.ref a__law_is_column)))
    (lf__law_is_column : K.lookup a__law_is_column = some ⟨oc__law_is_column, od__law_is_column, .func (PySem.W.fnOf "_law_is_column" "_law_is_column" (defArgs s__law_is_column) (defBody s__law_is_column) (defScope s__law_is_column) .none kV__law_is_column dc__law_is_column pm__law_is_column an__law_is_column cd__law_is_column ct__law_is_column), sl__law_is_column⟩)
    (cf__law_is_column : PySem.W.codeIn K cd__law_is_column "_law_is_column" = true)
    (kf__law_is_column : PySem.W.keepIn K (.ref a__law_is_column) = true)
    (af__law_are_columns : PySem.W.nsIn K mainGlobals "_law_are_columns" = some (some (.ref a__law_are_columns)))
    (lf__law_are_columns : K.lookup a__law_are_columns = some ⟨oc__law_are_columns, od__law_are_columns, .func (PySem.W.fnOf "_law_are_columns" "_law_are_columns" (defArgs s__law_are_columns) (defBody s__law_are_columns) (defScope s__law_are_columns) .none kV__law_are_columns dc__law_are_columns pm__law_are_columns an__law_are_columns cd__law_are_columns ct__law_are_columns), sl__law_are_columns⟩)
    (cf__law_are_columns : PySem.W.codeIn K cd__law_are_columns "_law_are_columns" = true)
    (kf__law_are_columns : PySem.W.keepIn K (.ref a__law_are_columns) = true)
    (af__law_cells : PySem.W.nsIn K mainGlobals "_law_cells" = some (some (.ref a__law_cells)))
    (lf__law_cells : K.lookup a__law_cells = some ⟨oc__law_cells, od__law_cells, .func (PySem.W.fnOf "_law_cells" "_law_cells" (defArgs s__law_cells) (defBody s__law_cells) (defScope s__law_cells) .none kV__law_cells dc__law_cells pm__law_cells an__law_cells cd__law_cells ct__law_cells), sl__law_cells⟩)
    (cf__law_cells : PySem.W.codeIn K cd__law_cells "_law_cells" = true)
    (kf__law_cells : PySem.W.keepIn K (.ref a__law_cells) = true)
    (af__law_draw : PySem.W.nsIn K mainGlobals "_law_draw" = some (some (.ref a__law_draw)))
    (lf__law_draw : K.lookup a__law_draw = some ⟨oc__law_draw, od__law_draw, .func (PySem.W.fnOf "_law_draw" "_law_draw" (defArgs s__law_draw) (defBody s__law_draw) (defScope s__law_draw) .none kV__law_draw dc__law_draw pm__law_draw an__law_draw cd__law_draw ct__law_draw), sl__law_draw⟩)
    (cf__law_draw : PySem.W.codeIn K cd__law_draw "_law_draw" = true)
    (kf__law_draw : PySem.W.keepIn K (.ref a__law_draw) = true)
    (af__law_column : PySem.W.nsIn K mainGlobals "_law_column" = some (some (.ref a__law_column)))
    (lf__law_column : K.lookup a__law_column = some ⟨oc__law_column, od__law_column, .func (PySem.W.fnOf "_law_column" "_law_column" (defArgs s__law_column) (defBody s__law_column) (defScope s__law_column) .none kV__law_column dc__law_column pm__law_column an__law_column cd__law_column ct__law_column), sl__law_column⟩)
    (cf__law_column : PySem.W.codeIn K cd__law_column "_law_column" = true)
    (kf__law_column : PySem.W.keepIn K (.ref a__law_column) = true)
    (af__law_columns : PySem.W.nsIn K mainGlobals "_law_columns" = some (some (.ref a__law_columns)))
    (lf__law_columns : K.lookup a__law_columns = some ⟨oc__law_columns, od__law_columns, .func (PySem.W.fnOf "_law_columns" "_law_columns" (defArgs s__law_columns) (defBody s__law_columns) (defScope s__law_columns) .none kV__law_columns dc__law_columns pm__law_columns an__law_columns cd__law_columns ct__law_columns), sl__law_columns⟩)
    (cf__law_columns : PySem.W.codeIn K cd__law_columns "_law_columns" = true)
    (kf__law_columns : PySem.W.keepIn K (.ref a__law_columns) = true)
    (af__law_deck : PySem.W.nsIn K mainGlobals "_law_deck" = some (some (.ref a__law_deck)))
    (lf__law_deck : K.lookup a__law_deck = some ⟨oc__law_deck, od__law_deck, .func (PySem.W.fnOf "_law_deck" "_law_deck" (defArgs s__law_deck) (defBody s__law_deck) (defScope s__law_deck) .none kV__law_deck dc__law_deck pm__law_deck an__law_deck cd__law_deck ct__law_deck), sl__law_deck⟩)
    (cf__law_deck : PySem.W.codeIn K cd__law_deck "_law_deck" = true)
    (kf__law_deck : PySem.W.keepIn K (.ref a__law_deck) = true)
    (af__law_order : PySem.W.nsIn K mainGlobals "_law_order" = some (some (.ref a__law_order)))
    (lf__law_order : K.lookup a__law_order = some ⟨oc__law_order, od__law_order, .func (PySem.W.fnOf "_law_order" "_law_order" (defArgs s__law_order) (defBody s__law_order) (defScope s__law_order) .none kV__law_order dc__law_order pm__law_order an__law_order cd__law_order ct__law_order), sl__law_order⟩)
    (cf__law_order : PySem.W.codeIn K cd__law_order "_law_order" = true)
    (kf__law_order : PySem.W.keepIn K (.ref a__law_order) = true)
    (af_Sheet__place : PySem.W.findIn K (.ref c_Sheet) "_place" = some (some (.ref a_Sheet__place)))
    (if_Sheet__place : PySem.W.isFn K (.ref a_Sheet__place) = true)
    (lf_Sheet__place : K.lookup a_Sheet__place = some ⟨oc_Sheet__place, od_Sheet__place, .func (PySem.W.fnOf "_place" "Sheet._place" (defArgs s_Sheet__place) (defBody s_Sheet__place) (defScope s_Sheet__place) .none kV_Sheet__place dc_Sheet__place pm_Sheet__place an_Sheet__place cd_Sheet__place ct_Sheet__place), sl_Sheet__place⟩)
    (cf_Sheet__place : PySem.W.codeIn K cd_Sheet__place "Sheet._place" = true)
    (kf_Sheet__place : PySem.W.keepIn K (.ref a_Sheet__place) = true)
    (af_Sheet___eq__ : PySem.W.findIn K (.ref c_Sheet) "__eq__" = some (some (.ref a_Sheet___eq__)))
    (if_Sheet___eq__ : PySem.W.isFn K (.ref a_Sheet___eq__) = true)
    (lf_Sheet___eq__ : K.lookup a_Sheet___eq__ = some ⟨oc_Sheet___eq__, od_Sheet___eq__, .func (PySem.W.fnOf "__eq__" "Sheet.__eq__" (defArgs s_Sheet___eq__) (defBody s_Sheet___eq__) (defScope s_Sheet___eq__) .none kV_Sheet___eq__ dc_Sheet___eq__ pm_Sheet___eq__ an_Sheet___eq__ cd_Sheet___eq__ ct_Sheet___eq__), sl_Sheet___eq__⟩)
    (cf_Sheet___eq__ : PySem.W.codeIn K cd_Sheet___eq__ "Sheet.__eq__" = true)
    (kf_Sheet___eq__ : PySem.W.keepIn K (.ref a_Sheet___eq__) = true)
    (af_place_value : PySem.W.nsIn K mainGlobals "place_value" = some (some (.ref a_place_value)))
    (lf_place_value : K.lookup a_place_value = some ⟨oc_place_value, od_place_value, .func (PySem.W.fnOf "place_value" "place_value" (defArgs s_place_value) (defBody s_place_value) (defScope s_place_value) .none kV_place_value dc_place_value pm_place_value an_place_value cd_place_value ct_place_value), sl_place_value⟩)
    (cf_place_value : PySem.W.codeIn K cd_place_value "place_value" = true)
    (kf_place_value : PySem.W.keepIn K (.ref a_place_value) = true)
    (pf_Sheet_value : PySem.W.findIn K (.ref c_Sheet) "value" = some (some (.ref pa_Sheet_value)))
    (pg_Sheet_value : PySem.W.specialIn K (.ref pa_Sheet_value) "__get__" = some (some (.builtin "property.__get__")))
    (pt_Sheet_value : PySem.W.takesIn K (.ref pa_Sheet_value) = some true)
    (pr_Sheet_value : PySem.W.recIn K pa_Sheet_value "property" = some (.ref a_Sheet_value :: re_Sheet_value))
    (lf_Sheet_value : K.lookup a_Sheet_value = some ⟨oc_Sheet_value, od_Sheet_value, .func (PySem.W.fnOf "value" "Sheet.value" (defArgs s_Sheet_value) (defBody s_Sheet_value) (defScope s_Sheet_value) .none kV_Sheet_value dc_Sheet_value pm_Sheet_value an_Sheet_value cd_Sheet_value ct_Sheet_value), sl_Sheet_value⟩)
    (cf_Sheet_value : PySem.W.codeIn K cd_Sheet_value "Sheet.value" = true)
    (kf_Sheet_value : PySem.W.keepIn K (.ref a_Sheet_value) = true)
    (af__law_strangers_right : PySem.W.nsIn K mainGlobals "_law_strangers_right" = some (some (.ref a__law_strangers_right)))
    (lf__law_strangers_right : K.lookup a__law_strangers_right = some ⟨oc__law_strangers_right, od__law_strangers_right, .func (PySem.W.fnOf "_law_strangers_right" "_law_strangers_right" (defArgs s__law_strangers_right) (defBody s__law_strangers_right) (defScope s__law_strangers_right) .none kV__law_strangers_right dc__law_strangers_right pm__law_strangers_right an__law_strangers_right cd__law_strangers_right ct__law_strangers_right), sl__law_strangers_right⟩)
    (cf__law_strangers_right : PySem.W.codeIn K cd__law_strangers_right "_law_strangers_right" = true)
    (kf__law_strangers_right : PySem.W.keepIn K (.ref a__law_strangers_right) = true)
    (af__law_turned : PySem.W.nsIn K mainGlobals "_law_turned" = some (some (.ref a__law_turned)))
    (lf__law_turned : K.lookup a__law_turned = some ⟨oc__law_turned, od__law_turned, .func (PySem.W.fnOf "_law_turned" "_law_turned" (defArgs s__law_turned) (defBody s__law_turned) (defScope s__law_turned) .none kV__law_turned dc__law_turned pm__law_turned an__law_turned cd__law_turned ct__law_turned), sl__law_turned⟩)
    (cf__law_turned : PySem.W.codeIn K cd__law_turned "_law_turned" = true)
    (kf__law_turned : PySem.W.keepIn K (.ref a__law_turned) = true)
    (af_Sheet___ge__ : PySem.W.findIn K (.ref c_Sheet) "__ge__" = some (some (.ref a_Sheet___ge__)))
    (if_Sheet___ge__ : PySem.W.isFn K (.ref a_Sheet___ge__) = true)
    (lf_Sheet___ge__ : K.lookup a_Sheet___ge__ = some ⟨oc_Sheet___ge__, od_Sheet___ge__, .func (PySem.W.fnOf "__ge__" "Sheet.__ge__" (defArgs s_Sheet___ge__) (defBody s_Sheet___ge__) (defScope s_Sheet___ge__) .none kV_Sheet___ge__ dc_Sheet___ge__ pm_Sheet___ge__ an_Sheet___ge__ cd_Sheet___ge__ ct_Sheet___ge__), sl_Sheet___ge__⟩)
    (cf_Sheet___ge__ : PySem.W.codeIn K cd_Sheet___ge__ "Sheet.__ge__" = true)
    (kf_Sheet___ge__ : PySem.W.keepIn K (.ref a_Sheet___ge__) = true)
    (af_Sheet___gt__ : PySem.W.findIn K (.ref c_Sheet) "__gt__" = some (some (.ref a_Sheet___gt__)))
    (if_Sheet___gt__ : PySem.W.isFn K (.ref a_Sheet___gt__) = true)
    (lf_Sheet___gt__ : K.lookup a_Sheet___gt__ = some ⟨oc_Sheet___gt__, od_Sheet___gt__, .func (PySem.W.fnOf "__gt__" "Sheet.__gt__" (defArgs s_Sheet___gt__) (defBody s_Sheet___gt__) (defScope s_Sheet___gt__) .none kV_Sheet___gt__ dc_Sheet___gt__ pm_Sheet___gt__ an_Sheet___gt__ cd_Sheet___gt__ ct_Sheet___gt__), sl_Sheet___gt__⟩)
    (cf_Sheet___gt__ : PySem.W.codeIn K cd_Sheet___gt__ "Sheet.__gt__" = true)
    (kf_Sheet___gt__ : PySem.W.keepIn K (.ref a_Sheet___gt__) = true)
    (af_Sheet___le__ : PySem.W.findIn K (.ref c_Sheet) "__le__" = some (some (.ref a_Sheet___le__)))
    (if_Sheet___le__ : PySem.W.isFn K (.ref a_Sheet___le__) = true)
    (lf_Sheet___le__ : K.lookup a_Sheet___le__ = some ⟨oc_Sheet___le__, od_Sheet___le__, .func (PySem.W.fnOf "__le__" "Sheet.__le__" (defArgs s_Sheet___le__) (defBody s_Sheet___le__) (defScope s_Sheet___le__) .none kV_Sheet___le__ dc_Sheet___le__ pm_Sheet___le__ an_Sheet___le__ cd_Sheet___le__ ct_Sheet___le__), sl_Sheet___le__⟩)
    (cf_Sheet___le__ : PySem.W.codeIn K cd_Sheet___le__ "Sheet.__le__" = true)
    (kf_Sheet___le__ : PySem.W.keepIn K (.ref a_Sheet___le__) = true)
    (af_Sheet___lt__ : PySem.W.findIn K (.ref c_Sheet) "__lt__" = some (some (.ref a_Sheet___lt__)))
    (if_Sheet___lt__ : PySem.W.isFn K (.ref a_Sheet___lt__) = true)
    (lf_Sheet___lt__ : K.lookup a_Sheet___lt__ = some ⟨oc_Sheet___lt__, od_Sheet___lt__, .func (PySem.W.fnOf "__lt__" "Sheet.__lt__" (defArgs s_Sheet___lt__) (defBody s_Sheet___lt__) (defScope s_Sheet___lt__) .none kV_Sheet___lt__ dc_Sheet___lt__ pm_Sheet___lt__ an_Sheet___lt__ cd_Sheet___lt__ ct_Sheet___lt__), sl_Sheet___lt__⟩)
    (cf_Sheet___lt__ : PySem.W.codeIn K cd_Sheet___lt__ "Sheet.__lt__" = true)
    (kf_Sheet___lt__ : PySem.W.keepIn K (.ref a_Sheet___lt__) = true)
    (af__law_two_right : PySem.W.nsIn K mainGlobals "_law_two_right" = some (some (.ref a__law_two_right)))
    (lf__law_two_right : K.lookup a__law_two_right = some ⟨oc__law_two_right, od__law_two_right, .func (PySem.W.fnOf "_law_two_right" "_law_two_right" (defArgs s__law_two_right) (defBody s__law_two_right) (defScope s__law_two_right) .none kV__law_two_right dc__law_two_right pm__law_two_right an__law_two_right cd__law_two_right ct__law_two_right), sl__law_two_right⟩)
    (cf__law_two_right : PySem.W.codeIn K cd__law_two_right "_law_two_right" = true)
    (kf__law_two_right : PySem.W.keepIn K (.ref a__law_two_right) = true)
    (af_law : PySem.W.nsIn K mainGlobals "law" = some (some (.ref a_law)))
    (lf_law : K.lookup a_law = some ⟨oc_law, od_law, .func (PySem.W.fnOf "law" "law" (defArgs s_law) (defBody s_law) (defScope s_law) .none kV_law dc_law pm_law an_law cd_law ct_law), sl_law⟩)
    (cf_law : PySem.W.codeIn K cd_law "law" = true)
    (kf_law : PySem.W.keepIn K (.ref a_law) = true)
    (pg_Sheet : PySem.W.plainGet K c_Sheet Str.empty = true)
    (hd_Sheet : PySem.W.hasDictIn K c_Sheet = true)
    (po_Sheet : PySem.W.plainOver K c_Sheet = true)
    (sa_Sheet : PySem.W.findIn K (.ref c_Sheet) "__setattr__" = some (some (.builtin "object.__setattr__")))
    (mk_Sheet : PySem.W.makesIn K c_Sheet = true)
    (kc_Sheet : PySem.W.keepIn K (.ref c_Sheet) = true)
    (na_Sheet__base : PySem.W.findIn K (.ref c_Sheet) "_base" = some none)
    (na_Sheet__columns : PySem.W.findIn K (.ref c_Sheet) "_columns" = some none)
    (na_Sheet__rows : PySem.W.findIn K (.ref c_Sheet) "_rows" = some none)
    (ic1_Sheet : PySem.W.findIn K (.ref c_Sheet) "__class__" = some (some (.builtin "object.__class__")))
    (ic4_Sheet : PySem.W.mroIn K c_Sheet (.type "object") = some true)
    (icn : PySem.W.specialIn K (.builtin "object.__class__") "__get__" = some (some (.builtin "getset_descriptor.__get__")))
    (ict : PySem.W.takesIn K (.builtin "object.__class__") = some true)
    (io_Sheet : PySem.W.kitOne K (.ref c_Sheet) (.ref c_Sheet) = some true)
    (nf_Sheet_NoneType : PySem.W.notFirst K c_Sheet (.type "NoneType") = true)
    (nf_Sheet_bool : PySem.W.notFirst K c_Sheet (.type "bool") = true)
    (nf_Sheet_int : PySem.W.notFirst K c_Sheet (.type "int") = true)
    (nf_Sheet_str : PySem.W.notFirst K c_Sheet (.type "str") = true)
    (nf_Sheet_list : PySem.W.notFirst K c_Sheet (.type "list") = true)
    (nf_Sheet_tuple : PySem.W.notFirst K c_Sheet (.type "tuple") = true)
    (nf_Sheet_dict : PySem.W.notFirst K c_Sheet (.type "dict") = true)
    (ki_Sheet_NoneType : PySem.W.kitOne K (.type "NoneType") (.ref c_Sheet) = some false)
    (ki_Sheet_bool : PySem.W.kitOne K (.type "bool") (.ref c_Sheet) = some false)
    (ki_Sheet_int : PySem.W.kitOne K (.type "int") (.ref c_Sheet) = some false)
    (ki_Sheet_str : PySem.W.kitOne K (.type "str") (.ref c_Sheet) = some false)
    (ki_Sheet_list : PySem.W.kitOne K (.type "list") (.ref c_Sheet) = some false)
    (ki_Sheet_tuple : PySem.W.kitOne K (.type "tuple") (.ref c_Sheet) = some false)
    (ki_Sheet_dict : PySem.W.kitOne K (.type "dict") (.ref c_Sheet) = some false)
    (x_InvalidSheet : PySem.W.excIn K c_InvalidSheet [.type "ValueError", .type "Exception", .type "BaseException", .type "object"] "ValueError.__new__" = true)
    (xk_InvalidSheet : PySem.W.keepIn K (.ref c_InvalidSheet) = true)
    (xb_InvalidSheet : PySem.W.subIn K (.ref c_InvalidSheet) (.type "BaseException") = some true)
    (xt_InvalidSheet : PySem.W.typeIn K (.ref c_InvalidSheet) = some (.type "type"))
    (nb_all : PySem.W.nsIn K mainGlobals "all" = some none)
    (nb_bool : PySem.W.nsIn K mainGlobals "bool" = some none)
    (nb_int : PySem.W.nsIn K mainGlobals "int" = some none)
    (nb_isinstance : PySem.W.nsIn K mainGlobals "isinstance" = some none)
    (nb_len : PySem.W.nsIn K mainGlobals "len" = some none)
    (nb_list : PySem.W.nsIn K mainGlobals "list" = some none)
    (nb_range : PySem.W.nsIn K mainGlobals "range" = some none)
    (nb_sum : PySem.W.nsIn K mainGlobals "sum" = some none)
    (nb_tuple : PySem.W.nsIn K mainGlobals "tuple" = some none)
    : ∃ fd : FuncData, (∀ (s : Shared) (v : Value), BindsTo s fd ⟨[v], []⟩ [("script", v)]) ∧ ∀ base : Heap, K.In base → base.Ns mainGlobals mg → FnOk P w K mg base CX0 8 fa fd ["script"] (spLaw K) := by
  have e := hfa.symm.trans (PySem.W.mg_of X G af_law)
  cases e
  exact ⟨_, fun s v => .of_eq rfl, fun base _ _ => law_fin (ok_law (txt_mk X G ac_Sheet ac_InvalidSheet af_is_whole lf_is_whole cf_is_whole kf_is_whole af_is_column lf_is_column cf_is_column kf_is_column af__are_columns lf__are_columns cf__are_columns kf__are_columns af_is_base lf_is_base cf_is_base kf_is_base af_is_rows lf_is_rows cf_is_rows kf_is_rows af_Sheet___init__ if_Sheet___init__ lf_Sheet___init__ cf_Sheet___init__ kf_Sheet___init__ pf_Sheet_columns pg_Sheet_columns pt_Sheet_columns pr_Sheet_columns lf_Sheet_columns cf_Sheet_columns kf_Sheet_columns af__law_is_integer lf__law_is_integer cf__law_is_integer kf__law_is_integer af__law_is_column lf__law_is_column cf__law_is_column kf__law_is_column af__law_are_columns lf__law_are_columns cf__law_are_columns kf__law_are_columns af__law_cells lf__law_cells cf__law_cells kf__law_cells af__law_draw lf__law_draw cf__law_draw kf__law_draw af__law_column lf__law_column cf__law_column kf__law_column af__law_columns lf__law_columns cf__law_columns kf__law_columns af__law_deck lf__law_deck cf__law_deck kf__law_deck af__law_order lf__law_order cf__law_order kf__law_order af_Sheet__place if_Sheet__place lf_Sheet__place cf_Sheet__place kf_Sheet__place af_Sheet___eq__ if_Sheet___eq__ lf_Sheet___eq__ cf_Sheet___eq__ kf_Sheet___eq__ af_place_value lf_place_value cf_place_value kf_place_value pf_Sheet_value pg_Sheet_value pt_Sheet_value pr_Sheet_value lf_Sheet_value cf_Sheet_value kf_Sheet_value af__law_strangers_right lf__law_strangers_right cf__law_strangers_right kf__law_strangers_right af__law_turned lf__law_turned cf__law_turned kf__law_turned af_Sheet___ge__ if_Sheet___ge__ lf_Sheet___ge__ cf_Sheet___ge__ kf_Sheet___ge__ af_Sheet___gt__ if_Sheet___gt__ lf_Sheet___gt__ cf_Sheet___gt__ kf_Sheet___gt__ af_Sheet___le__ if_Sheet___le__ lf_Sheet___le__ cf_Sheet___le__ kf_Sheet___le__ af_Sheet___lt__ if_Sheet___lt__ lf_Sheet___lt__ cf_Sheet___lt__ kf_Sheet___lt__ af__law_two_right lf__law_two_right cf__law_two_right kf__law_two_right af_law lf_law cf_law kf_law pg_Sheet hd_Sheet po_Sheet sa_Sheet mk_Sheet kc_Sheet na_Sheet__base na_Sheet__columns na_Sheet__rows ic1_Sheet ic4_Sheet icn ict io_Sheet nf_Sheet_NoneType nf_Sheet_bool nf_Sheet_int nf_Sheet_str nf_Sheet_list nf_Sheet_tuple nf_Sheet_dict ki_Sheet_NoneType ki_Sheet_bool ki_Sheet_int ki_Sheet_str ki_Sheet_list ki_Sheet_tuple ki_Sheet_dict x_InvalidSheet xk_InvalidSheet xb_InvalidSheet xt_InvalidSheet nb_all nb_bool nb_int nb_isinstance nb_len nb_list nb_range nb_sum nb_tuple))⟩
theorem walk {l : PySem.W.OpenLaw} {q : Program} {loose : List Str} {XP : (Str → Option Value) → Heap → Prop} {YP : World → Heap → Prop} {d : DefRec} {K : Params → PySem.W.Frag} (hn : l.most = some 63) (hdf : d.params.defaults = [])
    (hY : ∀ (w : World) (h : Heap), YP w h → (K w.params).In h)
    (F : ∀ (w : World) (mg : Str → Option Value) (fa : Addr) (h : Heap), (K w.params).In h → h.Ns mainGlobals mg → mg d.name = some (.ref fa) →
      ∃ fd : FuncData, (∀ (s : Shared) (u : Value), BindsTo s fd ⟨[u], []⟩ [("script", u)]) ∧ ∀ base : Heap, (K w.params).In base → base.Ns mainGlobals mg → FnOk l.prog w (K w.params) mg base CX0 8 fa fd ["script"] (spLaw (K w.params))) :
    PySem.W.WalkO q loose XP YP l.row.toRowW d [] (fun f vs => PySem.call f vs) :=
  L2.walk_of (n := 63) (k := 8) (x := "script") (CX := fun _ => CX0) (sp := fun w => spLaw (K w.params)) hn (by decide) hdf ⟨rfl, by decide, by decide⟩ hY F (fun _ _ a ns hl _ hS => ⟨a, ns, rfl, hS, hl, fun _ => rfl⟩) fun _ _ _ _ _ z => z
end LW

open PySem PySem.W PyProof.Rows in
set_option maxRecDepth 100000 in
set_option maxHeartbeats 0 in
theorem PySem.Challenge.cw_sumslips_k05_sheets_in_order_holds : PySem.Challenge.rw_sumslips_k05_sheets_in_order.Holds := by
  w_on; o_law; k_head; (case hw => w_witness2)
  k_fill
  refine LW.walk (l := PySem.Challenge.rw_sumslips_k05_sheets_in_order) rfl rfl (fun w h Y => PySem.W.kIn_of Y) ?F
  case F =>
    intro w mg fa h KX G hmg
    refine' LW.fin KX G hmg ?ac_Sheet ?ac_InvalidSheet ?af_is_whole ?lf_is_whole ?cf_is_whole ?kf_is_whole ?af_is_column ?lf_is_column ?cf_is_column ?kf_is_column ?af__are_columns ?lf__are_columns ?cf__are_columns ?kf__are_columns ?af_is_base ?lf_is_base ?cf_is_base ?kf_is_base ?af_is_rows ?lf_is_rows ?cf_is_rows ?kf_is_rows ?af_Sheet___init__ ?if_Sheet___init__ ?lf_Sheet___init__ ?cf_Sheet___init__ ?kf_Sheet___init__ ?pf_Sheet_columns ?pg_Sheet_columns ?pt_Sheet_columns ?pr_Sheet_columns ?lf_Sheet_columns ?cf_Sheet_columns ?kf_Sheet_columns ?af__law_is_integer ?lf__law_is_integer ?cf__law_is_integer ?kf__law_is_integer ?af__law_is_column ?lf__law_is_column ?cf__law_is_column ?kf__law_is_column ?af__law_are_columns ?lf__law_are_columns ?cf__law_are_columns ?kf__law_are_columns ?af__law_cells ?lf__law_cells ?cf__law_cells ?kf__law_cells ?af__law_draw ?lf__law_draw ?cf__law_draw ?kf__law_draw ?af__law_column ?lf__law_column ?cf__law_column ?kf__law_column ?af__law_columns ?lf__law_columns ?cf__law_columns ?kf__law_columns ?af__law_deck ?lf__law_deck ?cf__law_deck ?kf__law_deck ?af__law_order ?lf__law_order ?cf__law_order ?kf__law_order ?af_Sheet__place ?if_Sheet__place ?lf_Sheet__place ?cf_Sheet__place ?kf_Sheet__place ?af_Sheet___eq__ ?if_Sheet___eq__ ?lf_Sheet___eq__ ?cf_Sheet___eq__ ?kf_Sheet___eq__ ?af_place_value ?lf_place_value ?cf_place_value ?kf_place_value ?pf_Sheet_value ?pg_Sheet_value ?pt_Sheet_value ?pr_Sheet_value ?lf_Sheet_value ?cf_Sheet_value ?kf_Sheet_value ?af__law_strangers_right ?lf__law_strangers_right ?cf__law_strangers_right ?kf__law_strangers_right ?af__law_turned ?lf__law_turned ?cf__law_turned ?kf__law_turned ?af_Sheet___ge__ ?if_Sheet___ge__ ?lf_Sheet___ge__ ?cf_Sheet___ge__ ?kf_Sheet___ge__ ?af_Sheet___gt__ ?if_Sheet___gt__ ?lf_Sheet___gt__ ?cf_Sheet___gt__ ?kf_Sheet___gt__ ?af_Sheet___le__ ?if_Sheet___le__ ?lf_Sheet___le__ ?cf_Sheet___le__ ?kf_Sheet___le__ ?af_Sheet___lt__ ?if_Sheet___lt__ ?lf_Sheet___lt__ ?cf_Sheet___lt__ ?kf_Sheet___lt__ ?af__law_two_right ?lf__law_two_right ?cf__law_two_right ?kf__law_two_right ?af_law ?lf_law ?cf_law ?kf_law ?pg_Sheet ?hd_Sheet ?po_Sheet ?sa_Sheet ?mk_Sheet ?kc_Sheet ?na_Sheet__base ?na_Sheet__columns ?na_Sheet__rows ?ic1_Sheet ?ic4_Sheet ?icn ?ict ?io_Sheet ?nf_Sheet_NoneType ?nf_Sheet_bool ?nf_Sheet_int ?nf_Sheet_str ?nf_Sheet_list ?nf_Sheet_tuple ?nf_Sheet_dict ?ki_Sheet_NoneType ?ki_Sheet_bool ?ki_Sheet_int ?ki_Sheet_str ?ki_Sheet_list ?ki_Sheet_tuple ?ki_Sheet_dict ?x_InvalidSheet ?xk_InvalidSheet ?xb_InvalidSheet ?xt_InvalidSheet ?nb_all ?nb_bool ?nb_int ?nb_isinstance ?nb_len ?nb_list ?nb_range ?nb_sum ?nb_tuple
    (case ac_Sheet => first | k_is | kit_is | kts_exm | k_exc | decide | rfl)
    (case ac_InvalidSheet => first | k_is | kit_is | kts_exm | k_exc | decide | rfl)
    (case af_is_whole => first | k_is | kit_is | kts_exm | k_exc | decide | rfl)
    (case lf_is_whole => first | k_is | kit_is | kts_exm | k_exc | decide | rfl)
    (case cf_is_whole => first | k_is | kit_is | kts_exm | k_exc | decide | rfl)
    (case kf_is_whole => first | k_is | kit_is | kts_exm | k_exc | decide | rfl)
    (case af_is_column => first | k_is | kit_is | kts_exm | k_exc | decide | rfl)
    (case lf_is_column => first | k_is | kit_is | kts_exm | k_exc | decide | rfl)
    (case cf_is_column => first | k_is | kit_is | kts_exm | k_exc | decide | rfl)
    (case kf_is_column => first | k_is | kit_is | kts_exm | k_exc | decide | rfl)
    (case af__are_columns => first | k_is | kit_is | kts_exm | k_exc | decide | rfl)
    (case lf__are_columns => first | k_is | kit_is | kts_exm | k_exc | decide | rfl)
    (case cf__are_columns => first | k_is | kit_is | kts_exm | k_exc | decide | rfl)
    (case kf__are_columns => first | k_is | kit_is | kts_exm | k_exc | decide | rfl)
    (case af_is_base => first | k_is | kit_is | kts_exm | k_exc | decide | rfl)
    (case lf_is_base => first | k_is | kit_is | kts_exm | k_exc | decide | rfl)
    (case cf_is_base => first | k_is | kit_is | kts_exm | k_exc | decide | rfl)
    (case kf_is_base => first | k_is | kit_is | kts_exm | k_exc | decide | rfl)
    (case af_is_rows => first | k_is | kit_is | kts_exm | k_exc | decide | rfl)
    (case lf_is_rows => first | k_is | kit_is | kts_exm | k_exc | decide | rfl)
    (case cf_is_rows => first | k_is | kit_is | kts_exm | k_exc | decide | rfl)
    (case kf_is_rows => first | k_is | kit_is | kts_exm | k_exc | decide | rfl)
    (case af_Sheet___init__ => first | k_is | kit_is | kts_exm | k_exc | decide | rfl)
    (case if_Sheet___init__ => first | k_is | kit_is | kts_exm | k_exc | decide | rfl)
    (case lf_Sheet___init__ => first | k_is | kit_is | kts_exm | k_exc | decide | rfl)
    (case cf_Sheet___init__ => first | k_is | kit_is | kts_exm | k_exc | decide | rfl)
    (case kf_Sheet___init__ => first | k_is | kit_is | kts_exm | k_exc | decide | rfl)
    (case pf_Sheet_columns => first | k_is | kit_is | kts_exm | k_exc | decide | rfl)
    (case pg_Sheet_columns => first | k_is | kit_is | kts_exm | k_exc | decide | rfl)
    (case pt_Sheet_columns => first | k_is | kit_is | kts_exm | k_exc | decide | rfl)
    (case pr_Sheet_columns => first | k_is | kit_is | kts_exm | k_exc | decide | rfl)
    (case lf_Sheet_columns => first | k_is | kit_is | kts_exm | k_exc | decide | rfl)
    (case cf_Sheet_columns => first | k_is | kit_is | kts_exm | k_exc | decide | rfl)
    (case kf_Sheet_columns => first | k_is | kit_is | kts_exm | k_exc | decide | rfl)
    (case af__law_is_integer => first | k_is | kit_is | kts_exm | k_exc | decide | rfl)
    (case lf__law_is_integer => first | k_is | kit_is | kts_exm | k_exc | decide | rfl)
    (case cf__law_is_integer => first | k_is | kit_is | kts_exm | k_exc | decide | rfl)
    (case kf__law_is_integer => first | k_is | kit_is | kts_exm | k_exc | decide | rfl)
    (case af__law_is_column => first | k_is | kit_is | kts_exm | k_exc | decide | rfl)
    (case lf__law_is_column => first | k_is | kit_is | kts_exm | k_exc | decide | rfl)
    (case cf__law_is_column => first | k_is | kit_is | kts_exm | k_exc | decide | rfl)
    (case kf__law_is_column => first | k_is | kit_is | kts_exm | k_exc | decide | rfl)
    (case af__law_are_columns => first | k_is | kit_is | kts_exm | k_exc | decide | rfl)
    (case lf__law_are_columns => first | k_is | kit_is | kts_exm | k_exc | decide | rfl)
    (case cf__law_are_columns => first | k_is | kit_is | kts_exm | k_exc | decide | rfl)
    (case kf__law_are_columns => first | k_is | kit_is | kts_exm | k_exc | decide | rfl)
    (case af__law_cells => first | k_is | kit_is | kts_exm | k_exc | decide | rfl)
    (case lf__law_cells => first | k_is | kit_is | kts_exm | k_exc | decide | rfl)
    (case cf__law_cells => first | k_is | kit_is | kts_exm | k_exc | decide | rfl)
    (case kf__law_cells => first | k_is | kit_is | kts_exm | k_exc | decide | rfl)
    (case af__law_draw => first | k_is | kit_is | kts_exm | k_exc | decide | rfl)
    (case lf__law_draw => first | k_is | kit_is | kts_exm | k_exc | decide | rfl)
    (case cf__law_draw => first | k_is | kit_is | kts_exm | k_exc | decide | rfl)
    (case kf__law_draw => first | k_is | kit_is | kts_exm | k_exc | decide | rfl)
    (case af__law_column => first | k_is | kit_is | kts_exm | k_exc | decide | rfl)
    (case lf__law_column => first | k_is | kit_is | kts_exm | k_exc | decide | rfl)
    (case cf__law_column => first | k_is | kit_is | kts_exm | k_exc | decide | rfl)
    (case kf__law_column => first | k_is | kit_is | kts_exm | k_exc | decide | rfl)
    (case af__law_columns => first | k_is | kit_is | kts_exm | k_exc | decide | rfl)
    (case lf__law_columns => first | k_is | kit_is | kts_exm | k_exc | decide | rfl)
    (case cf__law_columns => first | k_is | kit_is | kts_exm | k_exc | decide | rfl)
    (case kf__law_columns => first | k_is | kit_is | kts_exm | k_exc | decide | rfl)
    (case af__law_deck => first | k_is | kit_is | kts_exm | k_exc | decide | rfl)
    (case lf__law_deck => first | k_is | kit_is | kts_exm | k_exc | decide | rfl)
    (case cf__law_deck => first | k_is | kit_is | kts_exm | k_exc | decide | rfl)
    (case kf__law_deck => first | k_is | kit_is | kts_exm | k_exc | decide | rfl)
    (case af__law_order => first | k_is | kit_is | kts_exm | k_exc | decide | rfl)
    (case lf__law_order => first | k_is | kit_is | kts_exm | k_exc | decide | rfl)
    (case cf__law_order => first | k_is | kit_is | kts_exm | k_exc | decide | rfl)
    (case kf__law_order => first | k_is | kit_is | kts_exm | k_exc | decide | rfl)
    (case af_Sheet__place => first | k_is | kit_is | kts_exm | k_exc | decide | rfl)
    (case if_Sheet__place => first | k_is | kit_is | kts_exm | k_exc | decide | rfl)
    (case lf_Sheet__place => first | k_is | kit_is | kts_exm | k_exc | decide | rfl)
    (case cf_Sheet__place => first | k_is | kit_is | kts_exm | k_exc | decide | rfl)
    (case kf_Sheet__place => first | k_is | kit_is | kts_exm | k_exc | decide | rfl)
    (case af_Sheet___eq__ => first | k_is | kit_is | kts_exm | k_exc | decide | rfl)
    (case if_Sheet___eq__ => first | k_is | kit_is | kts_exm | k_exc | decide | rfl)
    (case lf_Sheet___eq__ => first | k_is | kit_is | kts_exm | k_exc | decide | rfl)
    (case cf_Sheet___eq__ => first | k_is | kit_is | kts_exm | k_exc | decide | rfl)
    (case kf_Sheet___eq__ => first | k_is | kit_is | kts_exm | k_exc | decide | rfl)
    (case af_place_value => first | k_is | kit_is | kts_exm | k_exc | decide | rfl)
    (case lf_place_value => first | k_is | kit_is | kts_exm | k_exc | decide | rfl)
    (case cf_place_value => first | k_is | kit_is | kts_exm | k_exc | decide | rfl)
    (case kf_place_value => first | k_is | kit_is | kts_exm | k_exc | decide | rfl)
    (case pf_Sheet_value => first | k_is | kit_is | kts_exm | k_exc | decide | rfl)
    (case pg_Sheet_value => first | k_is | kit_is | kts_exm | k_exc | decide | rfl)
    (case pt_Sheet_value => first | k_is | kit_is | kts_exm | k_exc | decide | rfl)
    (case pr_Sheet_value => first | k_is | kit_is | kts_exm | k_exc | decide | rfl)
    (case lf_Sheet_value => first | k_is | kit_is | kts_exm | k_exc | decide | rfl)
    (case cf_Sheet_value => first | k_is | kit_is | kts_exm | k_exc | decide | rfl)
    (case kf_Sheet_value => first | k_is | kit_is | kts_exm | k_exc | decide | rfl)
    (case af__law_strangers_right => first | k_is | kit_is | kts_exm | k_exc | decide | rfl)
    (case lf__law_strangers_right => first | k_is | kit_is | kts_exm | k_exc | decide | rfl)
    (case cf__law_strangers_right => first | k_is | kit_is | kts_exm | k_exc | decide | rfl)
    (case kf__law_strangers_right => first | k_is | kit_is | kts_exm | k_exc | decide | rfl)
    (case af__law_turned => first | k_is | kit_is | kts_exm | k_exc | decide | rfl)
    (case lf__law_turned => first | k_is | kit_is | kts_exm | k_exc | decide | rfl)
    (case cf__law_turned => first | k_is | kit_is | kts_exm | k_exc | decide | rfl)
    (case kf__law_turned => first | k_is | kit_is | kts_exm | k_exc | decide | rfl)
    (case af_Sheet___ge__ => first | k_is | kit_is | kts_exm | k_exc | decide | rfl)
    (case if_Sheet___ge__ => first | k_is | kit_is | kts_exm | k_exc | decide | rfl)
    (case lf_Sheet___ge__ => first | k_is | kit_is | kts_exm | k_exc | decide | rfl)
    (case cf_Sheet___ge__ => first | k_is | kit_is | kts_exm | k_exc | decide | rfl)
    (case kf_Sheet___ge__ => first | k_is | kit_is | kts_exm | k_exc | decide | rfl)
    (case af_Sheet___gt__ => first | k_is | kit_is | kts_exm | k_exc | decide | rfl)
    (case if_Sheet___gt__ => first | k_is | kit_is | kts_exm | k_exc | decide | rfl)
    (case lf_Sheet___gt__ => first | k_is | kit_is | kts_exm | k_exc | decide | rfl)
    (case cf_Sheet___gt__ => first | k_is | kit_is | kts_exm | k_exc | decide | rfl)
    (case kf_Sheet___gt__ => first | k_is | kit_is | kts_exm | k_exc | decide | rfl)
    (case af_Sheet___le__ => first | k_is | kit_is | kts_exm | k_exc | decide | rfl)
    (case if_Sheet___le__ => first | k_is | kit_is | kts_exm | k_exc | decide | rfl)
    (case lf_Sheet___le__ => first | k_is | kit_is | kts_exm | k_exc | decide | rfl)
    (case cf_Sheet___le__ => first | k_is | kit_is | kts_exm | k_exc | decide | rfl)
    (case kf_Sheet___le__ => first | k_is | kit_is | kts_exm | k_exc | decide | rfl)
    (case af_Sheet___lt__ => first | k_is | kit_is | kts_exm | k_exc | decide | rfl)
    (case if_Sheet___lt__ => first | k_is | kit_is | kts_exm | k_exc | decide | rfl)
    (case lf_Sheet___lt__ => first | k_is | kit_is | kts_exm | k_exc | decide | rfl)
    (case cf_Sheet___lt__ => first | k_is | kit_is | kts_exm | k_exc | decide | rfl)
    (case kf_Sheet___lt__ => first | k_is | kit_is | kts_exm | k_exc | decide | rfl)
    (case af__law_two_right => first | k_is | kit_is | kts_exm | k_exc | decide | rfl)
    (case lf__law_two_right => first | k_is | kit_is | kts_exm | k_exc | decide | rfl)
    (case cf__law_two_right => first | k_is | kit_is | kts_exm | k_exc | decide | rfl)
    (case kf__law_two_right => first | k_is | kit_is | kts_exm | k_exc | decide | rfl)
    (case af_law => first | k_is | kit_is | kts_exm | k_exc | decide | rfl)
    (case lf_law => first | k_is | kit_is | kts_exm | k_exc | decide | rfl)
    (case cf_law => first | k_is | kit_is | kts_exm | k_exc | decide | rfl)
    (case kf_law => first | k_is | kit_is | kts_exm | k_exc | decide | rfl)
    (case pg_Sheet => first | k_is | kit_is | kts_exm | k_exc | decide | rfl)
    (case hd_Sheet => first | k_is | kit_is | kts_exm | k_exc | decide | rfl)
    (case po_Sheet => first | k_is | kit_is | kts_exm | k_exc | decide | rfl)
    (case sa_Sheet => first | k_is | kit_is | kts_exm | k_exc | decide | rfl)
    (case mk_Sheet => first | k_is | kit_is | kts_exm | k_exc | decide | rfl)
    (case kc_Sheet => first | k_is | kit_is | kts_exm | k_exc | decide | rfl)
    (case na_Sheet__base => first | k_is | kit_is | kts_exm | k_exc | decide | rfl)
    (case na_Sheet__columns => first | k_is | kit_is | kts_exm | k_exc | decide | rfl)
    (case na_Sheet__rows => first | k_is | kit_is | kts_exm | k_exc | decide | rfl)
    (case ic1_Sheet => first | k_is | kit_is | kts_exm | k_exc | decide | rfl)
    (case ic4_Sheet => first | k_is | kit_is | kts_exm | k_exc | decide | rfl)
    (case icn => first | k_is | kit_is | kts_exm | k_exc | decide | rfl)
    (case ict => first | k_is | kit_is | kts_exm | k_exc | decide | rfl)
    (case io_Sheet => first | k_is | kit_is | kts_exm | k_exc | decide | rfl)
    (case nf_Sheet_NoneType => first | k_is | kit_is | kts_exm | k_exc | decide | rfl)
    (case nf_Sheet_bool => first | k_is | kit_is | kts_exm | k_exc | decide | rfl)
    (case nf_Sheet_int => first | k_is | kit_is | kts_exm | k_exc | decide | rfl)
    (case nf_Sheet_str => first | k_is | kit_is | kts_exm | k_exc | decide | rfl)
    (case nf_Sheet_list => first | k_is | kit_is | kts_exm | k_exc | decide | rfl)
    (case nf_Sheet_tuple => first | k_is | kit_is | kts_exm | k_exc | decide | rfl)
    (case nf_Sheet_dict => first | k_is | kit_is | kts_exm | k_exc | decide | rfl)
    (case ki_Sheet_NoneType => first | k_is | kit_is | kts_exm | k_exc | decide | rfl)
    (case ki_Sheet_bool => first | k_is | kit_is | kts_exm | k_exc | decide | rfl)
    (case ki_Sheet_int => first | k_is | kit_is | kts_exm | k_exc | decide | rfl)
    (case ki_Sheet_str => first | k_is | kit_is | kts_exm | k_exc | decide | rfl)
    (case ki_Sheet_list => first | k_is | kit_is | kts_exm | k_exc | decide | rfl)
    (case ki_Sheet_tuple => first | k_is | kit_is | kts_exm | k_exc | decide | rfl)
    (case ki_Sheet_dict => first | k_is | kit_is | kts_exm | k_exc | decide | rfl)
    (case x_InvalidSheet => first | k_is | kit_is | kts_exm | k_exc | decide | rfl)
    (case xk_InvalidSheet => first | k_is | kit_is | kts_exm | k_exc | decide | rfl)
    (case xb_InvalidSheet => first | k_is | kit_is | kts_exm | k_exc | decide | rfl)
    (case xt_InvalidSheet => first | k_is | kit_is | kts_exm | k_exc | decide | rfl)
    (case nb_all => first | k_is | kit_is | kts_exm | k_exc | decide | rfl)
    (case nb_bool => first | k_is | kit_is | kts_exm | k_exc | decide | rfl)
    (case nb_int => first | k_is | kit_is | kts_exm | k_exc | decide | rfl)
    (case nb_isinstance => first | k_is | kit_is | kts_exm | k_exc | decide | rfl)
    (case nb_len => first | k_is | kit_is | kts_exm | k_exc | decide | rfl)
    (case nb_list => first | k_is | kit_is | kts_exm | k_exc | decide | rfl)
    (case nb_range => first | k_is | kit_is | kts_exm | k_exc | decide | rfl)
    (case nb_sum => first | k_is | kit_is | kts_exm | k_exc | decide | rfl)
    (case nb_tuple => first | k_is | kit_is | kts_exm | k_exc | decide | rfl)
