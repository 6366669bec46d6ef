import PyProof.Rows.All
import Wide.All
import OpenK.AllK
import Wide.FinOn
import HandS.ForMost
import HandS.ForExc
import HandS.Style
import HandS.Property
import HandS.IsInst
import HandS.Wide
import HandS.ExcIs
import HandS.Star
import HandS.Deep
import HandS.TupAny
import KE.DataCmp
import KE.DatumOrd
import HandS.TupSets
import HandS.Zip
import HandS.Walk
import PySem.Challenge.RW_sumslips_k07_written_results
set_option Elab.async false
set_option linter.all false
set_option maxRecDepth 100000
/-! SXa: a symbolic heap: what is frozen (G), what is owned and may change (M), a frame (F). -/
namespace SX
open PySem PySem.Spec L2

def Ex (H H' : Hp) : Prop := ∀ a o, H a = some o → H' a = some o
theorem Ex.refl (H : Hp) : Ex H H := fun _ _ h => h
theorem Ex.trans {H H1 H2 : Hp} (a : Ex H H1) (b : Ex H1 H2) : Ex H H2 := fun x o h => b x o (a x o h)
theorem Ex.new {H : Hp} {p : Addr} {o : HO} (h : H p = none) : Ex H (upd H p o) := fun a u e => by
  rw [upd_ne (ne_of_none e h)]
  exact e
abbrev Mem := List (Addr × HO)
structure Me (G : Hp) (M : Mem) (H : Hp) : Prop where
  ex : Ex G H
  at_ : ∀ p ∈ M, H p.1 = some p.2 ∧ G p.1 = none
  nd : (M.map (·.1)).Nodup
section
variable {G G' H : Hp} {M M' F : Mem} {p q : Addr} {o o' : HO} {i : Nat}
theorem Me.get (m : Me G M H) (h : M[i]? = some (p, o)) : H p = some o := (m.at_ _ (List.mem_of_getElem? h)).1
theorem get_app (h : M[i]? = some (p, o)) : (M ++ F)[i]? = some (p, o) := by
  rw [List.getElem?_append_left (List.getElem?_eq_some_iff.mp h).1]
  exact h
theorem Me.getF (m : Me G (M ++ F) H) (h : M[i]? = some (p, o)) : H p = some o := m.get (get_app h)
theorem Me.free (m : Me G M H) (h : H p = none) : G p = none := by
  cases e : G p with
  | none => rfl
  | some u =>
    rw [m.ex p u e] at h
    cases h
theorem Me.notin (m : Me G M H) (h : H p = none) : p ∉ M.map (·.1) := fun z => by
  obtain ⟨x, hx, e⟩ := List.mem_map.mp z
  have := (m.at_ x hx).1
  rw [e, h] at this
  cases this
theorem Me.new (m : Me G M H) (h : H p = none) : Me G M (upd H p o) :=
  ⟨m.ex.trans (Ex.new h), fun x hx => ⟨by rw [upd_ne (ne_of_none (m.at_ x hx).1 h)]; exact (m.at_ x hx).1, (m.at_ x hx).2⟩, m.nd⟩
theorem Me.newF (m : Me G M H) (h : H p = none) : Me (upd G p o) M (upd H p o) :=
  ⟨fun a u e => by
    by_cases ha : a = p
    · subst ha
      rw [upd_same] at e ⊢
      exact e
    · rw [upd_ne ha] at e ⊢
      exact m.ex a u e, fun x hx => by
    have hne : x.1 ≠ p := ne_of_none (m.at_ x hx).1 h
    rw [upd_ne hne, upd_ne hne]
    exact m.at_ x hx, m.nd⟩
theorem Me.sub (m : Me G M H) (h : M'.Sublist M) : Me G M' H := ⟨m.ex, fun x hx => m.at_ x (h.subset hx), (m.nd.sublist (h.map _))⟩
theorem Me.perm (m : Me G M H) (h : M'.Perm M) : Me G M' H := ⟨m.ex, fun x hx => m.at_ x (h.mem_iff.mp hx), (h.map _).nodup_iff.mpr m.nd⟩
theorem Me.newM (m : Me G M H) (h : H p = none) : Me G ((p, o) :: M) (upd H p o) :=
  ⟨(m.new h).ex, fun x hx => by
    rcases List.mem_cons.mp hx with rfl | hx
    · exact ⟨upd_same, m.free h⟩
    · exact (m.new h).at_ x hx, List.nodup_cons.mpr ⟨m.notin h, m.nd⟩⟩
theorem Me.newMid (m : Me G (M ++ F) H) (h : H p = none) : Me G ((M ++ [(p, o)]) ++ F) (upd H p o) :=
  (m.newM h).perm (by rw [List.append_assoc]; exact List.perm_middle)
theorem Me.put (m : Me G M H) (h : M[i]? = some (p, o)) : Me G (M.set i (p, o')) (upd H p o') := by
  obtain ⟨hi, e⟩ := List.getElem?_eq_some_iff.mp h
  have hk : (M.set i (p, o')).map (·.1) = M.map (·.1) := by
    rw [List.map_set]
    apply List.ext_getElem?
    intro j
    rw [List.getElem?_set]
    split
    · rename_i hj
      subst hj
      rw [if_pos (by rw [List.length_map]; exact hi), List.getElem?_map, h]
      rfl
    · rfl
  have gp : G p = none := (m.at_ _ (List.mem_of_getElem? h)).2
  refine ⟨fun a u ea => ?_, fun x hx => ?_, by rw [hk]; exact m.nd⟩
  · rw [upd_ne (ne_of_none ea gp)]
    exact m.ex a u ea
  · obtain ⟨j, hj, ej⟩ := List.mem_iff_getElem.mp hx
    rw [List.length_set] at hj
    rw [List.getElem_set] at ej
    by_cases hij : i = j
    · rw [if_pos hij] at ej
      subst ej
      exact ⟨upd_same, gp⟩
    · rw [if_neg hij] at ej
      subst ej
      have hne : M[j].1 ≠ p := fun z => by
        have n := m.nd
        rw [List.nodup_iff_pairwise_ne] at n
        have := List.pairwise_iff_getElem.mp n
        rcases Nat.lt_or_gt_of_ne hij with l | l
        · have q := this i j (by rw [List.length_map]; exact hi) (by rw [List.length_map]; exact hj) l
          rw [List.getElem_map, List.getElem_map, e] at q
          exact q z.symm
        · have q := this j i (by rw [List.length_map]; exact hj) (by rw [List.length_map]; exact hi) l
          rw [List.getElem_map, List.getElem_map, e] at q
          exact q z
      rw [upd_ne hne]
      exact m.at_ _ (List.getElem_mem hj)
theorem set_app {x : Addr × HO} (h : i < M.length) : (M ++ F).set i x = M.set i x ++ F := by
  rw [List.set_append, if_pos h]
theorem Me.putF (m : Me G (M ++ F) H) (h : M[i]? = some (p, o)) : Me G (M.set i (p, o') ++ F) (upd H p o') := by
  rw [← set_app (List.getElem?_eq_some_iff.mp h).1]
  exact m.put (get_app h)
/-- what is owned is frozen -/
theorem Me.freeze (m : Me G ((p, o) :: M) H) : Me (upd G p o) M H ∧ Ex G (upd G p o) := by
  have gp := (m.at_ _ (List.mem_cons_self)).2
  have hp := (m.at_ _ (List.mem_cons_self)).1
  have nd := List.nodup_cons.mp m.nd
  refine ⟨⟨fun a u e => ?_, fun x hx => ?_, nd.2⟩, Ex.new gp⟩
  · by_cases ha : a = p
    · subst ha
      rw [upd_same] at e
      cases e
      exact hp
    · rw [upd_ne ha] at e
      exact m.ex a u e
  · refine ⟨(m.at_ x (List.mem_cons_of_mem _ hx)).1, ?_⟩
    have hne : x.1 ≠ p := fun z => nd.1 (List.mem_map.mpr ⟨x, hx, z⟩)
    rw [upd_ne hne]
    exact (m.at_ x (List.mem_cons_of_mem _ hx)).2
theorem Me.freezeMid (m : Me G (M ++ (p, o) :: F) H) : Me (upd G p o) (M ++ F) H ∧ Ex G (upd G p o) := (m.perm List.perm_middle.symm).freeze
theorem Me.freezeLast (m : Me G ((M ++ [(p, o)]) ++ F) H) : Me (upd G p o) (M ++ F) H ∧ Ex G (upd G p o) := by
  rw [List.append_assoc] at m
  exact m.freezeMid
theorem Me.dropLast (m : Me G ((M ++ M') ++ F) H) : Me G (M ++ F) H := m.sub (by
  rw [List.append_assoc]
  exact List.Sublist.append_left (List.sublist_append_right _ _) _)
end

/-! ### data -/
section
variable {K : PySem.W.Frag} {G G' H : Hp}
theorem ex_rd {a : Addr} {u : HO} (e : Ex G G') (h : Rd G a u) : Rd G' a u := by
  rcases h with h | ⟨o, h⟩
  · exact .inl (e a _ h)
  · exact .inr ⟨o, e a _ h⟩
theorem ex_l {a : Addr} {xs : List V} (e : Ex G G') (h : SqL K G a xs) : SqL K G' a xs := by
  rcases h with h | h
  · exact .inl (ex_rd e h)
  · exact .inr h
theorem ex_t {a : Addr} {xs : List V} (e : Ex G G') (h : SqT K G a xs) : SqT K G' a xs := by
  rcases h with h | h
  · exact .inl (ex_rd e h)
  · exact .inr h
mutual
theorem Dp.ex (e : Ex G G') : ∀ (d : PyData) (v : V), Dp K G v d → Dp K G' v d
  | .none, _, h => by cases h; exact .non
  | .bool b, _, h => by cases h; exact .bl b
  | .int i, _, h => by cases h; exact .int i
  | .str x, _, h => by cases h; exact .str x
  | .list ds, _, h => by
    cases h with
    | lst hs ha => exact .lst (ex_l e hs) (DpAll.ex e ds _ ha)
  | .tuple ds, _, h => by
    cases h with
    | tup hs ha => exact .tup (ex_t e hs) (DpAll.ex e ds _ ha)
  | .dict _, _, h => by cases h
theorem DpAll.ex (e : Ex G G') : ∀ (ds : List PyData) (vs : List V), DpAll K G vs ds → DpAll K G' vs ds
  | [], _, h => by cases h; exact .nil
  | d :: ds, _, h => by
    cases h with
    | cons h1 h2 => exact .cons (Dp.ex e d _ h1) (DpAll.ex e ds _ h2)
end
theorem dm {v : V} {d : PyData} (h : Dp K G v d) (e : Ex G G') : Dp K G' v d := Dp.ex e d v h
theorem dma {vs : List V} {ds : List PyData} (h : DpAll K G vs ds) (e : Ex G G') : DpAll K G' vs ds := DpAll.ex e ds vs h
theorem dpa_len : ∀ {vs : List V} {ds : List PyData}, DpAll K G vs ds → vs.length = ds.length
  | _, [], h => by cases h; rfl
  | _, d :: ds, h => by
    cases h with
    | cons _ h2 => simp [dpa_len h2]
theorem dpa_at : ∀ {vs : List V} {ds : List PyData} {i : Nat} {d : PyData}, DpAll K G vs ds → ds[i]? = some d → ∃ v, vs[i]? = some v ∧ Dp K G v d
  | _, [], _, _, _, e => by simp at e
  | _, d :: ds, 0, _, h, e => by
    cases h with
    | cons h1 _ => exact ⟨_, rfl, by have := Option.some.inj e; rw [← this]; exact h1⟩
  | _, d :: ds, i + 1, _, h, e => by
    cases h with
    | cons _ h2 => exact dpa_at (i := i) h2 e
theorem dpa_atV : ∀ {vs : List V} {ds : List PyData} {i : Nat} {v : V}, DpAll K G vs ds → vs[i]? = some v → ∃ d, ds[i]? = some d ∧ Dp K G v d
  | _, [], _, _, h, e => by cases h; simp at e
  | _, d :: ds, 0, _, h, e => by
    cases h with
    | cons h1 _ => exact ⟨_, rfl, by have := Option.some.inj e; rw [← this]; exact h1⟩
  | _, d :: ds, i + 1, _, h, e => by
    cases h with
    | cons _ h2 => exact dpa_atV (i := i) h2 e
theorem dpa_app : ∀ {vs ws : List V} {ds es : List PyData}, DpAll K G vs ds → DpAll K G ws es → DpAll K G (vs ++ ws) (ds ++ es)
  | _, _, [], _, h, h' => by cases h; exact h'
  | _, _, d :: ds, _, h, h' => by
    cases h with
    | cons h1 h2 => exact .cons h1 (dpa_app h2 h')
theorem dp_int {v : V} {n : Int} (h : Dp K G v (.int n)) : v = .int n := by cases h; rfl
theorem dp_bl {v : V} {n : Bool} (h : Dp K G v (.bool n)) : v = .bl n := by cases h; rfl
theorem dp_str {v : V} {n : Str} (h : Dp K G v (.str n)) : v = .str n := by cases h; rfl
theorem dp_non {v : V} (h : Dp K G v .none) : v = .non := by cases h; rfl
theorem dp_tup {v : V} {ds : List PyData} (h : Dp K G v (.tuple ds)) : ∃ a xs, v = .ref a ∧ SqT K G a xs ∧ DpAll K G xs ds := by
  cases h with
  | tup a b => exact ⟨_, _, rfl, a, b⟩
theorem dp_lst {v : V} {ds : List PyData} (h : Dp K G v (.list ds)) : ∃ a xs, v = .ref a ∧ SqL K G a xs ∧ DpAll K G xs ds := by
  cases h with
  | lst a b => exact ⟨_, _, rfl, a, b⟩
theorem dpAll_ints : ∀ {vs : List V} {ns : List Int}, DpAll K G vs (ns.map .int) → vs = ns.map V.int
  | _, [], h => by cases h; rfl
  | _, n :: ns, h => by
    cases h with
    | cons h1 h2 => rw [dp_int h1, dpAll_ints h2]; rfl
theorem ints_dpAll : ∀ (ns : List Int), DpAll K G (ns.map V.int) (ns.map .int)
  | [] => .nil
  | n :: ns => .cons (.int n) (ints_dpAll ns)
theorem dpAll_bls : ∀ {vs : List V} {ns : List Bool}, DpAll K G vs (ns.map .bool) → vs = ns.map V.bl
  | _, [], h => by cases h; rfl
  | _, n :: ns, h => by
    cases h with
    | cons h1 h2 => rw [dp_bl h1, dpAll_bls h2]; rfl
end
end SX

set_option Elab.async false
set_option linter.all false
set_option maxRecDepth 100000
/-! SXb: what an expression comes to, over the symbolic heap. -/
namespace SX
open PySem PySem.Spec L2

abbrev Post := Hp → V → Mem → Prop
abbrev isP (P : Hp → V → Prop) (M : Mem) : Post := fun G v M' => P G v ∧ M' = M
abbrev isV (x : V) (M : Mem) : Post := isP (fun _ v => v = x) M
abbrev isD (K : PySem.W.Frag) (d : PyData) (M : Mem) : Post := isP (fun G v => Dp K G v d) M
def Ev (te : TE) (σ : St) (G : Hp) (M : Mem) (R : Post) : Prop := ∀ G1 H F, Ex G G1 → Me G1 (M ++ F) H → ∀ Q : VK, (∀ v G2 M2 H2, Ex G1 G2 → Me G2 (M2 ++ F) H2 → R G2 v M2 → Q v H2) → te σ H Q
def EvT (tt : TT) (σ : St) (G : Hp) (M : Mem) (b : Bool) (M' : Mem) : Prop := ∀ G1 H F, Ex G G1 → Me G1 (M ++ F) H → ∀ Q : Bool → Hp → Prop, (∀ G2 H2, Ex G1 G2 → Me G2 (M' ++ F) H2 → Q b H2) → tt σ H Q
def AllP (G : Hp) : List (Hp → V → Prop) → List V → Prop
  | [], [] => True
  | P :: Ps, v :: vs => P G v ∧ AllP G Ps vs
  | _, _ => False
def EvA (ta : TA) (σ : St) (G : Hp) (M : Mem) (Ps : List (Hp → V → Prop)) (M' : Mem) : Prop := ∀ G1 H F, Ex G G1 → Me G1 (M ++ F) H → ∀ Q : List V → Hp → Prop, (∀ vs G2 H2, Ex G1 G2 → Me G2 (M' ++ F) H2 → AllP G2 Ps vs → Q vs H2) → ta σ H Q
class Mono (P : Hp → V → Prop) : Prop where
  mono : ∀ G G' v, Ex G G' → P G v → P G' v
instance {x : V} : Mono (fun _ v => v = x) := ⟨fun _ _ _ _ h => h⟩
instance {K : PySem.W.Frag} {d : PyData} : Mono (fun G v => Dp K G v d) := ⟨fun _ _ _ e h => dm h e⟩
/-- what stands at an address, whoever owns it -/
def At (G : Hp) (M : Mem) (a : Addr) (o : HO) : Prop := ∀ G1 H F, Ex G G1 → Me G1 (M ++ F) H → H a = some o
theorem At.G {G : Hp} {M : Mem} {a : Addr} {o : HO} (h : G a = some o) : At G M a o := fun _ _ _ e m => m.ex _ _ (e _ _ h)
theorem At.M {G : Hp} {M : Mem} {a : Addr} {o : HO} {i : Nat} (h : M[i]? = some (a, o)) : At G M a o := fun _ _ _ _ m => m.getF h
theorem At.ex {G G' : Hp} {M : Mem} {a : Addr} {o : HO} (h : At G M a o) (e : Ex G G') : At G' M a o := fun G1 H F e1 m => h G1 H F (e.trans e1) m
def AtL (K : PySem.W.Frag) (G : Hp) (M : Mem) (a : Addr) (xs : List V) : Prop := ∀ G1 H F, Ex G G1 → Me G1 (M ++ F) H → SqL K H a xs
def AtT (K : PySem.W.Frag) (G : Hp) (M : Mem) (a : Addr) (xs : List V) : Prop := ∀ G1 H F, Ex G G1 → Me G1 (M ++ F) H → SqT K H a xs
theorem AtL.of {K : PySem.W.Frag} {G : Hp} {M : Mem} {a : Addr} {xs : List V} (h : At G M a (.lst xs)) : AtL K G M a xs := fun _ _ _ e m => SqL.of (h _ _ _ e m)
theorem AtL.M {K : PySem.W.Frag} {G : Hp} {M : Mem} {a : Addr} {xs : List V} {i : Nat} (h : M[i]? = some (a, .lst xs)) : AtL K G M a xs := .of (.M h)
theorem AtL.G {K : PySem.W.Frag} {G : Hp} {M : Mem} {a : Addr} {xs : List V} (h : SqL K G a xs) : AtL K G M a xs := fun _ _ _ e m => ex_l m.ex (ex_l e h)
theorem AtT.G {K : PySem.W.Frag} {G : Hp} {M : Mem} {a : Addr} {xs : List V} (h : SqT K G a xs) : AtT K G M a xs := fun _ _ _ e m => ex_t m.ex (ex_t e h)
theorem AtL.ex {K : PySem.W.Frag} {G G' : Hp} {M : Mem} {a : Addr} {xs : List V} (h : AtL K G M a xs) (e : Ex G G') : AtL K G' M a xs := fun G1 H F e1 m => h G1 H F (e.trans e1) m

section
variable {K : PySem.W.Frag} {σ : St} {G G' H : Hp} {M M1 M2 M3 F : Mem} {R : Post} {ta tb tc te : TE} {tt tu : TT} {x y z : V} {d e : PyData} {a b c : Bool} {i j : Int} {P P1 P2 : Hp → V → Prop} {Ps : List (Hp → V → Prop)}
theorem Ev.mono (h : Ev te σ G M R) (e : Ex G G') : Ev te σ G' M R := fun G1 H F e1 m Q q => h G1 H F (e.trans e1) m Q q
theorem EvT.mono (h : EvT tt σ G M a M1) (e : Ex G G') : EvT tt σ G' M a M1 := fun G1 H F e1 m Q q => h G1 H F (e.trans e1) m Q q
theorem Ev.imp {R' : Post} (h : Ev te σ G M R) (f : ∀ G1 v M1, Ex G G1 → R G1 v M1 → R' G1 v M1) : Ev te σ G M R' := fun G1 H F e m Q q => h G1 H F e m Q fun v G2 M2 H2 e2 m2 r => q v G2 M2 H2 e2 m2 (f _ _ _ (e.trans e2) r)
theorem Ev.impP (h : Ev te σ G M (isP P M1)) (f : ∀ G1 v, Ex G G1 → P G1 v → P1 G1 v) : Ev te σ G M (isP P1 M1) := h.imp fun G1 v M2 e r => ⟨f _ _ e r.1, r.2⟩
theorem ev_var {k : Nat} (h : σ[k]? = some (some x)) : Ev (tVar k) σ G M (isV x M) := fun _ _ _ _ m _ q => ⟨x, h, q x _ _ _ (Ex.refl _) m ⟨rfl, rfl⟩⟩
theorem ev_varP {k : Nat} [Mono P] (h : σ[k]? = some (some x)) (hp : P G x) : Ev (tVar k) σ G M (isP P M) := fun _ _ _ e m _ q => ⟨x, h, q x _ _ _ (Ex.refl _) m ⟨Mono.mono _ _ _ e hp, rfl⟩⟩
theorem ev_c : Ev (tC x) σ G M (isV x M) := fun _ _ _ _ m _ q => q x _ _ _ (Ex.refl _) m ⟨rfl, rfl⟩
theorem Ev.toD (h : Ev te σ G M (isV x M1)) (hd : ∀ G, Dp K G x d) : Ev te σ G M (isD K d M1) := h.impP fun G1 v _ e => by
  rw [e]
  exact hd G1
theorem ev_dI (h : Ev te σ G M (isD K (.int i) M1)) : Ev te σ G M (isV (.int i) M1) := h.impP fun _ _ _ e => dp_int e
theorem ev_dB (h : Ev te σ G M (isD K (.bool a) M1)) : Ev te σ G M (isV (.bl a) M1) := h.impP fun _ _ _ e => dp_bl e
theorem ev_dS {s : Str} (h : Ev te σ G M (isD K (.str s) M1)) : Ev te σ G M (isV (.str s) M1) := h.impP fun _ _ _ e => dp_str e
theorem ev_iD (h : Ev te σ G M (isV (.int i) M1)) : Ev te σ G M (isD K (.int i) M1) := h.toD fun _ => .int i
theorem ev_bD (h : Ev te σ G M (isV (.bl a) M1)) : Ev te σ G M (isD K (.bool a) M1) := h.toD fun _ => .bl a
theorem ev_sD {s : Str} (h : Ev te σ G M (isV (.str s) M1)) : Ev te σ G M (isD K (.str s) M1) := h.toD fun _ => .str s
theorem ev_nD (h : Ev te σ G M (isV .non M1)) : Ev te σ G M (isD K .none M1) := h.toD fun _ => .non
/-- one value, then another, then an operation on both -/
theorem ev_op {r : R2} [Mono P1] (h1 : Ev ta σ G M (isP P1 M1)) (h2 : Ev tb σ G M1 (isP P2 M2))
    (hr : ∀ G1 H F x y, Ex G G1 → Me G1 (M2 ++ F) H → P1 G1 x → P2 G1 y → ∀ Q : VK, (∀ v G2 M3 H2, Ex G1 G2 → Me G2 (M3 ++ F) H2 → R G2 v M3 → Q v H2) → r x y H Q) : Ev (tOp r ta tb) σ G M R := fun G1 H F e m Q q =>
  h1 G1 H F e m _ fun x G2 M2' H2 e2 m2 r1 => by
    obtain ⟨p1, rfl⟩ := r1
    refine h2 G2 H2 F (e.trans e2) m2 _ fun y G3 M3' H3 e3 m3 r2 => ?_
    obtain ⟨p2, rfl⟩ := r2
    exact hr G3 H3 F x y ((e.trans e2).trans e3) m3 (Mono.mono _ _ _ e3 p1) p2 Q fun v G4 M4 H4 e4 m4 r4 => q v G4 M4 H4 ((e2.trans e3).trans e4) m4 r4
/-- an operation of two values that leaves the heap -/
theorem ev_opV {r : R2} (h1 : Ev ta σ G M (isV x M1)) (h2 : Ev tb σ G M1 (isV y M2)) (hr : ∀ H (Q : VK), Q z H → r x y H Q) : Ev (tOp r ta tb) σ G M (isV z M2) :=
  ev_op h1 h2 fun G1 H F x' y' e m p1 p2 Q q => by
    subst p1 p2
    exact hr H Q (q z G1 _ H (Ex.refl _) m ⟨rfl, rfl⟩)
theorem ev_I0 {g : Int → Int → V} (h1 : Ev ta σ G M (isV (.int i) M1)) (h2 : Ev tb σ G M1 (isV (.int j) M2)) : Ev (tOp (rI0 g) ta tb) σ G M (isV (g i j) M2) := ev_opV h1 h2 fun H Q q => ⟨i, j, rfl, rfl, q⟩
theorem ev_I {C : Int → Int → Prop} {g : Int → Int → V} (h1 : Ev ta σ G M (isV (.int i) M1)) (h2 : Ev tb σ G M1 (isV (.int j) M2)) (hc : C i j) : Ev (tOp (rI C g) ta tb) σ G M (isV (g i j) M2) := ev_opV h1 h2 fun H Q q => ⟨i, j, rfl, rfl, hc, q⟩
theorem ev_eqV (h1 : Ev ta σ G M (isV x M1)) (h2 : Ev tb σ G M1 (isV y M2)) (hs : scal x y = true) : Ev (tOp rEq ta tb) σ G M (isV (.bl (decide (x = y))) M2) := ev_opV h1 h2 fun H Q q => ⟨hs, q⟩
theorem ev_neV (h1 : Ev ta σ G M (isV x M1)) (h2 : Ev tb σ G M1 (isV y M2)) (hs : scal x y = true) : Ev (tOp rNe ta tb) σ G M (isV (.bl (!decide (x = y))) M2) := ev_opV h1 h2 fun H Q q => ⟨hs, q⟩
theorem ev_eqI (h1 : Ev ta σ G M (isV (.int i) M1)) (h2 : Ev tb σ G M1 (isV (.int j) M2)) : Ev (tOp rEq ta tb) σ G M (isV (.bl (decide (i = j))) M2) :=
  ev_opV h1 h2 fun H Q q => ⟨rfl, by rw [show decide (V.int i = V.int j) = decide (i = j) by rw [decide_eq_decide]; exact ⟨fun h => by cases h; rfl, fun h => by rw [h]⟩]; exact q⟩
theorem ev_neI (h1 : Ev ta σ G M (isV (.int i) M1)) (h2 : Ev tb σ G M1 (isV (.int j) M2)) : Ev (tOp rNe ta tb) σ G M (isV (.bl (!decide (i = j))) M2) :=
  ev_opV h1 h2 fun H Q q => ⟨rfl, by rw [show decide (V.int i = V.int j) = decide (i = j) by rw [decide_eq_decide]; exact ⟨fun h => by cases h; rfl, fun h => by rw [h]⟩]; exact q⟩
theorem ev_eqS {s t : Str} (h1 : Ev ta σ G M (isV (.str s) M1)) (h2 : Ev tb σ G M1 (isV (.str t) M2)) : Ev (tOp rEq ta tb) σ G M (isV (.bl (decide (s = t))) M2) :=
  ev_opV h1 h2 fun H Q q => ⟨rfl, by rw [show decide (V.str s = V.str t) = decide (s = t) by rw [decide_eq_decide]; exact ⟨fun h => by cases h; rfl, fun h => by rw [h]⟩]; exact q⟩
theorem ev_neS {s t : Str} (h1 : Ev ta σ G M (isV (.str s) M1)) (h2 : Ev tb σ G M1 (isV (.str t) M2)) : Ev (tOp rNe ta tb) σ G M (isV (.bl (!decide (s = t))) M2) :=
  ev_opV h1 h2 fun H Q q => ⟨rfl, by rw [show decide (V.str s = V.str t) = decide (s = t) by rw [decide_eq_decide]; exact ⟨fun h => by cases h; rfl, fun h => by rw [h]⟩]; exact q⟩
theorem ev_eqD (h1 : Ev ta σ G M (isD K d M1)) (h2 : Ev tb σ G M1 (isD K e M2)) (s1 : SeqAt.shaped d = true) (s2 : SeqAt.shaped e = true) : Ev (tOp (rEqD K) ta tb) σ G M (isV (.bl (PyData.eqv d e)) M2) :=
  ev_op h1 h2 fun G1 H F x' y' ex m p1 p2 Q q => ⟨d, e, dm p1 m.ex, dm p2 m.ex, s1, s2, q _ G1 _ H (Ex.refl _) m ⟨rfl, rfl⟩⟩
theorem ev_neD (h1 : Ev ta σ G M (isD K d M1)) (h2 : Ev tb σ G M1 (isD K e M2)) (s1 : SeqAt.shaped d = true) (s2 : SeqAt.shaped e = true) : Ev (tOp (rNeD K) ta tb) σ G M (isV (.bl (!PyData.eqv d e)) M2) :=
  ev_op h1 h2 fun G1 H F x' y' ex m p1 p2 Q q => ⟨d, e, dm p1 m.ex, dm p2 m.ex, s1, s2, q _ G1 _ H (Ex.refl _) m ⟨rfl, rfl⟩⟩
theorem ev_un {r : V → Hp → VK → Prop} (h1 : Ev ta σ G M (isV x M1)) (hr : ∀ H (Q : VK), Q z H → r x H Q) : Ev (tUn r ta) σ G M (isV z M1) := fun G1 H F e m Q q =>
  h1 G1 H F e m _ fun v G2 M2' H2 e2 m2 r1 => by
    obtain ⟨rfl, rfl⟩ := r1
    exact hr H2 Q (q z G2 _ H2 e2 m2 ⟨rfl, rfl⟩)
theorem ev_neg (h1 : Ev ta σ G M (isV (.int i) M1)) : Ev (tUn (rU fun i => .int (-i)) ta) σ G M (isV (.int (-i)) M1) := ev_un h1 fun H Q q => ⟨i, rfl, q⟩
/-! tests -/
theorem et_test (h : Ev te σ G M (isV (.bl a) M1)) : EvT (tTest te) σ G M a M1 := fun G1 H F e m Q q => h G1 H F e m _ fun v G2 M2 H2 e2 m2 r => by
  obtain ⟨rfl, rfl⟩ := r
  exact ⟨a, rfl, q G2 H2 e2 m2⟩
theorem et_B (h : Ev te σ G M (isV (.bl a) M1)) : EvT (tB te) σ G M a M1 := fun G1 H F e m Q q => h G1 H F e m _ fun v G2 M2 H2 e2 m2 r => by
  obtain ⟨rfl, rfl⟩ := r
  exact ⟨a, rfl, q G2 H2 e2 m2⟩
theorem et_not (h : EvT tt σ G M a M1) : EvT (tNot tt) σ G M (!a) M1 := fun G1 H F e m Q q => h G1 H F e m _ fun G2 H2 e2 m2 => q G2 H2 e2 m2
theorem et_and (h1 : EvT tt σ G M a M1) (h2 : a = true → EvT tu σ G M1 b M1) : EvT (tAnd tt tu) σ G M (a && b) M1 := fun G1 H F e m Q q => h1 G1 H F e m _ fun G2 H2 e2 m2 => by
  cases a with
  | true =>
    show (if true = true then _ else _)
    rw [if_pos rfl]
    exact h2 rfl G2 H2 F (e.trans e2) m2 Q fun G3 H3 e3 m3 => q G3 H3 (e2.trans e3) m3
  | false =>
    show (if false = true then _ else _)
    rw [if_neg Bool.false_ne_true]
    exact q G2 H2 e2 m2
theorem et_or (h1 : EvT tt σ G M a M1) (h2 : a = false → EvT tu σ G M1 b M1) : EvT (tOr tt tu) σ G M (a || b) M1 := fun G1 H F e m Q q => h1 G1 H F e m _ fun G2 H2 e2 m2 => by
  cases a with
  | true =>
    show (if true = true then _ else _)
    rw [if_pos rfl]
    exact q G2 H2 e2 m2
  | false =>
    show (if false = true then _ else _)
    rw [if_neg Bool.false_ne_true]
    exact h2 rfl G2 H2 F (e.trans e2) m2 Q fun G3 H3 e3 m3 => q G3 H3 (e2.trans e3) m3
theorem ev_andV (h1 : Ev ta σ G M (isV (.bl a) M1)) (h2 : a = true → Ev tb σ G M1 (isV (.bl b) M1)) : Ev (tAndV ta tb) σ G M (isV (.bl (a && b)) M1) := fun G1 H F e m Q q => h1 G1 H F e m _ fun v G2 M2 H2 e2 m2 r => by
  obtain ⟨rfl, rfl⟩ := r
  refine ⟨a, rfl, ?_⟩
  cases a with
  | true =>
    rw [if_pos rfl]
    exact h2 rfl G2 H2 F (e.trans e2) m2 Q fun v G3 M3 H3 e3 m3 r3 => q v G3 M3 H3 (e2.trans e3) m3 r3
  | false =>
    rw [if_neg Bool.false_ne_true]
    exact q _ G2 _ H2 e2 m2 ⟨rfl, rfl⟩
theorem ev_orV (h1 : Ev ta σ G M (isV (.bl a) M1)) (h2 : a = false → Ev tb σ G M1 (isV (.bl b) M1)) : Ev (tOrV ta tb) σ G M (isV (.bl (a || b)) M1) := fun G1 H F e m Q q => h1 G1 H F e m _ fun v G2 M2 H2 e2 m2 r => by
  obtain ⟨rfl, rfl⟩ := r
  refine ⟨a, rfl, ?_⟩
  cases a with
  | true =>
    rw [if_pos rfl]
    exact q _ G2 _ H2 e2 m2 ⟨rfl, rfl⟩
  | false =>
    rw [if_neg Bool.false_ne_true]
    exact h2 rfl G2 H2 F (e.trans e2) m2 Q fun v G3 M3 H3 e3 m3 r3 => q v G3 M3 H3 (e2.trans e3) m3 r3
theorem ev_notV (h1 : Ev ta σ G M (isV (.bl a) M1)) : Ev (tNotV ta) σ G M (isV (.bl (!a)) M1) := fun G1 H F e m Q q => h1 G1 H F e m _ fun v G2 M2 H2 e2 m2 r => by
  obtain ⟨rfl, rfl⟩ := r
  exact ⟨a, rfl, q _ G2 _ H2 e2 m2 ⟨rfl, rfl⟩⟩
theorem ev_isN (h : Ev ta σ G M (isV x M1)) : Ev (tIsN ta) σ G M (isV (.bl (decide (x = .non))) M1) := fun G1 H F e m Q q => h G1 H F e m _ fun v G2 M2 H2 e2 m2 r => by
  obtain ⟨rfl, rfl⟩ := r
  exact q _ G2 _ H2 e2 m2 ⟨rfl, rfl⟩
theorem ev_notN (h : Ev ta σ G M (isV x M1)) : Ev (tNotN ta) σ G M (isV (.bl (!decide (x = .non))) M1) := fun G1 H F e m Q q => h G1 H F e m _ fun v G2 M2 H2 e2 m2 r => by
  obtain ⟨rfl, rfl⟩ := r
  exact q _ G2 _ H2 e2 m2 ⟨rfl, rfl⟩
/-- a if t else b -/
theorem ev_if (h : EvT tt σ G M a M1) (h1 : a = true → Ev ta σ G M1 R) (h2 : a = false → Ev tb σ G M1 R) : Ev (tIf tt ta tb) σ G M R := fun G1 H F e m Q q => h G1 H F e m _ fun G2 H2 e2 m2 => by
  cases a with
  | true =>
    show (if true = true then _ else _)
    rw [if_pos rfl]
    exact h1 rfl G2 H2 F (e.trans e2) m2 Q fun v G3 M3 H3 e3 m3 r3 => q v G3 M3 H3 (e2.trans e3) m3 r3
  | false =>
    show (if false = true then _ else _)
    rw [if_neg Bool.false_ne_true]
    exact h2 rfl G2 H2 F (e.trans e2) m2 Q fun v G3 M3 H3 e3 m3 r3 => q v G3 M3 H3 (e2.trans e3) m3 r3
/-- i <= x <= j -/
theorem ev_chainI {r r' : R2} {P P' : Int → Int → Bool} {k : Int} (h1 : Ev ta σ G M (isV (.int i) M1)) (h2 : Ev tb σ G M1 (isV (.int j) M2)) (h3 : Ev tc σ G M2 (isV (.int k) M2))
    (hr : ∀ H (Q : VK), Q (.bl (P i j)) H → r (.int i) (.int j) H Q) (hr' : ∀ H (Q : VK), Q (.bl (P' j k)) H → r' (.int j) (.int k) H Q) : Ev (tChain r r' ta tb tc) σ G M (isV (.bl (P i j && P' j k)) M2) := fun G1 H F e m Q q =>
  h1 G1 H F e m _ fun v G2 M2' H2 e2 m2 r2 => by
    obtain ⟨rfl, rfl⟩ := r2
    refine h2 G2 H2 F (e.trans e2) m2 _ fun v G3 M3' H3 e3 m3 r3 => ?_
    obtain ⟨rfl, rfl⟩ := r3
    refine hr _ _ ⟨_, rfl, ?_⟩
    generalize P i j = pij at q ⊢
    cases pij with
    | true =>
      show (if true = true then _ else _)
      rw [if_pos rfl]
      refine h3 G3 H3 F ((e.trans e2).trans e3) m3 _ fun v G4 M4' H4 e4 m4 r4 => ?_
      obtain ⟨rfl, rfl⟩ := r4
      exact hr' _ _ (q _ G4 _ H4 ((e2.trans e3).trans e4) m4 ⟨by rw [Bool.true_and], rfl⟩)
    | false =>
      show (if false = true then _ else _)
      rw [if_neg Bool.false_ne_true]
      exact q _ G3 _ H3 (e2.trans e3) m3 ⟨by rw [Bool.false_and], rfl⟩
/-! arguments -/
theorem ea_nil : EvA tNil σ G M [] M := fun _ _ _ _ m _ q => q [] _ _ (Ex.refl _) m trivial
theorem ea_cons {tr : TA} [Mono P] (h1 : Ev ta σ G M (isP P M1)) (h2 : EvA tr σ G M1 Ps M2) : EvA (tCons ta tr) σ G M (P :: Ps) M2 := fun G1 H F e m Q q =>
  h1 G1 H F e m _ fun v G2 M2' H2 e2 m2 r => by
    obtain ⟨p, rfl⟩ := r
    exact h2 G2 H2 F (e.trans e2) m2 _ fun vs G3 H3 e3 m3 a => q (v :: vs) G3 H3 (e2.trans e3) m3 ⟨Mono.mono _ _ _ e3 p, a⟩
/-- data from arguments -/
theorem allD : ∀ {ds : List PyData} {vs : List V}, AllP G (ds.map fun d => fun G v => Dp K G v d) vs → DpAll K G vs ds
  | [], [], _ => .nil
  | [], _ :: _, h => h.elim
  | _ :: _, [], h => h.elim
  | _ :: _, _ :: _, h => .cons h.1 (allD h.2)
/-- a written tuple, a written list, of data -/
theorem ev_tup {t : TA} {ds : List PyData} (h : EvA t σ G M (ds.map fun d => fun G v => Dp K G v d) M1) (hl : ds.length ≤ 1000) : Ev (tTup t) σ G M (isD K (.tuple ds) M1) := fun G1 H F e m Q q =>
  h G1 H F e m _ fun vs G2 H2 e2 m2 a => ⟨by rw [dpa_len (allD (K := K) a)]; exact Nat.le_of_lt (small1000 hl), fun p hp => by
    have g2 := m2.free hp
    exact q _ _ _ _ (e2.trans (Ex.new g2)) (m2.newF hp) ⟨.tup (SqT.of upd_same) (dma (allD a) (Ex.new g2)), rfl⟩⟩
theorem ev_lst {t : TA} {ds : List PyData} (h : EvA t σ G M (ds.map fun d => fun G v => Dp K G v d) M1) (hl : ds.length ≤ 1000) : Ev (tLst t) σ G M (isD K (.list ds) M1) := fun G1 H F e m Q q =>
  h G1 H F e m _ fun vs G2 H2 e2 m2 a => ⟨by rw [dpa_len (allD (K := K) a)]; exact Nat.le_of_lt (small1000 hl), fun p hp => by
    have g2 := m2.free hp
    exact q _ _ _ _ (e2.trans (Ex.new g2)) (m2.newF hp) ⟨.lst (SqL.of upd_same) (dma (allD a) (Ex.new g2)), rfl⟩⟩
/-- a written list that is owned: it may change -/
theorem ev_lstM {t : TA} (h : EvA t σ G M Ps M1) (hl : ∀ G vs, AllP G Ps vs → vs.length ≤ 1000) : Ev (tLst t) σ G M (fun G v M' => ∃ p vs, v = .ref p ∧ M' = M1 ++ [(p, .lst vs)] ∧ AllP G Ps vs) := fun G1 H F e m Q q =>
  h G1 H F e m _ fun vs G2 H2 e2 m2 a => ⟨Nat.le_of_lt (small1000 (hl _ _ a)), fun p hp => q _ _ _ _ e2 (m2.newMid hp) ⟨p, vs, rfl, rfl, a⟩⟩
/-! subscripts -/
theorem ev_ixL {p : Addr} {xs : List V} (h1 : Ev ta σ G M (isV (.ref p) M1)) (h2 : Ev tb σ G M1 (isV (.int i) M2)) (hL : AtL K G M2 p xs) (hx : atI xs i = some x) : Ev (tOp (rIxL K) ta tb) σ G M (isV x M2) :=
  ev_op h1 h2 fun G1 H F x' y' e m p1 p2 Q q => by
    subst p1 p2
    exact ⟨p, xs, i, x, rfl, rfl, hL G1 H F e m, hx, q _ _ _ _ (Ex.refl _) m ⟨rfl, rfl⟩⟩
theorem ixN_lt {n : Nat} {i : Int} {k : Nat} (h : ixN n i = some k) : k < n := by
  unfold ixN at h
  split at h
  · split at h
    · cases h
      omega
    · cases h
  · split at h
    · cases h
      omega
    · cases h
theorem ev_ixDL {ds : List PyData} (h1 : Ev ta σ G M (isD K (.list ds) M1)) (h2 : Ev tb σ G M1 (isV (.int i) M2)) (hx : atI ds i = some d) : Ev (tOp (rIxL K) ta tb) σ G M (isD K d M2) :=
  ev_op h1 h2 fun G1 H F x' y' e m p1 p2 Q q => by
    subst p2
    obtain ⟨a, xs, rfl, hs, ha⟩ := dp_lst p1
    unfold atI at hx
    obtain ⟨k, hk, hd⟩ := Option.bind_eq_some_iff.mp hx
    obtain ⟨v, hv, dv⟩ := dpa_at ha hd
    exact ⟨a, xs, i, v, rfl, rfl, ex_l m.ex hs, by unfold atI; rw [dpa_len ha, hk]; exact hv, q _ _ _ _ (Ex.refl _) m ⟨dv, rfl⟩⟩
theorem ev_ixDT {ds : List PyData} (h1 : Ev ta σ G M (isD K (.tuple ds) M1)) (h2 : Ev tb σ G M1 (isV (.int i) M2)) (hx : atI ds i = some d) : Ev (tOp (rIxT K) ta tb) σ G M (isD K d M2) :=
  ev_op h1 h2 fun G1 H F x' y' e m p1 p2 Q q => by
    subst p2
    obtain ⟨a, xs, rfl, hs, ha⟩ := dp_tup p1
    unfold atI at hx
    obtain ⟨k, hk, hd⟩ := Option.bind_eq_some_iff.mp hx
    obtain ⟨v, hv, dv⟩ := dpa_at ha hd
    exact ⟨a, xs, i, v, rfl, rfl, ex_t m.ex hs, by unfold atI; rw [dpa_len ha, hk]; exact hv, q _ _ _ _ (Ex.refl _) m ⟨dv, rfl⟩⟩
/-! attributes -/
theorem ev_fld {p C dx : Addr} {fs : List (Str × V)} {f : Str} (h1 : Ev ta σ G M (isV (.ref p) M1)) (ha : At G M1 p (.ins C dx fs)) (hc : Cls K C) (hn : NoAttr K C f) (hl : fs.lookup f = some x) : Ev (tFld K ta f) σ G M (isV x M1) := fun G1 H F e m Q q =>
  h1 G1 H F e m _ fun v G2 M2' H2 e2 m2 r => by
    obtain ⟨rfl, rfl⟩ := r
    exact ⟨p, C, dx, fs, x, rfl, ha G2 H2 F (e.trans e2) m2, hc, hn, hl, q _ _ _ _ e2 m2 ⟨rfl, rfl⟩⟩
/-! calls -/
/-- a promise over the symbolic heap -/
def spec {α : Type} (pre : α → Hp → Mem → List V → Prop) (post : α → Mem → Post) : Sp := fun vs H Q _ => ∃ x G M F, Me G (M ++ F) H ∧ pre x G M vs ∧ ∀ v G' M' H', Ex G G' → Me G' (M' ++ F) H' → post x M G' v M' → Q v H'
theorem ev_call {α : Type} {pre : α → Hp → Mem → List V → Prop} {post : α → Mem → Post} {t : TA} {E : XK} (xx : α) (h : EvA t σ G M Ps M1) (hp : ∀ G1 vs, Ex G G1 → AllP G1 Ps vs → pre xx G1 M1 vs) : Ev (tCall (spec pre post) [] E t) σ G M (post xx M1) := fun G1 H F e m Q q =>
  h G1 H F e m _ fun vs G2 H2 e2 m2 a => ⟨xx, G2, M1, F, m2, by rw [List.append_nil]; exact hp G2 vs (e.trans e2) a, fun v G' M' H' e' m' r => q v G' M' H' (e2.trans e') m' r⟩
theorem ev_callR {α : Type} {pre : α → Hp → Mem → List V → Prop} {post : α → Mem → Post} {t : TA} {E : XK} (xx : α) (h : EvA t σ G M Ps M1) (hp : ∀ G1 vs, Ex G G1 → AllP G1 Ps vs → pre xx G1 M1 vs) (hq : ∀ G1 v M2, Ex G G1 → post xx M1 G1 v M2 → R G1 v M2) :
    Ev (tCall (spec pre post) [] E t) σ G M R := (ev_call xx h hp).imp hq
theorem ev_meth {α : Type} {pre : α → Hp → Mem → List V → Prop} {post : α → Mem → Post} {t : TA} {E : XK} {C p dx : Addr} {m : Str} {fs : List (Str × V)} (xx : α) (h1 : Ev ta σ G M (isV (.ref p) M1)) (ha : At G M1 p (.ins C dx fs)) (hl : fs.lookup m = none)
    (h : EvA t σ G M1 Ps M2) (hp : ∀ G1 vs, Ex G G1 → AllP G1 Ps vs → pre xx G1 M2 (.ref p :: vs)) : Ev (tMeth C m (spec pre post) [] E ta t) σ G M (post xx M2) := fun G1 H F e mm Q q =>
  h1 G1 H F e mm _ fun v G2 M2' H2 e2 m2 r => by
    obtain ⟨rfl, rfl⟩ := r
    refine ⟨p, dx, fs, rfl, ha G2 H2 F (e.trans e2) m2, hl, h G2 H2 F (e.trans e2) m2 _ fun vs G3 H3 e3 m3 a => ?_⟩
    exact ⟨xx, G3, M2, F, m3, by rw [List.append_nil]; exact hp G3 vs ((e.trans e2).trans e3) a, fun v G' M' H' e' m' r => q v G' M' H' ((e2.trans e3).trans e') m' r⟩
theorem ev_prop {α : Type} {pre : α → Hp → Mem → List V → Prop} {post : α → Mem → Post} {E : XK} {C p dx : Addr} {fs : List (Str × V)} (xx : α) (h1 : Ev ta σ G M (isV (.ref p) M1)) (ha : At G M1 p (.ins C dx fs))
    (hp : ∀ G1, Ex G G1 → pre xx G1 M1 [.ref p]) : Ev (tProp C (spec pre post) [] E ta) σ G M (post xx M1) := fun G1 H F e mm Q q =>
  h1 G1 H F e mm _ fun v G2 M2' H2 e2 m2 r => by
    obtain ⟨rfl, rfl⟩ := r
    exact ⟨p, dx, fs, rfl, ha G2 H2 F (e.trans e2) m2, xx, G2, M2', F, m2, hp G2 (e.trans e2), fun v G' M' H' e' m' r => q v G' M' H' (e2.trans e') m' r⟩
/-- a built-in by its values -/
theorem ev_CB {r : List V → Hp → VK → Prop} {t : TA} (h : EvA t σ G M Ps M1)
    (hr : ∀ G1 H F vs, Ex G G1 → Me G1 (M1 ++ F) H → AllP G1 Ps vs → ∀ Q : VK, (∀ v G2 M3 H2, Ex G1 G2 → Me G2 (M3 ++ F) H2 → R G2 v M3 → Q v H2) → r vs H Q) : Ev (tCB r t) σ G M R := fun G1 H F e m Q q =>
  h G1 H F e m _ fun vs G2 H2 e2 m2 a => hr G2 H2 F vs (e.trans e2) m2 a Q fun v G3 M3 H3 e3 m3 r3 => q v G3 M3 H3 (e2.trans e3) m3 r3
end
end SX

set_option Elab.async false
set_option linter.all false
set_option maxRecDepth 100000
/-! SXc: statements, loops, comprehensions, built-ins, over the symbolic heap. -/
namespace SX
open PySem PySem.Spec L2

/-- what is wanted: behind the statement, of a return, a break, a continue, an error -/
structure Po where
  nx : Hp → L2.St → Mem → Prop
  rt : Post
  bk : Hp → L2.St → Mem → Prop := fun _ _ _ => False
  ct : Hp → L2.St → Mem → Prop := fun _ _ _ => False
  ex : Value → Option Addr → Hp → Mem → Prop := fun _ _ _ _ => False
structure Has (E : XK) (D : Ends) (P : Po) (G1 : Hp) (F : Mem) : Prop where
  nx : ∀ σ2 G2 M2 H2, Ex G1 G2 → Me G2 (M2 ++ F) H2 → P.nx G2 σ2 M2 → D.nx σ2 H2
  rt : ∀ v G2 M2 H2, Ex G1 G2 → Me G2 (M2 ++ F) H2 → P.rt G2 v M2 → D.rt v H2
  bk : ∀ σ2 G2 M2 H2, Ex G1 G2 → Me G2 (M2 ++ F) H2 → P.bk G2 σ2 M2 → D.bk σ2 H2
  ct : ∀ σ2 G2 M2 H2, Ex G1 G2 → Me G2 (M2 ++ F) H2 → P.ct G2 σ2 M2 → D.ct σ2 H2
  ex : ∀ cls d G2 M2 H2, Ex G1 G2 → Me G2 (M2 ++ F) H2 → P.ex cls d G2 M2 → E cls d H2
def Sv (E : XK) (t : TS) (σ : L2.St) (G : Hp) (M : Mem) (P : Po) : Prop := ∀ G1 H F (D : Ends), Ex G G1 → Me G1 (M ++ F) H → Has E D P G1 F → t D σ H
theorem Has.up {E : XK} {D : Ends} {P : Po} {G1 G2 : Hp} {F : Mem} (h : Has E D P G1 F) (e : Ex G1 G2) : Has E D P G2 F :=
  ⟨fun a b c d e1 => h.nx a b c d (e.trans e1), fun a b c d e1 => h.rt a b c d (e.trans e1), fun a b c d e1 => h.bk a b c d (e.trans e1), fun a b c d e1 => h.ct a b c d (e.trans e1), fun a b c d f e1 => h.ex a b c d f (e.trans e1)⟩
section
variable {E : XK} {K : PySem.W.Frag} {σ : L2.St} {G G' H : Hp} {M M1 M2 M3 F : Mem} {R : Post} {P P' : Po} {te ta : TE} {tt : TT} {t u : TS} {x y z : V} {d : PyData} {a b : Bool} {i : Nat}
theorem Sv.mono (h : Sv E t σ G M P) (e : Ex G G') : Sv E t σ G' M P := fun G1 H F D e1 m hd => h G1 H F D (e.trans e1) m hd
theorem sv_set (h : Ev te σ G M R) (k : ∀ v G' M', Ex G G' → R G' v M' → P.nx G' (σ.set i (some v)) M') : Sv E (tAsg te (gName i)) σ G M P := fun G1 H F D e m hd =>
  h G1 H F e m _ fun v G2 M2 H2 e2 m2 r => hd.nx _ G2 M2 H2 e2 m2 (k v G2 M2 (e.trans e2) r)
theorem sv_drop (h : Ev te σ G M R) (k : ∀ v G' M', Ex G G' → R G' v M' → P.nx G' σ M') : Sv E (tDrop te) σ G M P := fun G1 H F D e m hd =>
  h G1 H F e m _ fun v G2 M2 H2 e2 m2 r => hd.nx _ G2 M2 H2 e2 m2 (k v G2 M2 (e.trans e2) r)
theorem sv_ret (h : Ev te σ G M R) (k : ∀ v G' M', Ex G G' → R G' v M' → P.rt G' v M') : Sv E (tRet te) σ G M P := fun G1 H F D e m hd =>
  h G1 H F e m _ fun v G2 M2 H2 e2 m2 r => hd.rt _ G2 M2 H2 e2 m2 (k v G2 M2 (e.trans e2) r)
theorem sv_retN (k : ∀ G', Ex G G' → P.rt G' .non M) : Sv E tRetN σ G M P := fun G1 H F D e m hd => hd.rt _ G1 M H (Ex.refl _) m (k G1 e)
theorem sv_next (k : ∀ G', Ex G G' → P.nx G' σ M) : Sv E tNext σ G M P := fun G1 H F D e m hd => hd.nx σ G1 M H (Ex.refl _) m (k G1 e)
theorem sv_brk (k : ∀ G', Ex G G' → P.bk G' σ M) : Sv E tBreak σ G M P := fun G1 H F D e m hd => hd.bk σ G1 M H (Ex.refl _) m (k G1 e)
theorem sv_cont (k : ∀ G', Ex G G' → P.ct G' σ M) : Sv E tCont σ G M P := fun G1 H F D e m hd => hd.ct σ G1 M H (Ex.refl _) m (k G1 e)
theorem sv_seq (h : Sv E t σ G M { P with nx := N }) (k : ∀ G' σ' M', Ex G G' → N G' σ' M' → Sv E u σ' G' M' P) : Sv E (tSeq t u) σ G M P := fun G1 H F D e m hd =>
  h G1 H F _ e m ⟨fun σ2 G2 M2 H2 e2 m2 n => k G2 σ2 M2 (e.trans e2) n G2 H2 F D (Ex.refl _) m2 (hd.up e2), hd.rt, hd.bk, hd.ct, hd.ex⟩
/-- x = e, then the rest -/
theorem sv_let (h : Ev te σ G M R) (k : ∀ v G' M', Ex G G' → R G' v M' → Sv E u (σ.set i (some v)) G' M' P) : Sv E (tSeq (tAsg te (gName i)) u) σ G M P := fun G1 H F D e m hd =>
  h G1 H F e m _ fun v G2 M2 H2 e2 m2 r => k v G2 M2 (e.trans e2) r G2 H2 F D (Ex.refl _) m2 (hd.up e2)
theorem sv_do (h : Ev te σ G M R) (k : ∀ v G' M', Ex G G' → R G' v M' → Sv E u σ G' M' P) : Sv E (tSeq (tDrop te) u) σ G M P := fun G1 H F D e m hd =>
  h G1 H F e m _ fun v G2 M2 H2 e2 m2 r => k v G2 M2 (e.trans e2) r G2 H2 F D (Ex.refl _) m2 (hd.up e2)
theorem sv_if (h : EvT tt σ G M a M1) (k1 : ∀ G', Ex G G' → a = true → Sv E t σ G' M1 P) (k2 : ∀ G', Ex G G' → a = false → Sv E u σ G' M1 P) : Sv E (tIfS tt t u) σ G M P := fun G1 H F D e m hd =>
  h G1 H F e m _ fun G2 H2 e2 m2 => by
    cases a with
    | true =>
      show (if true = true then _ else _)
      rw [if_pos rfl]
      exact k1 G2 (e.trans e2) rfl G2 H2 F D (Ex.refl _) m2 (hd.up e2)
    | false =>
      show (if false = true then _ else _)
      rw [if_neg Bool.false_ne_true]
      exact k2 G2 (e.trans e2) rfl G2 H2 F D (Ex.refl _) m2 (hd.up e2)
/-- if .. : leaves or not; then the rest -/
theorem sv_ifs {t' : TS} (h : EvT tt σ G M a M1) (k1 : ∀ G', Ex G G' → a = true → Sv E t σ G' M1 { P with nx := fun G2 σ2 M2 => Sv E u σ2 G2 M2 P }) (k2 : ∀ G', Ex G G' → a = false → Sv E t' σ G' M1 { P with nx := fun G2 σ2 M2 => Sv E u σ2 G2 M2 P }) :
    Sv E (tSeq (tIfS tt t t') u) σ G M P := sv_seq (sv_if h k1 k2) fun _ _ _ _ n => n
def tRaise (E : XK) (cls : Value) : TS := fun _ _ H => E cls none H
theorem sv_raise {cls : Value} (k : ∀ G', Ex G G' → P.ex cls none G' M) : Sv E (tRaise E cls) σ G M P := fun G1 H F D e m hd => hd.ex cls none G1 M H (Ex.refl _) m (k G1 e)
theorem Sv.imp (h : Sv E t σ G M P) (nx : ∀ G2 σ2 M2, Ex G G2 → P.nx G2 σ2 M2 → P'.nx G2 σ2 M2) (rt : ∀ G2 v M2, Ex G G2 → P.rt G2 v M2 → P'.rt G2 v M2) (bk : ∀ G2 σ2 M2, Ex G G2 → P.bk G2 σ2 M2 → P'.bk G2 σ2 M2) (ct : ∀ G2 σ2 M2, Ex G G2 → P.ct G2 σ2 M2 → P'.ct G2 σ2 M2)
    (ex : ∀ c d G2 M2, Ex G G2 → P.ex c d G2 M2 → P'.ex c d G2 M2) : Sv E t σ G M P' := fun G1 H F D e m hd => h G1 H F D e m ⟨fun _ _ _ _ e2 m2 n => hd.nx _ _ _ _ e2 m2 (nx _ _ _ (e.trans e2) n), fun _ _ _ _ e2 m2 n => hd.rt _ _ _ _ e2 m2 (rt _ _ _ (e.trans e2) n),
      fun _ _ _ _ e2 m2 n => hd.bk _ _ _ _ e2 m2 (bk _ _ _ (e.trans e2) n), fun _ _ _ _ e2 m2 n => hd.ct _ _ _ _ e2 m2 (ct _ _ _ (e.trans e2) n), fun _ _ _ _ _ e2 m2 n => hd.ex _ _ _ _ _ e2 m2 (ex _ _ _ _ (e.trans e2) n)⟩
/-- l[i] = e of an owned list -/
theorem sv_setIx {tx ti : TE} {l : Addr} {xs : List V} {k : Int} {j n : Nat} (h : Ev te σ G M (isV x M1)) (h1 : Ev tx σ G M1 (isV (.ref l) M1)) (h2 : Ev ti σ G M1 (isV (.int k) M1)) (hl : M1[n]? = some (l, .lst xs)) (hj : ixN xs.length k = some j)
    (q : ∀ G', Ex G G' → P.nx G' σ (M1.set n (l, .lst (xs.set j x)))) : Sv E (tAsg te (gSub tx ti rSetL)) σ G M P := fun G1 H F D e m hd =>
  h G1 H F e m _ fun v G2 M2' H2 e2 m2 r2 => by
    obtain ⟨rfl, rfl⟩ := r2
    refine h1 G2 H2 F (e.trans e2) m2 _ fun v3 G3 M3' H3 e3 m3 r3 => ?_
    obtain ⟨rfl, rfl⟩ := r3
    refine h2 G3 H3 F ((e.trans e2).trans e3) m3 _ fun v4 G4 M4' H4 e4 m4 r4 => ?_
    obtain ⟨rfl, rfl⟩ := r4
    exact ⟨l, xs, k, j, rfl, rfl, m4.getF hl, hj, hd.nx _ _ _ _ ((e2.trans e3).trans e4) (m4.putF hl) (q G4 (((e.trans e2).trans e3).trans e4))⟩
/-- the same where the value is data -/
theorem sv_setIxP {Pp : Hp → V → Prop} [Mono Pp] {tx ti : TE} {l : Addr} {xs : List V} {k : Int} {j n : Nat} (h : Ev te σ G M (isP Pp M1)) (h1 : Ev tx σ G M1 (isV (.ref l) M1)) (h2 : Ev ti σ G M1 (isV (.int k) M1)) (hl : M1[n]? = some (l, .lst xs)) (hj : ixN xs.length k = some j)
    (q : ∀ v G', Ex G G' → Pp G' v → P.nx G' σ (M1.set n (l, .lst (xs.set j v)))) : Sv E (tAsg te (gSub tx ti rSetL)) σ G M P := fun G1 H F D e m hd =>
  h G1 H F e m _ fun v G2 M2' H2 e2 m2 r2 => by
    obtain ⟨pv, rfl⟩ := r2
    refine h1 G2 H2 F (e.trans e2) m2 _ fun v3 G3 M3' H3 e3 m3 r3 => ?_
    obtain ⟨rfl, rfl⟩ := r3
    refine h2 G3 H3 F ((e.trans e2).trans e3) m3 _ fun v4 G4 M4' H4 e4 m4 r4 => ?_
    obtain ⟨rfl, rfl⟩ := r4
    exact ⟨l, xs, k, j, rfl, rfl, m4.getF hl, hj, hd.nx _ _ _ _ ((e2.trans e3).trans e4) (m4.putF hl) (q v G4 (((e.trans e2).trans e3).trans e4) (Mono.mono _ _ _ (e3.trans e4) pv))⟩
/-! targets -/
def tTgt (g : TG) (x : V) (tb : TS) : TS := fun D σ H => g x σ H fun σ2 H2 => tb D σ2 H2
theorem sv_tgN {tb : TS} (h : Sv E tb (σ.set i (some x)) G M P) : Sv E (tTgt (gName i) x tb) σ G M P := fun G1 H F D e m hd => h G1 H F D e m hd
/-! loops -/
theorem sv_forL {tl : TE} {g : TG} {tb : TS} {aa : Addr} {xs : List V} (I : Nat → Hp → L2.St → Mem → Prop)
    (hs : Ev tl σ G M (fun G1 v M1 => v = .ref aa ∧ I 0 G1 σ M1)) (hl : ∀ i G' σ' M', Ex G G' → I i G' σ' M' → AtL K G' M' aa xs)
    (hb : ∀ i x G' σ' M', Ex G G' → xs[i]? = some x → I i G' σ' M' → Sv E (tTgt g x tb) σ' G' M' { P with nx := I (i + 1), ct := I (i + 1), bk := P.nx })
    (he : ∀ G' σ' M', Ex G G' → I xs.length G' σ' M' → P.nx G' σ' M') : Sv E (tFor (iList K tl) g tb) σ G M P := fun G1 H F D e m hd =>
  hs G1 H F e m _ fun v G2 M2 H2 e2 m2 r2 => by
    obtain ⟨rfl, i0⟩ := r2
    refine ⟨aa, rfl, ⟨xs, hl 0 G2 σ M2 (e.trans e2) i0 G2 H2 F (Ex.refl _) m2⟩, for_list (K := K) (a := aa) (xs := xs) (fun i σ' H' => ∃ G' M', Ex G2 G' ∧ Me G' (M' ++ F) H' ∧ I i G' σ' M') ⟨G2, M2, Ex.refl _, m2, i0⟩ ?_ ?_ ?_⟩
    · rintro i σ' H' _ ⟨G', M', e', m', ii⟩
      exact hl i G' σ' M' ((e.trans e2).trans e') ii G' H' F (Ex.refl _) m'
    · rintro i x σ' H' hx ⟨G', M', e', m', ii⟩
      refine hb i x G' σ' M' ((e.trans e2).trans e') hx ii G' H' F _ (Ex.refl _) m' ⟨?_, ?_, ?_, ?_, ?_⟩
      · exact fun σ2 G3 M3 H3 e3 m3 n => ⟨G3, M3, e'.trans e3, m3, n⟩
      · exact fun v G3 M3 H3 e3 m3 r => hd.rt v G3 M3 H3 ((e2.trans e').trans e3) m3 r
      · exact fun v G3 M3 H3 e3 m3 r => hd.nx v G3 M3 H3 ((e2.trans e').trans e3) m3 r
      · exact fun σ2 G3 M3 H3 e3 m3 n => ⟨G3, M3, e'.trans e3, m3, n⟩
      · exact fun c v G3 M3 H3 e3 m3 r => hd.ex c v G3 M3 H3 ((e2.trans e').trans e3) m3 r
    · rintro σ' H' ⟨G', M', e', m', ii⟩
      exact hd.nx σ' G' M' H' (e2.trans e') m' (he G' σ' M' ((e.trans e2).trans e') ii)
/-- over a list of data that stands still -/
theorem sv_forD {tl : TE} {g : TG} {tb : TS} {ds : List PyData} (I : Nat → Hp → L2.St → Mem → Prop)
    (hs : Ev tl σ G M (isD K (.list ds) M1)) (h0 : ∀ G', Ex G G' → I 0 G' σ M1)
    (hb : ∀ i d x G' σ' M', Ex G G' → ds[i]? = some d → Dp K G' x d → I i G' σ' M' → Sv E (tTgt g x tb) σ' G' M' { P with nx := I (i + 1), ct := I (i + 1), bk := P.nx })
    (he : ∀ G' σ' M', Ex G G' → I ds.length G' σ' M' → P.nx G' σ' M') : Sv E (tFor (iList K tl) g tb) σ G M P := fun G1 H F D e m hd =>
  hs G1 H F e m _ fun v G2 M2 H2 e2 m2 r2 => by
    obtain ⟨dv, rfl⟩ := r2
    obtain ⟨aa, xs, rfl, hq, ha⟩ := dp_lst dv
    refine ⟨aa, rfl, ⟨xs, ex_l m2.ex hq⟩, for_list (K := K) (a := aa) (xs := xs) (fun i σ' H' => ∃ G' M', Ex G2 G' ∧ Me G' (M' ++ F) H' ∧ I i G' σ' M') ⟨G2, _, Ex.refl _, m2, h0 G2 (e.trans e2)⟩ ?_ ?_ ?_⟩
    · rintro i σ' H' _ ⟨G', M', e', m', ii⟩
      exact ex_l m'.ex (ex_l e' hq)
    · rintro i x σ' H' hx ⟨G', M', e', m', ii⟩
      obtain ⟨d, hd', dx⟩ := dpa_atV ha hx
      refine hb i d x G' σ' M' ((e.trans e2).trans e') hd' (dm dx e') ii G' H' F _ (Ex.refl _) m' ⟨?_, ?_, ?_, ?_, ?_⟩
      · exact fun σ2 G3 M3 H3 e3 m3 n => ⟨G3, M3, e'.trans e3, m3, n⟩
      · exact fun v G3 M3 H3 e3 m3 r => hd.rt v G3 M3 H3 ((e2.trans e').trans e3) m3 r
      · exact fun v G3 M3 H3 e3 m3 r => hd.nx v G3 M3 H3 ((e2.trans e').trans e3) m3 r
      · exact fun σ2 G3 M3 H3 e3 m3 n => ⟨G3, M3, e'.trans e3, m3, n⟩
      · exact fun c v G3 M3 H3 e3 m3 r => hd.ex c v G3 M3 H3 ((e2.trans e').trans e3) m3 r
    · rintro σ' H' ⟨G', M', e', m', ii⟩
      rw [dpa_len ha] at ii
      exact hd.nx σ' G' M' H' (e2.trans e') m' (he G' σ' M' ((e.trans e2).trans e') ii)
/-- range(n) -/
theorem sv_forR {tn : TA} {g : TG} {tb : TS} {n : Int} (I : Nat → Hp → L2.St → Mem → Prop)
    (hs : EvA tn σ G M [fun _ v => v = .int n] M1) (h0 : ∀ G', Ex G G' → I 0 G' σ M1) (hn : -(2 ^ 62) ≤ n ∧ n < 2 ^ 62)
    (hb : ∀ (i : Nat) G' σ' M', Ex G G' → i < n.toNat → I i G' σ' M' → Sv E (tTgt g (.int (0 + (i : Int))) tb) σ' G' M' { P with nx := I (i + 1), ct := I (i + 1), bk := P.nx })
    (he : ∀ G' σ' M', Ex G G' → I n.toNat G' σ' M' → P.nx G' σ' M') : Sv E (tFor (iRng1 tn) g tb) σ G M P := fun G1 H F D e m hd =>
  hs G1 H F e m _ fun vs G2 H2 e2 m2 r2 => by
    match vs, r2 with
    | [v], r2 =>
    obtain ⟨rfl, _⟩ := r2
    refine ⟨n, rfl, hn.1, hn.2, for_range (lo := 0) (n := n.toNat) (fun i σ' H' => ∃ G' M', Ex G2 G' ∧ Me G' (M' ++ F) H' ∧ I i G' σ' M') ⟨G2, _, Ex.refl _, m2, h0 G2 (e.trans e2)⟩ ?_ ?_⟩
    · rintro i σ' H' hi ⟨G', M', e', m', ii⟩
      refine hb i G' σ' M' ((e.trans e2).trans e') hi ii G' H' F _ (Ex.refl _) m' ⟨?_, ?_, ?_, ?_, ?_⟩
      · exact fun σ2 G3 M3 H3 e3 m3 n => ⟨G3, M3, e'.trans e3, m3, n⟩
      · exact fun v G3 M3 H3 e3 m3 r => hd.rt v G3 M3 H3 ((e2.trans e').trans e3) m3 r
      · exact fun v G3 M3 H3 e3 m3 r => hd.nx v G3 M3 H3 ((e2.trans e').trans e3) m3 r
      · exact fun σ2 G3 M3 H3 e3 m3 n => ⟨G3, M3, e'.trans e3, m3, n⟩
      · exact fun c v G3 M3 H3 e3 m3 r => hd.ex c v G3 M3 H3 ((e2.trans e').trans e3) m3 r
    · rintro σ' H' ⟨G', M', e', m', ii⟩
      exact hd.nx σ' G' M' H' (e2.trans e') m' (he G' σ' M' ((e.trans e2).trans e') ii)
/-! new lists -/
/-- a new list that is owned -/
abbrev own (K : PySem.W.Frag) (ds : List PyData) (M : Mem) : Post := fun G v M' => ∃ p vs, v = .ref p ∧ M' = M ++ [(p, .lst vs)] ∧ DpAll K G vs ds
theorem Ev.frz {ds : List PyData} (h : Ev te σ G M (own K ds M1)) : Ev te σ G M (isD K (.list ds) M1) := fun G1 H F e m Q q =>
  h G1 H F e m Q fun v G2 M2 H2 e2 m2 r => by
    obtain ⟨p, vs, rfl, rfl, da⟩ := r
    obtain ⟨m3, e3⟩ := m2.freezeLast
    exact q _ _ M1 H2 (e2.trans e3) m3 ⟨.lst (SqL.of upd_same) (dma da e3), rfl⟩
theorem ev_lstO {t : TA} {ds : List PyData} (h : EvA t σ G M (ds.map fun d => fun G v => Dp K G v d) M1) (hl : ds.length ≤ 1000) : Ev (tLst t) σ G M (own K ds M1) := fun G1 H F e m Q q =>
  h G1 H F e m _ fun vs G2 H2 e2 m2 a => ⟨by rw [dpa_len (allD (K := K) a)]; exact Nat.le_of_lt (small1000 hl), fun p hp => q _ _ _ _ e2 (m2.newMid hp) ⟨p, vs, rfl, rfl, allD a⟩⟩
theorem mem_mid {A F : Mem} {p : Addr × HO} : (A ++ p :: F) = (A ++ [p]) ++ F := by rw [List.append_assoc]; rfl
section comp
variable {own' : List Nat} {k : Nat} {Mi : Nat → Mem} {fd : Nat → PyData} {ds : List PyData} {n : Nat}
/-- one turn of a comprehension -/
theorem lc_turn {b : Bool} {D : Addr} {H' : Hp} {G1 G2 : Hp} {vs : List V} {es : List PyData} (ht : EvT tt (σ.set k (some x)) G2 (Mi i) b (Mi i)) (he : b = true → Ev te (σ.set k (some x)) G2 (Mi i) (isD K (fd i) (Mi (i + 1)))) (hn : b = false → Mi (i + 1) = Mi i)
    (m' : Me G2 (Mi i ++ (D, .lst vs) :: F) H') (e' : Ex G1 G2) (da : DpAll K G2 vs es) (hz : vs.length < sizeLine) {Nx : Hp → Prop}
    (hN : ∀ G3 vs' H3, Ex G1 G3 → Me G3 (Mi (i + 1) ++ (D, .lst vs') :: F) H3 → DpAll K G3 vs' (es ++ if b then [fd i] else []) → Nx H3) :
    tt (σ.set k (some x)) H' fun b H3 => if b = true then te (σ.set k (some x)) H3 fun y H4 => ∃ acc, H4 D = some (.lst acc) ∧ acc.length < sizeLine ∧ Nx (upd H4 D (.lst (acc ++ [y]))) else Nx H3 := by
  refine ht G2 H' _ (Ex.refl _) m' _ fun G3 H3 e3 m3 => ?_
  cases b with
  | true =>
    rw [if_pos rfl]
    refine he rfl G3 H3 _ e3 m3 _ fun y G4 M4 H4 e4 m4 r4 => ?_
    obtain ⟨dy, rfl⟩ := r4
    have hm : ((Mi (i + 1)) ++ (D, HO.lst vs) :: F)[(Mi (i + 1)).length]? = some (D, .lst vs) := by
      rw [List.getElem?_append_right (Nat.le_refl _), Nat.sub_self]
      rfl
    refine ⟨vs, m4.get hm, hz, hN G4 (vs ++ [y]) _ ((e'.trans e3).trans e4) ?_ ?_⟩
    · have := m4.put (o' := .lst (vs ++ [y])) hm
      rw [List.set_append_right _ _ (Nat.le_refl _), Nat.sub_self] at this
      exact this
    · exact dpa_app (dma da (e3.trans e4)) (.cons dy .nil)
  | false =>
    rw [if_neg Bool.false_ne_true]
    refine hN G3 vs H3 (e'.trans e3) (by rw [hn rfl]; exact m3) ?_
    show DpAll K G3 vs (es ++ [])
    rw [List.append_nil]
    exact dma da e3
def kept (n : Nat) (bb : Nat → Bool) (fd : Nat → PyData) : List PyData := (List.range n).flatMap fun i => if bb i then [fd i] else []
theorem kept_succ (n : Nat) (bb : Nat → Bool) (fd : Nat → PyData) : kept (n + 1) bb fd = kept n bb fd ++ if bb n then [fd n] else [] := by
  unfold kept
  rw [List.range_succ, List.flatMap_append]
  simp
theorem kept_len (n : Nat) (bb : Nat → Bool) (fd : Nat → PyData) : (kept n bb fd).length ≤ n := by
  induction n with
  | zero => exact Nat.le_refl _
  | succ n ih =>
    rw [kept_succ, List.length_append]
    split <;> simp <;> omega
theorem kept_all (n : Nat) (fd : Nat → PyData) : kept n (fun _ => true) fd = (List.range n).map fd := by
  induction n with
  | zero => rfl
  | succ n ih => rw [kept_succ, ih, List.range_succ, List.map_append]; rfl
theorem sz_ok {n : Nat} (h : n ≤ 100000) : n < sizeLine := Nat.lt_of_le_of_lt h (by decide)
/-- [e for x in l if t] over data -/
theorem ev_lcL {tl : TE} (bb : Nat → Bool) (Mi : Nat → Mem) (fd : Nat → PyData) (hs : Ev tl σ G M (isD K (.list ds) (Mi 0))) (hn : ds.length ≤ 100000)
    (ht : ∀ i d x G', ds[i]? = some d → Ex G G' → Dp K G' x d → EvT tt ((wipe σ own').set k (some x)) G' (Mi i) (bb i) (Mi i))
    (he : ∀ i d x G', ds[i]? = some d → Ex G G' → Dp K G' x d → bb i = true → Ev te ((wipe σ own').set k (some x)) G' (Mi i) (isD K (fd i) (Mi (i + 1))))
    (hno : ∀ i, bb i = false → Mi (i + 1) = Mi i) (hw : ∀ x, wipe ((wipe σ own').set k (some x)) own' = wipe σ own') :
    Ev (tLc (iList K tl) (gName k) tt te own') σ G M (own K (kept ds.length bb fd) (Mi ds.length)) := fun G1 H F e m Q q =>
  hs G1 H F e m _ fun v G2 M2 H2 e2 m2 r2 => by
    obtain ⟨dv, rfl⟩ := r2
    obtain ⟨aa, xs, rfl, hq, ha⟩ := dp_lst dv
    have hln := dpa_len ha
    refine ⟨aa, rfl, ⟨xs, ex_l m2.ex hq⟩, fun D hD => lc_list (K := K) (a := aa) (xs := xs) (fun i H' => ∃ G' vs, Ex G2 G' ∧ Me G' (Mi i ++ (D, .lst vs) :: F) H' ∧ DpAll K G' vs (kept i bb fd)) ?_ ?_ ?_ ?_⟩
    · exact ⟨G2, [], Ex.refl _, by rw [mem_mid]; exact m2.newMid hD, .nil⟩
    · rintro i H' _ ⟨G', vs, e', m', _⟩
      exact ex_l m'.ex (ex_l e' hq)
    · rintro i x H' hx ⟨G', vs, e', m', da⟩
      obtain ⟨d, hd', dx⟩ := dpa_atV ha hx
      have hi : i < xs.length := (List.getElem?_eq_some_iff.mp hx).1
      refine ⟨hw x, lc_turn (K := K) (fd := fd) (Mi := Mi) (b := bb i) (ht i d x G' hd' ((e.trans e2).trans e') (dm dx e')) (he i d x G' hd' ((e.trans e2).trans e') (dm dx e')) (hno i) m' e' da ?_ ?_⟩
      · rw [dpa_len da]
        have := kept_len i bb fd
        exact sz_ok (by omega)
      · intro G3 vs' H3 e3 m3 d3
        exact ⟨G3, vs', e3, m3, by rw [kept_succ]; exact d3⟩
    · rintro H' ⟨G', vs, e', m', da⟩
      rw [hln] at m' da
      rw [mem_mid] at m'
      exact q _ G' _ H' (e2.trans e') m' ⟨D, vs, rfl, rfl, da⟩
/-- .. over a tuple -/
theorem ev_lcT {tl : TE} (bb : Nat → Bool) (Mi : Nat → Mem) (fd : Nat → PyData) (hs : Ev tl σ G M (isD K (.tuple ds) (Mi 0))) (hn : ds.length ≤ 100000)
    (ht : ∀ i d x G', ds[i]? = some d → Ex G G' → Dp K G' x d → EvT tt ((wipe σ own').set k (some x)) G' (Mi i) (bb i) (Mi i))
    (he : ∀ i d x G', ds[i]? = some d → Ex G G' → Dp K G' x d → bb i = true → Ev te ((wipe σ own').set k (some x)) G' (Mi i) (isD K (fd i) (Mi (i + 1))))
    (hno : ∀ i, bb i = false → Mi (i + 1) = Mi i) (hw : ∀ x, wipe ((wipe σ own').set k (some x)) own' = wipe σ own') :
    Ev (tLc (iTup K tl) (gName k) tt te own') σ G M (own K (kept ds.length bb fd) (Mi ds.length)) := fun G1 H F e m Q q =>
  hs G1 H F e m _ fun v G2 M2 H2 e2 m2 r2 => by
    obtain ⟨dv, rfl⟩ := r2
    obtain ⟨aa, xs, rfl, hq, ha⟩ := dp_tup dv
    have hln := dpa_len ha
    refine ⟨aa, rfl, ⟨xs, ex_t m2.ex hq⟩, fun D hD => lc_tup (K := K) (a := aa) (xs := xs) (fun i H' => ∃ G' vs, Ex G2 G' ∧ Me G' (Mi i ++ (D, .lst vs) :: F) H' ∧ DpAll K G' vs (kept i bb fd)) ?_ ?_ ?_ ?_⟩
    · exact ⟨G2, [], Ex.refl _, by rw [mem_mid]; exact m2.newMid hD, .nil⟩
    · rintro i H' _ ⟨G', vs, e', m', _⟩
      exact ex_t m'.ex (ex_t e' hq)
    · rintro i x H' hx ⟨G', vs, e', m', da⟩
      obtain ⟨d, hd', dx⟩ := dpa_atV ha hx
      have hi : i < xs.length := (List.getElem?_eq_some_iff.mp hx).1
      refine ⟨hw x, lc_turn (K := K) (fd := fd) (Mi := Mi) (b := bb i) (ht i d x G' hd' ((e.trans e2).trans e') (dm dx e')) (he i d x G' hd' ((e.trans e2).trans e') (dm dx e')) (hno i) m' e' da ?_ ?_⟩
      · rw [dpa_len da]
        have := kept_len i bb fd
        exact sz_ok (by omega)
      · intro G3 vs' H3 e3 m3 d3
        exact ⟨G3, vs', e3, m3, by rw [kept_succ]; exact d3⟩
    · rintro H' ⟨G', vs, e', m', da⟩
      rw [hln] at m' da
      rw [mem_mid] at m'
      exact q _ G' _ H' (e2.trans e') m' ⟨D, vs, rfl, rfl, da⟩
/-- .. over range(n) -/
theorem ev_lcR {tn : TA} {nn : Int} (bb : Nat → Bool) (Mi : Nat → Mem) (fd : Nat → PyData) (hs : EvA tn σ G M [fun _ v => v = .int nn] (Mi 0)) (hn : nn ≤ 100000) (hn0 : -100000 ≤ nn)
    (ht : ∀ (i : Nat) G', i < nn.toNat → Ex G G' → EvT tt ((wipe σ own').set k (some (.int (0 + (i : Int))))) G' (Mi i) (bb i) (Mi i))
    (he : ∀ (i : Nat) G', i < nn.toNat → Ex G G' → bb i = true → Ev te ((wipe σ own').set k (some (.int (0 + (i : Int))))) G' (Mi i) (isD K (fd i) (Mi (i + 1))))
    (hno : ∀ i, bb i = false → Mi (i + 1) = Mi i) (hw : ∀ x, wipe ((wipe σ own').set k (some x)) own' = wipe σ own') :
    Ev (tLc (iRng1 tn) (gName k) tt te own') σ G M (own K (kept nn.toNat bb fd) (Mi nn.toNat)) := fun G1 H F e m Q q =>
  hs G1 H F e m _ fun vs0 G2 H2 e2 m2 r2 => by
    match vs0, r2 with
    | [v], r2 =>
    obtain ⟨rfl, _⟩ := r2
    refine ⟨nn, rfl, by omega, by omega, fun D hD => lc_range (lo := 0) (n := nn.toNat) (fun i H' => ∃ G' vs, Ex G2 G' ∧ Me G' (Mi i ++ (D, .lst vs) :: F) H' ∧ DpAll K G' vs (kept i bb fd)) ?_ ?_ ?_⟩
    · exact ⟨G2, [], Ex.refl _, by rw [mem_mid]; exact m2.newMid hD, .nil⟩
    · rintro i H' hi ⟨G', vs, e', m', da⟩
      refine ⟨hw _, lc_turn (K := K) (fd := fd) (Mi := Mi) (b := bb i) (ht i G' hi ((e.trans e2).trans e')) (he i G' hi ((e.trans e2).trans e')) (hno i) m' e' da ?_ ?_⟩
      · rw [dpa_len da]
        have := kept_len i bb fd
        exact sz_ok (by omega)
      · intro G3 vs' H3 e3 m3 d3
        exact ⟨G3, vs', e3, m3, by rw [kept_succ]; exact d3⟩
    · rintro H' ⟨G', vs, e', m', da⟩
      rw [mem_mid] at m'
      exact q _ G' _ H' (e2.trans e') m' ⟨D, vs, rfl, rfl, da⟩
end comp
end
end SX

set_option Elab.async false
set_option linter.all false
set_option maxRecDepth 100000
/-! SXd: defs by their promise; own classes' operators; built-ins. -/
namespace SX
open PySem PySem.Spec L2

section
variable {P : Program} {w : World} {K : PySem.W.Frag} {mg : Str → Option Value} {base : Heap}
/-- a def that raises nothing -/
theorem fn_sv {α : Type} {pre : α → Hp → Mem → List V → Prop} {post : α → Mem → Post} {x qual : Str} {st : Stmt} {f : Addr} {fd : FuncData} {N ps : List Str} {k : Nat} (F : Fun K x qual st f fd) (S : FnScope N ps (defScope st))
    (len : ∀ x G M vs, pre x G M vs → vs.length = ps.length)
    (body : ∀ (cdv : Value) (A : Around) (outer : List Env) (s : Shared) (H : Hp) (E : XK), Room k (A.deeper (PyProof.Rows.envOfC qual (defScope st) s.heap.objs.size f cdv)) →
      ∃ t, PSs (cxOf CX0 P w K mg base N qual (defScope st) f cdv A outer s H E).nox (defBody st) t ∧ ∀ x G M vs, pre x G M vs → Sv E t (start N vs) G M { nx := fun G' _ M' => post x M G' .non M', rt := post x M }) :
    FnOk P w K mg base CX0 (k + 1) f fd ps (spec pre post) := by
  refine F.ok S (fun vs H Q E h => ?_) (fun cdv A outer s H vs Q E hr h => ?_)
  · obtain ⟨x, G, M, Fr, m, p, q⟩ := h
    exact len x G M vs p
  · obtain ⟨x, G, M, Fr, m, p, q⟩ := h
    obtain ⟨t, ht, hs⟩ := body cdv A outer s H E hr
    refine ⟨t, ht, hs x G M vs p G H Fr _ (Ex.refl _) m ⟨?_, ?_, ?_, ?_, ?_⟩⟩
    · exact fun σ2 G2 M2 H2 e2 m2 n => q _ G2 M2 H2 e2 m2 n
    · exact fun v G2 M2 H2 e2 m2 n => q v G2 M2 H2 e2 m2 n
    · exact fun σ2 G2 M2 H2 e2 m2 n => n.elim
    · exact fun σ2 G2 M2 H2 e2 m2 n => n.elim
    · exact fun c d G2 M2 H2 e2 m2 n => n.elim
/-- a promise with errors -/
def specX {α : Type} (pre : α → Hp → Mem → List V → Prop) (post : α → Mem → Post) (exc : α → Mem → Value → Option Addr → Hp → Mem → Prop) : Sp := fun vs H Q E => ∃ x G M F, Me G (M ++ F) H ∧ pre x G M vs ∧
  (∀ v G' M' H', Ex G G' → Me G' (M' ++ F) H' → post x M G' v M' → Q v H') ∧ (∀ c d G' M' H', Ex G G' → Me G' (M' ++ F) H' → exc x M c d G' M' → E c d H')
theorem fn_svX {α : Type} {pre : α → Hp → Mem → List V → Prop} {post : α → Mem → Post} {exc : α → Mem → Value → Option Addr → Hp → Mem → Prop} {x qual : Str} {st : Stmt} {f : Addr} {fd : FuncData} {N ps : List Str} {k : Nat} (F : Fun K x qual st f fd) (S : FnScope N ps (defScope st))
    (len : ∀ x G M vs, pre x G M vs → vs.length = ps.length)
    (body : ∀ (cdv : Value) (A : Around) (outer : List Env) (s : Shared) (H : Hp) (E : XK), Room k (A.deeper (PyProof.Rows.envOfC qual (defScope st) s.heap.objs.size f cdv)) →
      ∃ t, PSs (cxOf (L2.CX P w) P w K mg base N qual (defScope st) f cdv A outer s H E) (defBody st) t ∧ ∀ x G M vs, pre x G M vs → Sv E t (start N vs) G M { nx := fun G' _ M' => post x M G' .non M', rt := post x M, ex := exc x M }) :
    FnOk P w K mg base (L2.CX P w) (k + 1) f fd ps (specX pre post exc) := by
  refine F.okX S (fun vs H Q E h => ?_) (fun cdv A outer s H vs Q E hr h => ?_)
  · obtain ⟨x, G, M, Fr, m, p, q⟩ := h
    exact len x G M vs p
  · obtain ⟨x, G, M, Fr, m, p, q, qx⟩ := h
    obtain ⟨t, ht, hs⟩ := body cdv A outer s H E hr
    refine ⟨t, ht, hs x G M vs p G H Fr _ (Ex.refl _) m ⟨?_, ?_, ?_, ?_, ?_⟩⟩
    · exact fun σ2 G2 M2 H2 e2 m2 n => q _ G2 M2 H2 e2 m2 n
    · exact fun v G2 M2 H2 e2 m2 n => q v G2 M2 H2 e2 m2 n
    · exact fun σ2 G2 M2 H2 e2 m2 n => n.elim
    · exact fun σ2 G2 M2 H2 e2 m2 n => n.elim
    · exact fun c d G2 M2 H2 e2 m2 n => qx c d G2 M2 H2 e2 m2 n
/-- where the errors cannot come, it is a plain promise -/
theorem FnOk.calm {α : Type} {pre pre' : α → Hp → Mem → List V → Prop} {post : α → Mem → Post} {exc : α → Mem → Value → Option Addr → Hp → Mem → Prop} {CX : CXT} {k : Nat} {f : Addr} {fd : FuncData} {ps : List Str} (F : FnOk P w K mg base CX k f fd ps (specX pre post exc))
    (hp : ∀ x G M vs, pre' x G M vs → pre x G M vs) (hx : ∀ x G M vs c d G' M', pre' x G M vs → ¬ exc x M c d G' M') : FnOk P w K mg base CX k f fd ps (spec pre' post) :=
  F.imp fun vs H Q E h => by
    obtain ⟨x, G, M, Fr, m, p, q⟩ := h
    exact ⟨x, G, M, Fr, m, hp _ _ _ _ p, q, fun c d G' M' H' _ _ z => absurd z (hx x G M vs c d G' M' p)⟩
end

/-! ### own classes: len, [], []=, in, operators, comparisons -/
section
variable {X : Cx} {CX : CXT} {k : Nat} {C f : Addr} {fd : FuncData} {ps : List Str} {sp : Sp} {E : XK}
theorem run_in1 {pins : List (Addr × Obj)} {σ : L2.St} {H : Hp} {s : Shared} {Q : VK} {us : List Value} {vs : List V} (F : FnOk X.prog X.w X.K X.mg X.base CX k f fd ps sp) (hr : Room (k + 1) X.A) (hb : Binds X.K fd ps []) (hx : Passes CX X E)
    (I : Inv X pins σ H s) (r : Vals vs us) (h : sp vs H Q E) : wpAny (model X.prog X.w) X.A.in1 (call (.ref f) us) (EP X pins σ Q) X.xe s := by
  have hl : (us ++ []).length = ps.length := by rw [List.append_nil, ← r.length]; exact F.len _ _ _ _ h
  have hb' := hb s us I.kIn hl
  rw [List.append_nil] at hb'
  refine wpAny_call (codeAny_mono (F.run X.A.in1 X.stack s H ⟨us, []⟩ us vs Q E hr.in1 I.env0.in1 hb' r h) fun rr s' hq => ?_)
  cases rr with
  | error e => exact hx pins σ H s e s' I hq
  | ok fl =>
    cases fl with
    | ret u => exact I.after hq
    | next => exact False.elim hq
    | brk => exact False.elim hq
    | cont => exact False.elim hq
theorem run_at {pins : List (Addr × Obj)} {σ : L2.St} {H : Hp} {s : Shared} {Q : VK} {us : List Value} {vs : List V} (F : FnOk X.prog X.w X.K X.mg X.base CX k f fd ps sp) (hr : Room k X.A) (hb : Binds X.K fd ps []) (hx : Passes CX X E)
    (I : Inv X pins σ H s) (r : Vals vs us) (h : sp vs H Q E) : wpAny (model X.prog X.w) X.A (call (.ref f) us) (EP X pins σ Q) X.xe s :=
  run_fn F hr hb .nil hx I r (by rw [List.append_nil]; exact h)
/-- len(o) by the own __len__ -/
def rLenO (C : Addr) (sp : Sp) (E : XK) : List V → Hp → VK → Prop := fun xs H Q => ∃ a dx fs, xs = [.ref a] ∧ H a = some (.ins C dx fs) ∧ sp [.ref a] H (fun v H2 => ∃ n : Int, v = .int n ∧ (0 ≤ n ∧ n < 2 ^ 63) ∧ Q (.int n) H2) E
theorem call_lenO (hm : Meth X.K C "__len__" f) (F : FnOk X.prog X.w X.K X.mg X.base CX k f fd ps sp) (hr : Room (k + 1) X.A) (hb : Binds X.K fd ps []) (hx : Passes CX X E) : CallR X (.builtin "len") (rLenO C sp E) := by
  intro pins s σ H xs us Q I r h
  obtain ⟨a, dx, fs, rfl, ea, q⟩ := h
  obtain ⟨u, rfl, ru⟩ := vals1 r
  cases (show u = Value.ref a from ru)
  obtain ⟨mA, O, _⟩ := ins_get I.hok ea
  obtain ⟨od, J, _⟩ := O.look
  obtain ⟨m, fr⟩ := I.fr
  refine PySem.W.len_K fr I.ok.mod.kin J hm.at_ hm.fn (wpAny_mono (run_in1 F hr hb hx I r q) (fun u s1 h1 => ?_) fun _ _ e => e)
  obtain ⟨v, H2, I2, rv, n, rfl, hn, q2⟩ := h1
  obtain ⟨t, rfl⟩ := rv
  exact ⟨hn, .int n, H2, I2.tok _, ⟨_, rfl⟩, q2⟩
/-- o[i] by the own __getitem__ -/
def rIxO (C : Addr) (sp : Sp) (E : XK) : R2 := fun x y H Q => ∃ a dx fs, x = .ref a ∧ H a = some (.ins C dx fs) ∧ sp [.ref a, y] H Q E
theorem pe_ixO {a b : Expr} {ta tb : TE} {pos : Pos} (hm : Meth X.K C "__getitem__" f) (F : FnOk X.prog X.w X.K X.mg X.base CX k f fd ps sp) (hb : Binds X.K fd ps []) (hx : Passes CX X E)
    (hfi : PySem.W.fnIn X.K f = true) (hr1 : Room (k + 1) X.A) (ha : PE X a ta) (hbb : PE X b tb) (hs : PlainIx b)
    (hsl : ∀ o i, subscripted b true o i = runValue (.builtin "lifetime.subscript" ⟨[o, i], []⟩)) : PE X (.Subscript a b pos) (tOp (rIxO C sp E) ta tb) := by
  refine ⟨fun pins s σ H Q I h => ?_⟩
  refine PyProof.Rows.Subscript_ (binT ha hbb I h fun v u s2 x y H2 I2 rx ry h2 => ?_)
  obtain ⟨a', dx, fs, rfl, ea, q⟩ := h2
  cases (show v = Value.ref a' from rx)
  obtain ⟨mA, O, _⟩ := ins_get I2.hok ea
  obtain ⟨od, J, _⟩ := O.look
  obtain ⟨m, fr⟩ := I2.fr
  exact PySem.W.sub_K fr I2.ok.mod.kin J hm.at_ hfi hm.fn (run_in1 F hr1 hb hx I2 (.cons (show RelV (.ref a') (.ref a') from rfl) (.cons ry .nil)) q) (hsl _ _)
/-- o[i] = e by the own __setitem__ -/
def rSetO (C : Addr) (sp : Sp) (E : XK) : TSet := fun o i v H Q => ∃ a dx fs, o = .ref a ∧ H a = some (.ins C dx fs) ∧ sp [.ref a, i, v] H (fun _ H2 => Q H2) E
theorem set_own (hm : Meth X.K C "__setitem__" f) (hq : PySem.W.noSeq X.K C = true) (F : FnOk X.prog X.w X.K X.mg X.base CX k f fd ps sp) (hr : Room k X.A) (hb : Binds X.K fd ps []) (hx : Passes CX X E) : PSet X (rSetO C sp E) := by
  intro pins s σ H o i v ov iv u Q I ro ri rv h
  obtain ⟨a, dx, fs, rfl, ea, q⟩ := h
  cases (show ov = Value.ref a from ro)
  obtain ⟨mA, O, _⟩ := ins_get I.hok ea
  obtain ⟨od, J, _⟩ := O.look
  obtain ⟨m, fr⟩ := I.fr
  refine PySem.W.ksp_setItem fr I.ok.mod.kin J hq hm.at_ hm.fn (wpAny_mono (run_at F hr hb hx I (.cons (show RelV (.ref a) (.ref a) from rfl) (.cons ri (.cons rv .nil))) q) (fun u s1 h1 => ?_) fun _ _ e => e)
  obtain ⟨v, H2, I2, _, q2⟩ := h1
  exact ⟨H2, I2, q2⟩
/-- x in o by the own __contains__ that hands back a bool -/
def rInO (C : Addr) (sp : Sp) (E : XK) : R2 := fun x y H Q => ∃ a dx fs, y = .ref a ∧ H a = some (.ins C dx fs) ∧ sp [.ref a, x] H (fun v H2 => ∃ b : Bool, v = .bl b ∧ Q (.bl b) H2) E
theorem op_inO (hm : Meth X.K C "__contains__" f) (F : FnOk X.prog X.w X.K X.mg X.base CX k f fd ps sp) (hr : Room k X.A) (hb : Binds X.K fd ps []) (hx : Passes CX X E) : OpR X (compareOp .In) (rInO C sp E) := by
  intro pins s σ H x y v u Q I rx ry h
  obtain ⟨a, dx, fs, rfl, ea, q⟩ := h
  cases (show u = Value.ref a from ry)
  obtain ⟨mA, O, _⟩ := ins_get I.hok ea
  obtain ⟨od, J, _⟩ := O.look
  obtain ⟨m, fr⟩ := I.fr
  refine PySem.W.in_K fr I.ok.mod.kin J hm.at_ hm.fn (wpAny_mono (run_at F hr hb hx I (.cons (show RelV (.ref a) (.ref a) from rfl) (.cons rx .nil)) q) (fun u s1 h1 => ?_) fun _ _ e => e)
  obtain ⟨v, H2, I2, rv, b, rfl, q2⟩ := h1
  cases (show u = Value.bool b from rv)
  exact wpAny_truthy_bool ⟨.bl b, H2, I2, rfl, q2⟩
/-- neither NotImplemented .. is handed back: every V is fine -/
theorem cmpBack {pins : List (Addr × Obj)} {σ : L2.St} {Q : VK} {u : Value} {s : Shared} (h : EP X pins σ Q u s) : PySem.W.CmpBack (EP X pins σ Q) u s := by
  obtain ⟨v, H2, I2, rv, q2⟩ := h
  cases v with
  | non => cases rv; exact ⟨.non, H2, I2, rfl, q2⟩
  | bl b => cases rv; exact ⟨.bl b, H2, I2, rfl, q2⟩
  | int i => obtain ⟨t, rfl⟩ := rv; exact ⟨.int i, H2, I2, ⟨_, rfl⟩, q2⟩
  | str i => obtain ⟨t, rfl⟩ := rv; exact ⟨.str i, H2, I2, ⟨_, rfl⟩, q2⟩
  | byt i => obtain ⟨t, rfl⟩ := rv; exact ⟨.byt i, H2, I2, ⟨_, rfl⟩, q2⟩
  | flt i => obtain ⟨t, rfl⟩ := rv; exact ⟨.flt i, H2, I2, ⟨_, rfl⟩, q2⟩
  | ref i => cases rv; exact ⟨.ref i, H2, I2, rfl, q2⟩
  | ty i => cases rv; exact ⟨.ty i, H2, I2, rfl, q2⟩
/-- one op other, both instances of C -/
def rBinO (C : Addr) (sp : Sp) (E : XK) : R2 := fun x y H Q => ∃ a dx fs b dy gs, x = .ref a ∧ y = .ref b ∧ H a = some (.ins C dx fs) ∧ H b = some (.ins C dy gs) ∧ sp [.ref a, .ref b] H Q E
theorem op_binO {op : Operator} (hs : PySem.W.findIn X.K (.ref C) (PySem.dunder op.info.2) = some (some (.ref f))) (hfn : PySem.W.isFn X.K (.ref f) = true) (hc : PySem.W.selfFirst X.K C = true) (F : FnOk X.prog X.w X.K X.mg X.base CX k f fd ps sp) (hr : Room k X.A) (hb : Binds X.K fd ps []) (hx : Passes CX X E) : OpR X (binaryOp op) (rBinO C sp E) := by
  intro pins s σ H x y v u Q I rx ry h
  obtain ⟨a, dx, fs, b, dy, gs, rfl, rfl, ea, eb, q⟩ := h
  cases (show v = Value.ref a from rx)
  cases (show u = Value.ref b from ry)
  obtain ⟨mA, O, _⟩ := ins_get I.hok ea
  obtain ⟨od, J, _⟩ := O.look
  obtain ⟨mB, O2, _⟩ := ins_get I.hok eb
  obtain ⟨od2, J2, _⟩ := O2.look
  obtain ⟨m, fr⟩ := I.fr
  exact PySem.W.binop_K fr I.ok.mod.kin J J2.type hc hs hfn (wpAny_mono (run_at F hr hb hx I (.cons (show RelV (.ref a) (.ref a) from rfl) (.cons (show RelV (.ref b) (.ref b) from rfl) .nil)) q) (fun u s1 h1 => cmpBack h1) fun _ _ e => e)
/-- a comparison by the own method; the other one is of the same class -/
def rCmpO (C : Addr) (sp : Sp) (E : XK) : R2 := fun x y H Q => ∃ a dx fs b dy gs, x = .ref a ∧ y = .ref b ∧ H a = some (.ins C dx fs) ∧ H b = some (.ins C dy gs) ∧ sp [.ref a, .ref b] H Q E
theorem op_cmpO {op : CmpOp} (hop : compareOp op = richCompare op) (hs : PySem.W.findIn X.K (.ref C) (cmpInfo op).2.1 = some (some (.ref f))) (hfn : PySem.W.isFn X.K (.ref f) = true) (F : FnOk X.prog X.w X.K X.mg X.base CX k f fd ps sp) (hr : Room k X.A) (hb : Binds X.K fd ps []) (hx : Passes CX X E) : OpR X (compareOp op) (rCmpO C sp E) := by
  intro pins s σ H x y v u Q I rx ry h
  obtain ⟨a, dx, fs, b, dy, gs, rfl, rfl, ea, eb, q⟩ := h
  cases (show v = Value.ref a from rx)
  cases (show u = Value.ref b from ry)
  obtain ⟨mA, O, _⟩ := ins_get I.hok ea
  obtain ⟨od, J, _⟩ := O.look
  obtain ⟨mB, O2, _⟩ := ins_get I.hok eb
  obtain ⟨od2, J2, _⟩ := O2.look
  obtain ⟨m, fr⟩ := I.fr
  rw [hop]
  exact PySem.W.cmp_K (by have := hr.units; omega) fr I.ok.mod.kin J J2.type (by unfold PySem.W.notFirst; simp) hs hfn (wpAny_mono (run_at F hr hb hx I (.cons (show RelV (.ref a) (.ref a) from rfl) (.cons (show RelV (.ref b) (.ref b) from rfl) .nil)) q) (fun u s1 h1 => cmpBack h1) fun _ _ e => e)
/-- sum of a tuple of ints -/
def rSumT (K : PySem.W.Frag) : List V → Hp → VK → Prop := fun vs H Q => ∃ (a : Addr) (ns : List Int), vs = [V.ref a] ∧ SqT K H a (ns.map V.int) ∧ Q (.int ns.sum) H
theorem cr_sumT (hc : X.calm = true) : CallR X (.builtin "sum") (rSumT X.K) := by
  intro pins s σ H vs us Q I r h
  obtain ⟨a, ns, rfl, hs, q⟩ := h
  obtain ⟨its, rv, ⟨o, ho, hcl, n, hd⟩, _⟩ := I.tuple hs
  rw [Vals.ref1 r]
  have hi := rv.ints
  obtain ⟨xs, e⟩ := hi.allInts.items
  have hn : numsOf (intItems xs).toList = ns := by rw [← e]; exact hi.numsOf
  rw [nums_intItems] at hn
  have ht : s.heap.IsTuple a (intItems xs) := by
    rw [← e]
    exact ⟨o, ho, hcl, n, hd⟩
  refine PySem.W.ktm_sumG (I.ok.hd hc) ht fun h' tk t' hk => ⟨.int _, H, I.kept hk, ⟨_, rfl⟩, ?_⟩
  rw [preSum_eq, List.take_of_length_le (by simp), hn]
  exact q
end

/-! ### built-ins -/
section
variable {K : PySem.W.Frag} {σ : L2.St} {G G' H : Hp} {M M1 M2 M3 F : Mem} {R : Post} {ta tb te : TE} {x y : V} {d e : PyData} {ds : List PyData} {a : Bool} {i : Int}
def tyName : PyData → String
  | .none => "NoneType"
  | .bool _ => "bool"
  | .int _ => "int"
  | .str _ => "str"
  | .list _ => "list"
  | .tuple _ => "tuple"
  | .dict _ => "dict"
theorem tyx_of {v : V} (h : Dp K H v d) : TyX K H v (.type (tyName d)) := by
  cases h with
  | non => exact .base .non
  | bl b => exact .base (.bl b)
  | int i => exact .base (.int i)
  | str s => exact .base (.str s)
  | lst hs _ =>
    rcases hs with (hs | ⟨o, hs⟩) | ⟨o, its, n, hk, hc, _⟩
    · exact .base (.lst hs)
    · exact .base (.frz hs)
    · exact .kList hk hc
  | tup hs _ =>
    rcases hs with (hs | ⟨o, hs⟩) | ⟨o, its, n, hk, hc, _⟩
    · exact .base (.tup hs)
    · exact .fTuple hs
    · exact .kTuple hk hc
def isTyS (n T : String) : Bool := n == T || (n == "bool" && T == "int")
def isTy (d : PyData) (T : String) : Bool := isTyS (tyName d) T
/-- isinstance(x, T) of data, T one of these -/
theorem ev_isi {T : String} (hT : T = "int" ∨ T = "bool" ∨ T = "tuple" ∨ T = "list" ∨ T = "str") (h : Ev ta σ G M (isD K d M1)) : Ev (tCB (rIsi K) (tCons ta (tCons (tC (.ty T)) tNil))) σ G M (isV (.bl (isTy d T)) M1) :=
  ev_CB (Ps := [fun G v => Dp K G v d, fun _ v => v = .ty T]) (ea_cons h (ea_cons ev_c ea_nil)) fun G1 H F vs e m p Q q => by
    match vs, p with
    | [v, c], ⟨p1, p2, _⟩ =>
      subst p2
      refine ⟨v, .ty T, .type (tyName d), .type T, isTy d T, rfl, .ty T, tyx_of (dm p1 m.ex), kit_ty ?_, q _ _ _ _ (Ex.refl _) m ⟨rfl, rfl⟩⟩
      unfold isTy
      cases p1 <;> dsimp only [tyName] <;> rcases hT with rfl | rfl | rfl | rfl | rfl <;> decide +kernel
/-- all([..]), any([..]) over bools -/
theorem ev_all {bs : List Bool} (h : Ev ta σ G M (isD K (.list (bs.map .bool)) M1)) : Ev (tCB (rAll K) (tCons ta tNil)) σ G M (isV (.bl (bs.all id)) M1) :=
  ev_CB (Ps := [fun G v => Dp K G v (.list (bs.map .bool))]) (ea_cons h ea_nil) fun G1 H F vs e m p Q q => by
    match vs, p with
    | [v], ⟨p1, _⟩ =>
      obtain ⟨a, xs, rfl, hs, ha⟩ := dp_lst p1
      rw [dpAll_bls ha] at hs
      exact ⟨a, bs, rfl, ex_l m.ex hs, q _ _ _ _ (Ex.refl _) m ⟨rfl, rfl⟩⟩
theorem ev_any {bs : List Bool} (h : Ev ta σ G M (isD K (.list (bs.map .bool)) M1)) : Ev (tCB (rAny K) (tCons ta tNil)) σ G M (isV (.bl (bs.any id)) M1) :=
  ev_CB (Ps := [fun G v => Dp K G v (.list (bs.map .bool))]) (ea_cons h ea_nil) fun G1 H F vs e m p Q q => by
    match vs, p with
    | [v], ⟨p1, _⟩ =>
      obtain ⟨a, xs, rfl, hs, ha⟩ := dp_lst p1
      rw [dpAll_bls ha] at hs
      exact ⟨a, bs, rfl, ex_l m.ex hs, q _ _ _ _ (Ex.refl _) m ⟨rfl, rfl⟩⟩
theorem ev_sumL {ns : List Int} (h : Ev ta σ G M (isD K (.list (ns.map .int)) M1)) : Ev (tCB (rSum K) (tCons ta tNil)) σ G M (isV (.int ns.sum) M1) :=
  ev_CB (Ps := [fun G v => Dp K G v (.list (ns.map .int))]) (ea_cons h ea_nil) fun G1 H F vs e m p Q q => by
    match vs, p with
    | [v], ⟨p1, _⟩ =>
      obtain ⟨a, xs, rfl, hs, ha⟩ := dp_lst p1
      rw [dpAll_ints ha] at hs
      exact ⟨a, ns, rfl, ex_l m.ex hs, q _ _ _ _ (Ex.refl _) m ⟨rfl, rfl⟩⟩
theorem ev_sumT {ns : List Int} (h : Ev ta σ G M (isD K (.tuple (ns.map .int)) M1)) : Ev (tCB (rSumT K) (tCons ta tNil)) σ G M (isV (.int ns.sum) M1) :=
  ev_CB (Ps := [fun G v => Dp K G v (.tuple (ns.map .int))]) (ea_cons h ea_nil) fun G1 H F vs e m p Q q => by
    match vs, p with
    | [v], ⟨p1, _⟩ =>
      obtain ⟨a, xs, rfl, hs, ha⟩ := dp_tup p1
      rw [dpAll_ints ha] at hs
      exact ⟨a, ns, rfl, ex_t m.ex hs, q _ _ _ _ (Ex.refl _) m ⟨rfl, rfl⟩⟩
def rLenS (K : PySem.W.Frag) : List V → Hp → VK → Prop := fun xs H Q => ∃ p ys, xs = [.ref p] ∧ (SqL K H p ys ∨ SqT K H p ys) ∧ Q (.int ys.length) H
def rListS (K : PySem.W.Frag) : List V → Hp → VK → Prop := fun xs H Q => ∃ p ys, xs = [.ref p] ∧ (SqL K H p ys ∨ SqT K H p ys) ∧ ∀ l, H l = none → Q (.ref l) (upd H l (.lst ys))
def rTupS (K : PySem.W.Frag) : List V → Hp → VK → Prop := fun xs H Q => ∃ p ys, xs = [.ref p] ∧ ((SqL K H p ys ∧ ∀ l, H l = none → Q (.ref l) (upd H l (.tup ys))) ∨ (SqT K H p ys ∧ Q (.ref p) H))
def rInt1 : List V → Hp → VK → Prop := fun xs H Q => (∃ i, xs = [.int i] ∧ Q (.int i) H) ∨ ∃ k, xs = [.bl k] ∧ Q (.int (if k then 1 else 0)) H
theorem c_len {X : Cx} : CallR X (.builtin "len") (rLenS X.K) := call_len_seq
theorem c_list {X : Cx} : CallR X (.type "list") (rListS X.K) := call_list_of
theorem c_tup {X : Cx} : CallR X (.type "tuple") (rTupS X.K) := call_tuple_of
theorem c_int {X : Cx} : CallR X (.type "int") rInt1 := call_int1
/-- len of data -/
theorem ev_lenL (h : Ev ta σ G M (isD K (.list ds) M1)) : Ev (tCB (rLenS K) (tCons ta tNil)) σ G M (isV (.int (ds.length : Int)) M1) :=
  ev_CB (Ps := [fun G v => Dp K G v (.list ds)]) (ea_cons h ea_nil) fun G1 H F vs e m p Q q => by
    match vs, p with
    | [v], ⟨p1, _⟩ =>
      obtain ⟨a, xs, rfl, hs, ha⟩ := dp_lst p1
      exact ⟨a, xs, rfl, .inl (ex_l m.ex hs), q _ _ _ _ (Ex.refl _) m ⟨by rw [dpa_len ha], rfl⟩⟩
theorem ev_lenT (h : Ev ta σ G M (isD K (.tuple ds) M1)) : Ev (tCB (rLenS K) (tCons ta tNil)) σ G M (isV (.int (ds.length : Int)) M1) :=
  ev_CB (Ps := [fun G v => Dp K G v (.tuple ds)]) (ea_cons h ea_nil) fun G1 H F vs e m p Q q => by
    match vs, p with
    | [v], ⟨p1, _⟩ =>
      obtain ⟨a, xs, rfl, hs, ha⟩ := dp_tup p1
      exact ⟨a, xs, rfl, .inr (ex_t m.ex hs), q _ _ _ _ (Ex.refl _) m ⟨by rw [dpa_len ha], rfl⟩⟩
/-- len of a list at an address -/
theorem ev_lenA {p : Addr} {xs : List V} (h : Ev ta σ G M (isV (.ref p) M1)) (hl : AtL K G M1 p xs) : Ev (tCB (rLenS K) (tCons ta tNil)) σ G M (isV (.int (xs.length : Int)) M1) :=
  ev_CB (Ps := [fun _ v => v = .ref p]) (ea_cons h ea_nil) fun G1 H F vs e m p' Q q => by
    match vs, p' with
    | [v], ⟨p1, _⟩ =>
      subst p1
      exact ⟨p, xs, rfl, .inl (hl G1 H F e m), q _ _ _ _ (Ex.refl _) m ⟨rfl, rfl⟩⟩
/-- list(..): a new list, owned -/
theorem ev_listA {p : Addr} {xs : List V} (h : Ev ta σ G M (isV (.ref p) M1)) (hl : AtL K G M1 p xs) (hd : DpAll K G xs ds) : Ev (tCB (rListS K) (tCons ta tNil)) σ G M (own K ds M1) :=
  ev_CB (Ps := [fun _ v => v = .ref p]) (ea_cons h ea_nil) fun G1 H F vs e m p' Q q => by
    match vs, p' with
    | [v], ⟨p1, _⟩ =>
      subst p1
      exact ⟨p, xs, rfl, .inl (hl G1 H F e m), fun l hl => q _ G1 _ _ (Ex.refl _) (m.newMid hl) ⟨l, xs, rfl, rfl, dma hd e⟩⟩
theorem ev_listD (h : Ev ta σ G M (isD K (.list ds) M1)) : Ev (tCB (rListS K) (tCons ta tNil)) σ G M (own K ds M1) :=
  ev_CB (Ps := [fun G v => Dp K G v (.list ds)]) (ea_cons h ea_nil) fun G1 H F vs e m p Q q => by
    match vs, p with
    | [v], ⟨p1, _⟩ =>
      obtain ⟨a, xs, rfl, hs, ha⟩ := dp_lst p1
      exact ⟨a, xs, rfl, .inl (ex_l m.ex hs), fun l hl => q _ G1 _ _ (Ex.refl _) (m.newMid hl) ⟨l, xs, rfl, rfl, ha⟩⟩
theorem ev_listT (h : Ev ta σ G M (isD K (.tuple ds) M1)) : Ev (tCB (rListS K) (tCons ta tNil)) σ G M (own K ds M1) :=
  ev_CB (Ps := [fun G v => Dp K G v (.tuple ds)]) (ea_cons h ea_nil) fun G1 H F vs e m p Q q => by
    match vs, p with
    | [v], ⟨p1, _⟩ =>
      obtain ⟨a, xs, rfl, hs, ha⟩ := dp_tup p1
      exact ⟨a, xs, rfl, .inr (ex_t m.ex hs), fun l hl => q _ G1 _ _ (Ex.refl _) (m.newMid hl) ⟨l, xs, rfl, rfl, ha⟩⟩
theorem ev_tupD (h : Ev ta σ G M (isD K (.list ds) M1)) : Ev (tCB (rTupS K) (tCons ta tNil)) σ G M (isD K (.tuple ds) M1) :=
  ev_CB (Ps := [fun G v => Dp K G v (.list ds)]) (ea_cons h ea_nil) fun G1 H F vs e m p Q q => by
    match vs, p with
    | [v], ⟨p1, _⟩ =>
      obtain ⟨a, xs, rfl, hs, ha⟩ := dp_lst p1
      refine ⟨a, xs, rfl, .inl ⟨ex_l m.ex hs, fun l hl => ?_⟩⟩
      have g1 := m.free hl
      exact q _ _ _ _ (Ex.new g1) (m.newF hl) ⟨.tup (SqT.of upd_same) (dma ha (Ex.new g1)), rfl⟩
theorem ev_tupT (h : Ev ta σ G M (isD K (.tuple ds) M1)) : Ev (tCB (rTupS K) (tCons ta tNil)) σ G M (isD K (.tuple ds) M1) :=
  ev_CB (Ps := [fun G v => Dp K G v (.tuple ds)]) (ea_cons h ea_nil) fun G1 H F vs e m p Q q => by
    match vs, p with
    | [v], ⟨p1, _⟩ =>
      obtain ⟨a, xs, rfl, hs, ha⟩ := dp_tup p1
      exact ⟨a, xs, rfl, .inr ⟨ex_t m.ex hs, q _ _ _ _ (Ex.refl _) m ⟨p1, rfl⟩⟩⟩
theorem ev_int (h : Ev ta σ G M (isV (.int i) M1)) : Ev (tCB rInt1 (tCons ta tNil)) σ G M (isV (.int i) M1) :=
  ev_CB (Ps := [fun _ v => v = .int i]) (ea_cons h ea_nil) fun G1 H F vs e m p' Q q => by
    match vs, p' with
    | [v], ⟨p1, _⟩ =>
      subst p1
      exact .inl ⟨i, rfl, q _ _ _ _ (Ex.refl _) m ⟨rfl, rfl⟩⟩
theorem ev_intB {b : Bool} (h : Ev ta σ G M (isV (.bl b) M1)) : Ev (tCB rInt1 (tCons ta tNil)) σ G M (isV (.int (if b then 1 else 0)) M1) :=
  ev_CB (Ps := [fun _ v => v = .bl b]) (ea_cons h ea_nil) fun G1 H F vs e m p' Q q => by
    match vs, p' with
    | [v], ⟨p1, _⟩ =>
      subst p1
      exact .inr ⟨b, rfl, q _ _ _ _ (Ex.refl _) m ⟨rfl, rfl⟩⟩
/-- slices -/
theorem dpa_drop : ∀ {vs : List V} {ds : List PyData} (n : Nat), DpAll K G vs ds → DpAll K G (vs.drop n) (ds.drop n)
  | _, _, 0, h => h
  | _, [], n + 1, h => by cases h; exact .nil
  | _, d :: ds, n + 1, h => by
    cases h with
    | cons _ h2 => exact dpa_drop n h2
theorem dpa_take : ∀ {vs : List V} {ds : List PyData} (n : Nat), DpAll K G vs ds → DpAll K G (vs.take n) (ds.take n)
  | _, _, 0, h => .nil
  | _, [], n + 1, h => by cases h; exact .nil
  | _, d :: ds, n + 1, h => by
    cases h with
    | cons h1 h2 => exact .cons h1 (dpa_take n h2)
theorem dpa_rev : ∀ {vs : List V} {ds : List PyData}, DpAll K G vs ds → DpAll K G vs.reverse ds.reverse
  | _, [], h => by cases h; exact .nil
  | _, d :: ds, h => by
    cases h with
    | cons h1 h2 =>
      rw [List.reverse_cons, List.reverse_cons]
      exact dpa_app (dpa_rev h2) (.cons h1 .nil)
def cutD (ds : List PyData) (lo hi : Option Int) : List PyData := (ds.drop (HT.sIx ds.length 0 lo)).take (HT.sIx ds.length ds.length hi - HT.sIx ds.length 0 lo)
theorem dpa_cut {vs : List V} (h : DpAll K G vs ds) (lo hi : Option Int) : DpAll K G (cutV vs lo hi) (cutD ds lo hi) := by
  unfold cutV cutD
  rw [dpa_len h]
  exact dpa_take _ (dpa_drop _ h)
def EvO (to : TO) (σ : L2.St) (G : Hp) (M : Mem) (o : Option Int) (M' : Mem) : Prop := ∀ G1 H F, Ex G G1 → Me G1 (M ++ F) H → ∀ Q : Option Int → Hp → Prop, (∀ G2 H2, Ex G1 G2 → Me G2 (M' ++ F) H2 → Q o H2) → to σ H Q
theorem eo_none : EvO tNoPart σ G M none M := fun G1 H F e m Q q => q G1 H (Ex.refl _) m
theorem eo_some (h : Ev ta σ G M (isV (.int i) M1)) : EvO (tPart ta) σ G M (some i) M1 := fun G1 H F e m Q q => h G1 H F e m _ fun v G2 M2 H2 e2 m2 r => by
  obtain ⟨rfl, rfl⟩ := r
  exact ⟨i, rfl, q _ _ e2 m2⟩
theorem ev_slL {tl th : TO} {lo hi : Option Int} (h : Ev te σ G M (isD K (.list ds) M1)) (hl : EvO tl σ G M1 lo M1) (hh : EvO th σ G M1 hi M1) : Ev (tSl (rSlL K) te tl th) σ G M (own K (cutD ds lo hi) M1) := fun G1 H F e m Q q =>
  h G1 H F e m _ fun v G2 M2 H2 e2 m2 r => by
    obtain ⟨dv, rfl⟩ := r
    refine hl G2 H2 F (e.trans e2) m2 _ fun G3 H3 e3 m3 => hh G3 H3 F ((e.trans e2).trans e3) m3 _ fun G4 H4 e4 m4 => ?_
    obtain ⟨a, xs, rfl, hs, ha⟩ := dp_lst (dm dv (e3.trans e4))
    exact ⟨a, xs, rfl, ex_l m4.ex hs, fun p hp => q _ G4 _ _ ((e2.trans e3).trans e4) (m4.newMid hp) ⟨p, _, rfl, rfl, dpa_cut ha lo hi⟩⟩
theorem ev_slLA {tl th : TO} {lo hi : Option Int} {p : Addr} {xs : List V} (h : Ev te σ G M (isV (.ref p) M1)) (hA : AtL K G M1 p xs) (hd : DpAll K G xs ds) (hl : EvO tl σ G M1 lo M1) (hh : EvO th σ G M1 hi M1) : Ev (tSl (rSlL K) te tl th) σ G M (own K (cutD ds lo hi) M1) := fun G1 H F e m Q q =>
  h G1 H F e m _ fun v G2 M2 H2 e2 m2 r => by
    obtain ⟨rfl, rfl⟩ := r
    refine hl G2 H2 F (e.trans e2) m2 _ fun G3 H3 e3 m3 => hh G3 H3 F ((e.trans e2).trans e3) m3 _ fun G4 H4 e4 m4 => ?_
    have e14 := ((e.trans e2).trans e3).trans e4
    exact ⟨p, xs, rfl, hA _ _ _ e14 m4, fun p hp => q _ G4 _ _ ((e2.trans e3).trans e4) (m4.newMid hp) ⟨p, _, rfl, rfl, dpa_cut (dma hd e14) lo hi⟩⟩
theorem ev_revL (h : Ev te σ G M (isD K (.list ds) M1)) : Ev (tRevL K te) σ G M (own K ds.reverse M1) := fun G1 H F e m Q q =>
  h G1 H F e m _ fun v G2 M2 H2 e2 m2 r => by
    obtain ⟨dv, rfl⟩ := r
    obtain ⟨a, xs, rfl, hs, ha⟩ := dp_lst dv
    exact ⟨a, xs, rfl, ex_l m2.ex hs, fun p hp => q _ G2 _ _ e2 (m2.newMid hp) ⟨p, _, rfl, rfl, dpa_rev ha⟩⟩
/-! methods of an owned list -/
theorem ev_append {P1 : Hp → V → Prop} [Mono P1] {p : Addr} {xs : List V} {n : Nat} (h : Ev te σ G M (isV (.ref p) M)) (h2 : Ev ta σ G M (isP P1 M1)) (hl : M1[n]? = some (p, .lst xs)) (hl0 : ∃ (k : Nat) (ys : List V), M[k]? = some (p, HO.lst ys)) (hz : xs.length ≤ 100000) :
    Ev (tBM K "list" rAppend te (tCons ta tNil)) σ G M (fun G v M' => v = .non ∧ ∃ y, P1 G y ∧ M' = M1.set n (p, .lst (xs ++ [y]))) := fun G1 H F e m Q q =>
  h G1 H F e m _ fun v G2 M2 H2 e2 m2 r => by
    obtain ⟨rfl, rfl⟩ := r
    obtain ⟨k, ys, hk⟩ := hl0
    refine ⟨.inl ⟨rfl, ys, SqL.of (m2.getF hk)⟩, h2 G2 H2 F (e.trans e2) m2 _ fun y G3 M3 H3 e3 m3 r3 => ?_⟩
    obtain ⟨py, rfl⟩ := r3
    exact ⟨p, xs, y, rfl, rfl, m3.getF hl, sz_ok hz, q _ G3 _ _ (e2.trans e3) (m3.putF hl) ⟨rfl, y, py, rfl⟩⟩
end
/-! ### the rules that speak of the written part, it being named (within a comprehension's block too) -/
section
variable {X : Cx} {K : PySem.W.Frag}
theorem k_len (hK : X.K = K) : CallR X (.builtin "len") (rLenS K) := hK ▸ c_len
theorem k_list (hK : X.K = K) : CallR X (.type "list") (rListS K) := hK ▸ c_list
theorem k_tup (hK : X.K = K) : CallR X (.type "tuple") (rTupS K) := hK ▸ c_tup
theorem k_isi (hK : X.K = K) : CallR X (.builtin "isinstance") (rIsi K) := hK ▸ call_isi
theorem k_isiT (hK : X.K = K) : CallR X (.builtin "isinstance") (rIsiT K) := hK ▸ call_isiT
theorem k_all (hK : X.K = K) (hc : X.calm = true) : CallR X (.builtin "all") (rAll K) := hK ▸ cr_all hc
theorem k_any (hK : X.K = K) (hc : X.calm = true) : CallR X (.builtin "any") (rAny K) := hK ▸ cr_any hc
theorem k_sum (hK : X.K = K) (hc : X.calm = true) : CallR X (.builtin "sum") (rSum K) := hK ▸ cr_sum hc
theorem k_sumT (hK : X.K = K) (hc : X.calm = true) : CallR X (.builtin "sum") (rSumT K) := hK ▸ cr_sumT hc
theorem k_eqD (hK : X.K = K) (hu : X.A.units + 64 < cLine) : OpR X (compareOp .Eq) (rEqD K) := hK ▸ op_eqD hu
theorem k_neD (hK : X.K = K) (hu : X.A.units + 64 < cLine) : OpR X (compareOp .NotEq) (rNeD K) := hK ▸ op_neD hu
theorem k_ixL (hK : X.K = K) : IxR X (rIxL K) := hK ▸ ix_list
theorem k_ixT (hK : X.K = K) : IxR X (rIxT K) := hK ▸ ix_tup
theorem k_slL (hK : X.K = K) : SlR X (rSlL K) := hK ▸ sl_list
theorem k_fld {e : Expr} {ta : TE} {f : Str} {pos : Pos} (hK : X.K = K) (he : PE X e ta) (hb : attributeBase e f X.env (eval e X.env) = eval e X.env) : PE X (.Attribute e f pos) (tFld K ta f) := hK ▸ pe_fld he hb
theorem k_iL {tg e : Expr} {tl : TE} (hK : X.K = K) (h : PE X e tl) (hi : PI X tg e (iList X.K tl)) : PI X tg e (iList K tl) := hK ▸ hi
end
end SX

set_option Elab.async false
set_option linter.all false
set_option maxRecDepth 100000
/-! SXe: data that is read wherever it stands; objects made; more statements. -/
namespace SX
open PySem PySem.Spec L2

/-- data as it stands in the heap itself -/
def Da (K : PySem.W.Frag) (G : Hp) (M : Mem) (v : V) (d : PyData) : Prop := ∀ G1 H F, Ex G G1 → Me G1 (M ++ F) H → Dp K H v d
section
variable {E : XK} {K : PySem.W.Frag} {σ : L2.St} {G G' H : Hp} {M M1 M2 M3 F : Mem} {R : Post} {P P' : Po} {te ta tb : TE} {tt : TT} {t u : TS} {x y z v : V} {d e : PyData} {ds : List PyData} {a b : Bool} {i : Nat}
theorem Da.of (h : Dp K G v d) : Da K G M v d := fun _ _ _ e m => dm h (e.trans m.ex)
theorem Da.ex (h : Da K G M v d) (e : Ex G G') : Da K G' M v d := fun G1 H F e1 m => h G1 H F (e.trans e1) m
theorem Da.lst {p : Addr} {xs : List V} (h : AtL K G M p xs) (hd : DpAll K G xs ds) : Da K G M (.ref p) (.list ds) := fun G1 H F e m => .lst (h G1 H F e m) (dma hd (e.trans m.ex))
theorem ev_eqA (h1 : Ev ta σ G M (isV x M1)) (h2 : Ev tb σ G M1 (isV y M2)) (a1 : Da K G M2 x d) (a2 : Da K G M2 y e) (s1 : SeqAt.shaped d = true) (s2 : SeqAt.shaped e = true) : Ev (tOp (rEqD K) ta tb) σ G M (isV (.bl (PyData.eqv d e)) M2) :=
  ev_op h1 h2 fun G1 H F x' y' ex m p1 p2 Q q => by
    subst p1 p2
    exact ⟨d, e, a1 G1 H F ex m, a2 G1 H F ex m, s1, s2, q _ G1 _ H (Ex.refl _) m ⟨rfl, rfl⟩⟩
theorem ev_neA (h1 : Ev ta σ G M (isV x M1)) (h2 : Ev tb σ G M1 (isV y M2)) (a1 : Da K G M2 x d) (a2 : Da K G M2 y e) (s1 : SeqAt.shaped d = true) (s2 : SeqAt.shaped e = true) : Ev (tOp (rNeD K) ta tb) σ G M (isV (.bl (!PyData.eqv d e)) M2) :=
  ev_op h1 h2 fun G1 H F x' y' ex m p1 p2 Q q => by
    subst p1 p2
    exact ⟨d, e, a1 G1 H F ex m, a2 G1 H F ex m, s1, s2, q _ G1 _ H (Ex.refl _) m ⟨rfl, rfl⟩⟩
theorem ev_isiA {T : String} (hT : T = "int" ∨ T = "bool" ∨ T = "tuple" ∨ T = "list" ∨ T = "str") (h : Ev ta σ G M (isV x M1)) (hd : Da K G M1 x d) : Ev (tCB (rIsi K) (tCons ta (tCons (tC (.ty T)) tNil))) σ G M (isV (.bl (isTy d T)) M1) :=
  ev_CB (Ps := [fun _ v => v = x, fun _ v => v = .ty T]) (ea_cons h (ea_cons ev_c ea_nil)) fun G1 H F vs e m p Q q => by
    match vs, p with
    | [v, c], ⟨p1, p2, _⟩ =>
      subst p1 p2
      have p1 := hd G1 H F e m
      refine ⟨v, .ty T, .type (tyName d), .type T, isTy d T, rfl, .ty T, tyx_of p1, kit_ty ?_, q _ _ _ _ (Ex.refl _) m ⟨rfl, rfl⟩⟩
      unfold isTy
      cases p1 <;> dsimp only [tyName] <;> rcases hT with rfl | rfl | rfl | rfl | rfl <;> decide +kernel
theorem atI_int {α : Type} {xs : List α} {i : Int} {x : α} (h0 : 0 ≤ i) (h : xs[i.toNat]? = some x) : atI xs i = some x := by
  have := L2.atI_nat (j := i.toNat) h
  rwa [Int.toNat_of_nonneg h0] at this
/-- a new instance -/
theorem ev_make {α : Type} {pre : α → Hp → Mem → List V → Prop} {post : α → Mem → Post} {tA : TA} {E : XK} {C : Addr} {Ps : List (Hp → V → Prop)} (xx : Addr → Addr → α) (h : EvA tA σ G M Ps M1)
    (hp : ∀ G1 p dx vs, Ex G G1 → AllP G1 Ps vs → pre (xx p dx) G1 (M1 ++ [(p, .ins C dx [])]) (.ref p :: vs))
    (hq : ∀ G1 p dx v M2, Ex G G1 → post (xx p dx) (M1 ++ [(p, .ins C dx [])]) G1 v M2 → v = .non ∧ R G1 (.ref p) M2) : Ev (tMake C (spec pre post) [] E tA) σ G M R := fun G1 H F e m Q q =>
  h G1 H F e m _ fun vs G2 H2 e2 m2 a p dx hpn hdn hne => by
    have hp2 : upd H2 dx (.own p) p = none := by rw [upd_ne hne.symm]; exact hpn
    refine ⟨xx p dx, G2, _, F, (m2.new hdn).newMid hp2, by rw [List.append_nil]; exact hp G2 p dx vs (e.trans e2) a, fun v G3 M3 H3 e3 m3 r => ?_⟩
    obtain ⟨rfl, r3⟩ := hq G3 p dx v M3 ((e.trans e2).trans e3) r
    exact ⟨rfl, q _ G3 M3 H3 (e2.trans e3) m3 r3⟩
/-- o.f = e -/
theorem sv_fld {tv : TE} {f : Str} {p C dx : Addr} {fs : List (Str × V)} {n : Nat} (h : Ev tv σ G M R) (h1 : ∀ G1 v M1, Ex G G1 → R G1 v M1 → Ev ta σ G1 M1 (isV (.ref p) M1) ∧ M1[n]? = some (p, .ins C dx fs)) (hc : Cls K C) (hn : NoAttr K C f) (hl : fs.length < 1000)
    (q : ∀ G1 G2 v M1, Ex G G1 → Ex G1 G2 → R G1 v M1 → P.nx G2 σ (M1.set n (p, .ins C dx (putF f v fs)))) : Sv E (sFld K ta tv f) σ G M P := fun G1 H F D e m hd =>
  h G1 H F e m _ fun v G2 M2 H2 e2 m2 r2 => by
    obtain ⟨ha, hM⟩ := h1 G2 v M2 (e.trans e2) r2
    refine ha G2 H2 F (Ex.refl _) m2 _ fun w G3 M3 H3 e3 m3 r3 => ?_
    obtain ⟨rfl, rfl⟩ := r3
    exact ⟨p, C, dx, fs, rfl, m3.getF hM, hc, hn, hl, hd.nx _ _ _ _ (e2.trans e3) (m3.putF hM) (q G2 G3 v _ (e.trans e2) e3 r2)⟩
/-- what is owned may be frozen behind an expression -/
theorem Ev.frzLast {o : HO} {p : Addr} {M0 : Mem} (h : Ev te σ G M (fun G v M' => R G v M')) (hR : ∀ G1 v M1, R G1 v M1 → ∃ p o M0, M1 = M0 ++ [(p, o)] ∧ ∀ G2, Ex G1 G2 → G2 p = some o → P1 G2 v M0) : Ev te σ G M P1 := fun G1 H F e m Q q =>
  h G1 H F e m Q fun v G2 M2 H2 e2 m2 r => by
    obtain ⟨p, o, M0, rfl, k⟩ := hR G2 v M2 r
    obtain ⟨m3, e3⟩ := m2.freezeLast
    exact q v _ M0 H2 (e2.trans e3) m3 (k _ e3 upd_same)
/-- freezing within a run -/
theorem sv_frzLast {p : Addr} {o : HO} {M0 : Mem} (h : ∀ G', Ex G G' → G' p = some o → Sv E t σ G' M0 P) : Sv E t σ G (M0 ++ [(p, o)]) P := fun G1 H F D e m hd => by
  obtain ⟨m3, e3⟩ := m.freezeLast
  exact h _ (e.trans e3) upd_same _ H F D (Ex.refl _) m3 (hd.up e3)
/-- forgetting what is owned -/
theorem sv_less {M' : Mem} (h : Sv E t σ G M P) : Sv E t σ G (M ++ M') P := fun G1 H F D e m hd => h G1 H F D e m.dropLast hd
/-- what is wanted, of less -/
theorem post_less {M' : Mem} {R : Post} (h : Ev te σ G M (fun G v M2 => ∃ Mx, M2 = M1 ++ Mx ∧ R G v M1)) : Ev te σ G M (fun G v M2 => M2 = M1 ∧ R G v M1) := fun G1 H F e m Q q =>
  h G1 H F e m Q fun v G2 M2 H2 e2 m2 r => by
    obtain ⟨Mx, rfl, r⟩ := r
    exact q v G2 M1 H2 e2 m2.dropLast ⟨rfl, r⟩
theorem sv_retL {M' : Mem} (h : Ev te σ G M R) (k : ∀ v G' M1, Ex G G' → R G' v M1 → ∃ M0 Mx, M1 = M0 ++ Mx ∧ P.rt G' v M0) : Sv E (tRet te) σ G M P := fun G1 H F D e m hd =>
  h G1 H F e m _ fun v G2 M2 H2 e2 m2 r => by
    obtain ⟨M0, Mx, eM, r'⟩ := k v G2 M2 (e.trans e2) r
    subst eM
    exact hd.rt v G2 M0 H2 e2 m2.dropLast r'
end

/-! ### names for the pieces of a law's own draws -/
structure Deck where
  a : Int
  b : Int
  c : Int
def Deck.ho (D : Deck) : HO := .lst [.int D.a, .int D.b, .int D.c]
def stir (c b : Int) : Int := ((((c * 48271 + b * 69621) % 2147483647) * ((c * 48271 + b * 69621) % 2147483647) + b) % 2147483629 * 40692) % 2147483399
/-- what is drawn, the deck then -/
def dv (D : Deck) (n : Int) : Int := if D.a > 0 then D.a % n else (stir D.c (D.b + 1) / 8) % n
def dn (D : Deck) (n : Int) : Deck := if D.a > 0 then ⟨D.a / n, D.b, D.c⟩ else ⟨D.a, D.b + 1, D.c⟩
theorem dv_lo {D : Deck} {n : Int} (h : 0 < n) : 0 ≤ dv D n := by
  unfold dv
  split <;> exact Int.emod_nonneg _ (by omega)
theorem dv_hi {D : Deck} {n : Int} (h : 0 < n) : dv D n < n := by
  unfold dv
  split <;> exact Int.emod_lt_of_pos _ h
abbrev drawPre : (Addr × Nat × Deck × Int) → Hp → Mem → List V → Prop := fun x G M vs => vs = [.ref x.1, .int x.2.2.2] ∧ 0 < x.2.2.2 ∧ x.2.2.2 < 2 ^ 200 ∧ M[x.2.1]? = some (x.1, x.2.2.1.ho)
abbrev drawPost : (Addr × Nat × Deck × Int) → Mem → Post := fun x M => isV (.int (dv x.2.2.1 x.2.2.2)) (M.set x.2.1 (x.1, (dn x.2.2.1 x.2.2.2).ho))
theorem ev_draw {σ : L2.St} {G : Hp} {M : Mem} {tA : TA} {E : XK} {dk : Addr} {D : Deck} {n : Int} {M1 : Mem} (i : Nat) (h : EvA tA σ G M [fun _ v => v = .ref dk, fun _ v => v = .int n] M1) (hi : M1[i]? = some (dk, D.ho)) (h0 : 0 < n) (h1 : n < 2 ^ 200) :
    Ev (tCall (spec drawPre drawPost) [] E tA) σ G M (isV (.int (dv D n)) (M1.set i (dk, (dn D n).ho))) :=
  ev_call (dk, i, D, n) h fun G1 vs e a => by
    match vs, a with
    | [v, w], ⟨p1, p2, _⟩ =>
      subst p1 p2
      exact ⟨rfl, h0, h1, hi⟩
end SX

set_option Elab.async false
set_option linter.all false
set_option maxRecDepth 100000
/-! SXf: sheets: what the program's own small defs come to. -/
namespace SX
open PySem PySem.Spec L2

def isInt : PyData → Bool
  | .int _ => true
  | _ => false
def intOf : PyData → Int
  | .int n => n
  | _ => 0
def isWhole (d : PyData) (lo hi : Int) : Bool := isInt d && (decide (lo ≤ intOf d) && decide (intOf d ≤ hi))
theorem isInt_of {d : PyData} (h : isTy d "int" = true) (h2 : isTy d "bool" = false) : d = .int (intOf d) := by
  cases d with
  | int n => rfl
  | bool b =>
    have : isTy (.bool b) "bool" = true := by show isTyS "bool" "bool" = true; decide +kernel
    rw [this] at h2
    cases h2
  | none => exact absurd h (by show ¬ (isTyS "NoneType" "int" = true); decide +kernel)
  | str s => exact absurd h (by show ¬ (isTyS "str" "int" = true); decide +kernel)
  | list s => exact absurd h (by show ¬ (isTyS "list" "int" = true); decide +kernel)
  | tuple s => exact absurd h (by show ¬ (isTyS "tuple" "int" = true); decide +kernel)
  | dict s => exact absurd h (by show ¬ (isTyS "dict" "int" = true); decide +kernel)
theorem isTy_int (n : Int) : isTy (.int n) "int" = true := by show isTyS "int" "int" = true; decide +kernel
theorem isTy_int_b (n : Int) : isTy (.int n) "bool" = false := by show isTyS "int" "bool" = false; decide +kernel
theorem isTy_tup (n : List PyData) : isTy (.tuple n) "tuple" = true := by show isTyS "tuple" "tuple" = true; decide +kernel
theorem isTy_lst (n : List PyData) : isTy (.list n) "list" = true := by show isTyS "list" "list" = true; decide +kernel
theorem isInt_ty (d : PyData) : (isTy d "int" && !isTy d "bool") = isInt d := by
  cases h : (isTy d "int" && !isTy d "bool") with
  | true =>
    simp only [Bool.and_eq_true, Bool.not_eq_true'] at h
    rw [isInt_of h.1 h.2]
    rfl
  | false =>
    cases d with
    | int n =>
      rw [isTy_int, isTy_int_b] at h
      cases h
    | _ => rfl
theorem tup_of {d : PyData} (h : isTy d "tuple" = true) : ∃ ds, d = .tuple ds := by
  cases d with
  | tuple ds => exact ⟨ds, rfl⟩
  | int n => exact absurd h (by show ¬ (isTyS "int" "tuple" = true); decide +kernel)
  | bool b => exact absurd h (by show ¬ (isTyS "bool" "tuple" = true); decide +kernel)
  | none => exact absurd h (by show ¬ (isTyS "NoneType" "tuple" = true); decide +kernel)
  | str s => exact absurd h (by show ¬ (isTyS "str" "tuple" = true); decide +kernel)
  | list s => exact absurd h (by show ¬ (isTyS "list" "tuple" = true); decide +kernel)
  | dict s => exact absurd h (by show ¬ (isTyS "dict" "tuple" = true); decide +kernel)
theorem lst_of {d : PyData} (h : isTy d "list" = true) : ∃ ds, d = .list ds := by
  cases d with
  | list ds => exact ⟨ds, rfl⟩
  | int n => exact absurd h (by show ¬ (isTyS "int" "list" = true); decide +kernel)
  | bool b => exact absurd h (by show ¬ (isTyS "bool" "list" = true); decide +kernel)
  | none => exact absurd h (by show ¬ (isTyS "NoneType" "list" = true); decide +kernel)
  | str s => exact absurd h (by show ¬ (isTyS "str" "list" = true); decide +kernel)
  | tuple s => exact absurd h (by show ¬ (isTyS "tuple" "list" = true); decide +kernel)
  | dict s => exact absurd h (by show ¬ (isTyS "dict" "list" = true); decide +kernel)

abbrev wholePre (K : PySem.W.Frag) : (PyData × Int × Int) → Hp → Mem → List V → Prop := fun x G M vs => ∃ v, vs = [v, .int x.2.1, .int x.2.2] ∧ Dp K G v x.1
abbrev wholePost : (PyData × Int × Int) → Mem → Post := fun x M => isV (.bl (isWhole x.1 x.2.1 x.2.2)) M
/-- one argument, any data; a truth value back -/
abbrev d1Pre (K : PySem.W.Frag) : PyData → Hp → Mem → List V → Prop := fun d G M vs => ∃ v, vs = [v] ∧ Dp K G v d
abbrev b1Post (f : PyData → Bool) : PyData → Mem → Post := fun d M => isV (.bl (f d)) M
theorem ev_whole {K : PySem.W.Frag} {σ : L2.St} {G : Hp} {M M1 : Mem} {tA : TA} {E : XK} {d : PyData} {lo hi : Int} (h : EvA tA σ G M [fun G v => Dp K G v d, fun _ v => v = .int lo, fun _ v => v = .int hi] M1) :
    Ev (tCall (spec (wholePre K) wholePost) [] E tA) σ G M (isV (.bl (isWhole d lo hi)) M1) :=
  ev_call (d, lo, hi) h fun G1 vs e a => by
    match vs, a with
    | [v, w, u], ⟨p1, p2, p3, _⟩ =>
      subst p2 p3
      exact ⟨v, rfl, p1⟩
theorem ev_d1 {K : PySem.W.Frag} {σ : L2.St} {G : Hp} {M M1 : Mem} {ta : TE} {E : XK} {d : PyData} {f : PyData → Bool} (h : Ev ta σ G M (isD K d M1)) :
    Ev (tCall (spec (d1Pre K) (b1Post f)) [] E (tCons ta tNil)) σ G M (isV (.bl (f d)) M1) :=
  ev_call d (ea_cons h ea_nil) fun G1 vs e a => by
    match vs, a with
    | [v], ⟨p1, _⟩ => exact ⟨v, rfl, p1⟩
def horner (base : Int) (figs : List Int) (last : Int) : Int := figs.foldr (fun f v => v * base + f) last
/-! columns -/
def colD (c : List Int) : PyData := .tuple (c.map .int)
def isCol (base rows : Int) : PyData → Bool
  | .tuple ds => decide ((ds.length : Int) = rows) && ds.all fun d => isWhole d 0 (base - 1)
  | _ => false
def areCols (base rows : Int) : PyData → Bool
  | .list ds => ds.all fun d => isCol base rows d
  | _ => false
def GoodCol (b r : Int) (c : List Int) : Prop := (c.length : Int) = r ∧ ∀ f ∈ c, 0 ≤ f ∧ f < b
theorem isCol_good {b r : Int} {c : List Int} (h : GoodCol b r c) : isCol b r (colD c) = true := by
  unfold isCol colD
  simp only [List.length_map, Bool.and_eq_true, decide_eq_true_eq, List.all_eq_true, List.mem_map]
  refine ⟨h.1, ?_⟩
  rintro d ⟨f, hf, rfl⟩
  have := h.2 f hf
  exact Bool.and_eq_true_iff.mpr ⟨rfl, Bool.and_eq_true_iff.mpr ⟨decide_eq_true this.1, decide_eq_true (show f ≤ b - 1 by omega)⟩⟩
theorem areCols_good {b r : Int} {cs : List (List Int)} (h : ∀ c ∈ cs, GoodCol b r c) : areCols b r (.list (cs.map colD)) = true := by
  unfold areCols
  simp only [List.all_eq_true, List.mem_map]
  rintro d ⟨c, hc, rfl⟩
  exact isCol_good (h c hc)
def valueOf (b : Int) (cs : List (List Int)) : Int := horner b (cs.map List.sum) 0
/-! a sheet as it stands -/
theorem s_br : ¬ (("_base" : Str) = "_rows") := by decide +kernel
theorem s_bc : ¬ (("_base" : Str) = "_columns") := by decide +kernel
theorem s_rb : ¬ (("_rows" : Str) = "_base") := by decide +kernel
theorem s_rc : ¬ (("_rows" : Str) = "_columns") := by decide +kernel
theorem s_cb : ¬ (("_columns" : Str) = "_base") := by decide +kernel
theorem s_cr : ¬ (("_columns" : Str) = "_rows") := by decide +kernel
def shF (b r : V) (l : V) : List (Str × V) := putF "_columns" l (putF "_rows" r (putF "_base" b []))
theorem shF_b {b r l : V} : (shF b r l).lookup ("_base" : Str) = some b := by
  unfold shF
  rw [lookup_putF, if_neg s_bc, lookup_putF, if_neg s_br, lookup_putF, if_pos rfl]
theorem shF_r {b r l : V} : (shF b r l).lookup ("_rows" : Str) = some r := by
  unfold shF
  rw [lookup_putF, if_neg s_rc, lookup_putF, if_pos rfl]
theorem shF_c {b r l : V} : (shF b r l).lookup ("_columns" : Str) = some l := by
  unfold shF
  rw [lookup_putF, if_pos rfl]
theorem shF_no {b r l : V} {m : Str} (h1 : ¬ m = "_base") (h2 : ¬ m = "_rows") (h3 : ¬ m = "_columns") : (shF b r l).lookup m = none := by
  unfold shF
  rw [lookup_putF, if_neg h3, lookup_putF, if_neg h2, lookup_putF, if_neg h1]
  rfl
/-- a sheet at p, whoever owns its list -/
def ShAt (K : PySem.W.Frag) (C : Addr) (G : Hp) (M : Mem) (p : Addr) (b r : Int) (cs : List (List Int)) : Prop :=
  ∃ dx l xs, At G M p (.ins C dx (shF (.int b) (.int r) (.ref l))) ∧ AtL K G M l xs ∧ DpAll K G xs (cs.map colD)
theorem ShAt.ex {K : PySem.W.Frag} {C : Addr} {G G' : Hp} {M : Mem} {p : Addr} {b r : Int} {cs : List (List Int)} (h : ShAt K C G M p b r cs) (e : Ex G G') : ShAt K C G' M p b r cs := by
  obtain ⟨dx, l, xs, h1, h2, h3⟩ := h
  exact ⟨dx, l, xs, h1.ex e, h2.ex e, dma h3 e⟩
/-- a promise of a sheet's reading method -/
abbrev shPre (K : PySem.W.Frag) (C : Addr) : (Addr × Int × Int × List (List Int)) → Hp → Mem → List V → Prop := fun x G M vs => vs = [.ref x.1] ∧ ShAt K C G M x.1 x.2.1 x.2.2.1 x.2.2.2
theorem Ev.wk {te : TE} {σ : L2.St} {G : Hp} {M : Mem} {R : Post} (h : Ev te σ G M R) : ∀ {R' : Post}, (∀ G1 v M1, Ex G G1 → R G1 v M1 → R' G1 v M1) → Ev te σ G M R' := fun f => h.imp f
theorem kept_map {α : Type} (l : List α) (f : α → PyData) : kept (l.map f).length (fun _ => true) (fun i => ((l.map f)[i]?).getD .none) = l.map f := by
  rw [kept_all]
  apply List.ext_getElem?
  intro i
  rw [List.getElem?_map, List.getElem?_map]
  by_cases h : i < l.length
  · rw [List.getElem?_range (by rw [List.length_map]; exact h), List.getElem?_eq_getElem h]
    simp [List.getElem?_map, h]
  · rw [List.getElem?_eq_none (by simp; omega), List.getElem?_eq_none (by omega)]
    rfl
theorem kept_ids (ds : List PyData) : kept ds.length (fun _ => true) (fun i => (ds[i]?).getD .none) = ds := by
  have := kept_map ds id
  simpa using this
theorem kept_ext {n : Nat} {ds : List PyData} {fd : Nat → PyData} (hl : ds.length = n) (h : ∀ i d, ds[i]? = some d → fd i = d) : kept n (fun _ => true) fd = ds := by
  rw [kept_all]
  apply List.ext_getElem?
  intro i
  rw [List.getElem?_map]
  by_cases hi : i < n
  · rw [List.getElem?_range hi]
    have e : ds[i]? = some ds[i] := List.getElem?_eq_getElem (by omega)
    rw [e]
    exact congrArg some (h i _ e)
  · rw [List.getElem?_eq_none (by simp; omega), List.getElem?_eq_none (by omega)]
    rfl
theorem kept_const {n : Nat} {x : Int} : kept n (fun _ => true) (fun _ => PyData.int x) = (List.replicate n x).map PyData.int := by
  rw [kept_all, List.map_replicate]
  apply List.ext_getElem?
  intro k
  rw [List.getElem?_map]
  by_cases hk : k < n
  · rw [List.getElem?_range hk, List.getElem?_replicate, if_pos hk]
    rfl
  · rw [List.getElem?_eq_none (by simp; omega), List.getElem?_eq_none (by simp; omega)]
    rfl
/-- the list of the script -/
def spLaw (K : PySem.W.Frag) : Sp := fun vs H Q _ => ∃ (a : Addr) (ns : List Int), vs = [.ref a] ∧ SqL K H a (ns.map V.int) ∧ ns.length ≤ 63 ∧ ∀ H', Q (.bl true) H'
abbrev lawPre (K : PySem.W.Frag) : List Int → Hp → Mem → List V → Prop := fun ns G M vs => ∃ v, vs = [v] ∧ Dp K G v (.list (ns.map .int)) ∧ ns.length ≤ 63 ∧ M = []
abbrev lawPost : List Int → Mem → Post := fun _ M G v M' => v = .bl true
theorem law_fin {P : Program} {w : World} {K : PySem.W.Frag} {mg : Str → Option Value} {base : Heap} {CX : CXT} {k : Nat} {f : Addr} {fd : FuncData} {ps : List Str} (F : FnOk P w K mg base CX k f fd ps (spec (lawPre K) lawPost)) : FnOk P w K mg base CX k f fd ps (spLaw K) :=
  F.imp fun vs H Q E h => by
    obtain ⟨a, ns, rfl, hs, hl, q⟩ := h
    refine ⟨ns, H, [], [], ⟨Ex.refl H, fun p hp => (by cases hp), List.nodup_nil⟩, ⟨.ref a, rfl, .lst hs (ints_dpAll ns), hl, rfl⟩, fun v G' M' H' _ _ r => ?_⟩
    subst r
    exact q H'
end SX
namespace SX
open PySem PySem.Spec L2
section
variable {K : PySem.W.Frag} {σ : L2.St} {G : Hp} {M M1 : Mem} {tl te : TE} {own' : List Nat} {k : Nat} {ds : List PyData}
theorem et_yes : EvT tYes σ G M true M := fun _ _ _ _ m _ q => q _ _ (Ex.refl _) m
theorem kept_bools {f : PyData → Bool} : kept ds.length (fun _ => true) (fun i => .bool (f ((ds[i]?).getD .none))) = (ds.map f).map .bool := by
  refine kept_ext (by simp) fun i d hd => ?_
  rw [List.map_map, List.getElem?_map] at hd
  cases q : ds[i]? with
  | none => rw [q] at hd; cases hd
  | some z => rw [q] at hd; simpa using hd
theorem all_map_id {f : PyData → Bool} : (ds.map f).all id = ds.all f := by simp [List.all_map, Function.comp_def]
theorem any_map_id {f : PyData → Bool} : (ds.map f).any id = ds.any f := by simp [List.any_map, Function.comp_def]
theorem ev_bsL {f : PyData → Bool} (hs : Ev tl σ G M (isD K (.list ds) M1)) (hn : ds.length ≤ 100000)
    (he : ∀ (i : Nat) d x G', ds[i]? = some d → Ex G G' → Dp K G' x d → Ev te ((wipe σ own').set k (some x)) G' M1 (isV (.bl (f d)) M1)) (hw : ∀ x, wipe ((wipe σ own').set k (some x)) own' = wipe σ own') :
    Ev (tLc (iList K tl) (gName k) tYes te own') σ G M (isD K (.list ((ds.map f).map .bool)) M1) := by
  rw [← kept_bools]
  refine Ev.frz (ev_lcL (K := K) (fun _ => true) (fun _ => M1) _ hs hn (fun _ _ _ _ _ _ _ => et_yes) (fun i d x G' hd e dx _ => ?_) (fun _ _ => rfl) hw)
  rw [hd]
  exact ev_bD (he i d x G' hd e dx)
theorem ev_bsT {f : PyData → Bool} (hs : Ev tl σ G M (isD K (.tuple ds) M1)) (hn : ds.length ≤ 100000)
    (he : ∀ (i : Nat) d x G', ds[i]? = some d → Ex G G' → Dp K G' x d → Ev te ((wipe σ own').set k (some x)) G' M1 (isV (.bl (f d)) M1)) (hw : ∀ x, wipe ((wipe σ own').set k (some x)) own' = wipe σ own') :
    Ev (tLc (iTup K tl) (gName k) tYes te own') σ G M (isD K (.list ((ds.map f).map .bool)) M1) := by
  rw [← kept_bools]
  refine Ev.frz (ev_lcT (K := K) (fun _ => true) (fun _ => M1) _ hs hn (fun _ _ _ _ _ _ _ => et_yes) (fun i d x G' hd e dx _ => ?_) (fun _ _ => rfl) hw)
  rw [hd]
  exact ev_bD (he i d x G' hd e dx)
theorem ev_bsR {tn : TA} {n : Int} {f : Nat → Bool} (hs : EvA tn σ G M [fun _ v => v = .int n] M1) (hn : n ≤ 100000) (hn0 : -100000 ≤ n)
    (he : ∀ (i : Nat) G', i < n.toNat → Ex G G' → Ev te ((wipe σ own').set k (some (.int (0 + (i : Int))))) G' M1 (isV (.bl (f i)) M1)) (hw : ∀ x, wipe ((wipe σ own').set k (some x)) own' = wipe σ own') :
    Ev (tLc (iRng1 tn) (gName k) tYes te own') σ G M (isD K (.list (((List.range n.toNat).map f).map .bool)) M1) := by
  have := Ev.frz (ev_lcR (K := K) (own' := own') (k := k) (fun _ => true) (fun _ => M1) (fun i => .bool (f i)) hs hn hn0 (fun _ _ _ _ => et_yes) (fun i G' hi e _ => ev_bD (he i G' hi e)) (fun _ _ => rfl) hw)
  rw [kept_all] at this
  rw [List.map_map]
  exact this
theorem ev_allL {f : PyData → Bool} (hs : Ev tl σ G M (isD K (.list ds) M1)) (hn : ds.length ≤ 100000)
    (he : ∀ (i : Nat) d x G', ds[i]? = some d → Ex G G' → Dp K G' x d → Ev te ((wipe σ own').set k (some x)) G' M1 (isV (.bl (f d)) M1)) (hw : ∀ x, wipe ((wipe σ own').set k (some x)) own' = wipe σ own') :
    Ev (tCB (rAll K) (tCons (tLc (iList K tl) (gName k) tYes te own') tNil)) σ G M (isV (.bl (ds.all f)) M1) := by
  rw [← all_map_id]
  exact ev_all (ev_bsL hs hn he hw)
theorem ev_allT {f : PyData → Bool} (hs : Ev tl σ G M (isD K (.tuple ds) M1)) (hn : ds.length ≤ 100000)
    (he : ∀ (i : Nat) d x G', ds[i]? = some d → Ex G G' → Dp K G' x d → Ev te ((wipe σ own').set k (some x)) G' M1 (isV (.bl (f d)) M1)) (hw : ∀ x, wipe ((wipe σ own').set k (some x)) own' = wipe σ own') :
    Ev (tCB (rAll K) (tCons (tLc (iTup K tl) (gName k) tYes te own') tNil)) σ G M (isV (.bl (ds.all f)) M1) := by
  rw [← all_map_id]
  exact ev_all (ev_bsT hs hn he hw)
theorem ev_anyL {f : PyData → Bool} (hs : Ev tl σ G M (isD K (.list ds) M1)) (hn : ds.length ≤ 100000)
    (he : ∀ (i : Nat) d x G', ds[i]? = some d → Ex G G' → Dp K G' x d → Ev te ((wipe σ own').set k (some x)) G' M1 (isV (.bl (f d)) M1)) (hw : ∀ x, wipe ((wipe σ own').set k (some x)) own' = wipe σ own') :
    Ev (tCB (rAny K) (tCons (tLc (iList K tl) (gName k) tYes te own') tNil)) σ G M (isV (.bl (ds.any f)) M1) := by
  rw [← any_map_id]
  exact ev_any (ev_bsL hs hn he hw)
theorem ev_allR {tn : TA} {n : Int} {f : Nat → Bool} (hs : EvA tn σ G M [fun _ v => v = .int n] M1) (hn : n ≤ 100000) (hn0 : -100000 ≤ n)
    (he : ∀ (i : Nat) G', i < n.toNat → Ex G G' → Ev te ((wipe σ own').set k (some (.int (0 + (i : Int))))) G' M1 (isV (.bl (f i)) M1)) (hw : ∀ x, wipe ((wipe σ own').set k (some x)) own' = wipe σ own') :
    Ev (tCB (rAll K) (tCons (tLc (iRng1 tn) (gName k) tYes te own') tNil)) σ G M (isV (.bl ((List.range n.toNat).all f)) M1) := by
  have e : ((List.range n.toNat).map f).all id = (List.range n.toNat).all f := by simp [List.all_map, Function.comp_def]
  rw [← e]
  exact ev_all (K := K) (ev_bsR hs hn hn0 he hw)
end
end SX
namespace SX
open PySem PySem.Spec L2
abbrev placePre (K : PySem.W.Frag) : (Int × List Int × Int) → Hp → Mem → List V → Prop := fun x G M vs => ∃ v, vs = [.int x.1, v, .int x.2.2] ∧ Dp K G v (.list (x.2.1.map .int)) ∧ -(2 ^ 64) < x.1 ∧ x.1 < 2 ^ 64
abbrev placePost : (Int × List Int × Int) → Mem → Post := fun x M => isV (.int (horner x.1 x.2.1 x.2.2)) M
def dlen : PyData → Nat
  | .tuple ds => ds.length
  | .list ds => ds.length
  | _ => 0
/-- (base, rows, data): a truth value back; what is long is not let -/
abbrev colPre (K : PySem.W.Frag) : (Int × Int × PyData) → Hp → Mem → List V → Prop := fun x G M vs => ∃ v, vs = [.int x.1, .int x.2.1, v] ∧ Dp K G v x.2.2 ∧ dlen x.2.2 ≤ 100000
abbrev colPost (f : Int → Int → PyData → Bool) : (Int × Int × PyData) → Mem → Post := fun x M => isV (.bl (f x.1 x.2.1 x.2.2)) M
theorem ev_col {K : PySem.W.Frag} {σ : L2.St} {G : Hp} {M M1 : Mem} {tA : TA} {E : XK} {f : Int → Int → PyData → Bool} {d : PyData} {b r : Int} (h : EvA tA σ G M [fun _ v => v = .int b, fun _ v => v = .int r, fun G v => Dp K G v d] M1) (hz : dlen d ≤ 100000) :
    Ev (tCall (spec (colPre K) (colPost f)) [] E tA) σ G M (isV (.bl (f b r d)) M1) :=
  ev_call (b, r, d) h fun G1 vs e a => by
    match vs, a with
    | [v, w, u], ⟨p1, p2, p3, _⟩ =>
      subst p1 p2
      exact ⟨u, rfl, p3, hz⟩
end SX
namespace SX
open PySem PySem.Spec L2
theorem At.more {G : Hp} {M M' : Mem} {a : Addr} {o : HO} (h : At G M a o) : At G (M ++ M') a o := fun G1 H F e m => h G1 H (M' ++ F) e (by rw [List.append_assoc] at m; exact m)
theorem AtL.more {K : PySem.W.Frag} {G : Hp} {M M' : Mem} {a : Addr} {xs : List V} (h : AtL K G M a xs) : AtL K G (M ++ M') a xs := fun G1 H F e m => h G1 H (M' ++ F) e (by rw [List.append_assoc] at m; exact m)
/-- data; a list may be owned, its items stand still -/
def Dt (K : PySem.W.Frag) (G : Hp) (M : Mem) (v : V) (d : PyData) : Prop := Dp K G v d ∨ ∃ a xs ds, v = .ref a ∧ d = .list ds ∧ AtL K G M a xs ∧ DpAll K G xs ds
theorem Dt.ex {K : PySem.W.Frag} {G G' : Hp} {M : Mem} {v : V} {d : PyData} (h : Dt K G M v d) (e : Ex G G') : Dt K G' M v d := by
  rcases h with h | ⟨a, xs, ds, h1, h2, h3, h4⟩
  · exact .inl (dm h e)
  · exact .inr ⟨a, xs, ds, h1, h2, h3.ex e, dma h4 e⟩
theorem Dt.da {K : PySem.W.Frag} {G : Hp} {M : Mem} {v : V} {d : PyData} (h : Dt K G M v d) : Da K G M v d := by
  rcases h with h | ⟨a, xs, ds, rfl, rfl, h3, h4⟩
  · exact .of h
  · exact .lst h3 h4
theorem Dt.lst {K : PySem.W.Frag} {G : Hp} {M : Mem} {v : V} {ds : List PyData} (h : Dt K G M v (.list ds)) : ∃ a xs, v = .ref a ∧ AtL K G M a xs ∧ DpAll K G xs ds := by
  rcases h with h | ⟨a, xs, ds', h1, h2, h3, h4⟩
  · obtain ⟨a, xs, h1, h2, h3⟩ := dp_lst h
    exact ⟨a, xs, h1, .G h2, h3⟩
  · cases h2
    exact ⟨a, xs, h1, h3, h4⟩
abbrev colsPre (K : PySem.W.Frag) : (Int × Int × PyData) → Hp → Mem → List V → Prop := fun x G M vs => ∃ v, vs = [.int x.1, .int x.2.1, v] ∧ Dt K G M v x.2.2 ∧ dlen x.2.2 ≤ 100000 ∧ ∀ ds, x.2.2 = .list ds → ∀ c ∈ ds, dlen c ≤ 100000
theorem ev_cols {K : PySem.W.Frag} {σ : L2.St} {G : Hp} {M M1 : Mem} {tA : TA} {E : XK} {f : Int → Int → PyData → Bool} {d : PyData} {b r : Int} {x : V} (h : EvA tA σ G M [fun _ v => v = .int b, fun _ v => v = .int r, fun _ v => v = x] M1) (hd : Dt K G M1 x d) (hz : dlen d ≤ 100000) (hy : ∀ ds, d = .list ds → ∀ c ∈ ds, dlen c ≤ 100000) :
    Ev (tCall (spec (colsPre K) (colPost f)) [] E tA) σ G M (isV (.bl (f b r d)) M1) :=
  ev_call (b, r, d) h fun G1 vs e a => by
    match vs, a with
    | [v, w, u], ⟨p1, p2, p3, _⟩ =>
      subst p1 p2 p3
      exact ⟨u, rfl, hd.ex e, hz, hy⟩
/-- good arguments of a sheet -/
structure GoodSh (b r : Int) (cs : List (List Int)) : Prop where
  b2 : 2 ≤ b
  b12 : b ≤ 12
  r1 : 1 ≤ r
  r4 : r ≤ 4
  len : cs.length ≤ 10000
  col : ∀ c ∈ cs, GoodCol b r c
theorem dlen_colD (c : List Int) : dlen (colD c) = c.length := by simp [dlen, colD]
theorem GoodSh.clen {b r : Int} {cs : List (List Int)} (h : GoodSh b r cs) {c : List Int} (hc : c ∈ cs) : c.length ≤ 4 := by
  have := (h.col c hc).1
  have := h.r4
  omega
/-- a sheet is made: x = (p, dx, b, r, cs); columns a list of data that may be owned -/
abbrev mkShPre (K : PySem.W.Frag) (C : Addr) : (Addr × Addr × Int × Int × List (List Int)) → Hp → Mem → List V → Prop := fun x G M vs => ∃ a xs M0, vs = [.ref x.1, .int x.2.2.1, .int x.2.2.2.1, .ref a] ∧ M = M0 ++ [(x.1, .ins C x.2.1 [])] ∧ AtL K G M0 a xs ∧ DpAll K G xs (x.2.2.2.2.map colD) ∧ GoodSh x.2.2.1 x.2.2.2.1 x.2.2.2.2
abbrev mkShPost (K : PySem.W.Frag) (C : Addr) : (Addr × Addr × Int × Int × List (List Int)) → Mem → Post := fun x M G v M' => v = .non ∧ ∃ l xs M0, M = M0 ++ [(x.1, .ins C x.2.1 [])] ∧ M' = M0 ++ [(x.1, .ins C x.2.1 (shF (.int x.2.2.1) (.int x.2.2.2.1) (.ref l))), (l, .lst xs)] ∧ DpAll K G xs (x.2.2.2.2.map colD)
end SX
namespace SX
open PySem PySem.Spec L2
theorem ev_place {K : PySem.W.Frag} {σ : L2.St} {G : Hp} {M M1 : Mem} {tA : TA} {E : XK} {figs : List Int} {b last : Int} (h : EvA tA σ G M [fun _ v => v = .int b, fun G v => Dp K G v (.list (figs.map .int)), fun _ v => v = .int last] M1) (hb : -(2 ^ 64) < b ∧ b < 2 ^ 64) :
    Ev (tCall (spec (placePre K) placePost) [] E tA) σ G M (isV (.int (horner b figs last)) M1) :=
  ev_call (b, figs, last) h fun G1 vs e a => by
    match vs, a with
    | [v, w, u], ⟨p1, p2, p3, _⟩ =>
      subst p1 p3
      exact ⟨w, rfl, p2, hb⟩
abbrev shGPre (K : PySem.W.Frag) (C : Addr) : (Addr × Int × Int × List (List Int)) → Hp → Mem → List V → Prop := fun x G M vs => shPre K C x G M vs ∧ x.2.2.2.length ≤ 100000 ∧ (-(2 ^ 64) < x.2.1 ∧ x.2.1 < 2 ^ 64)
abbrev shIxPre (K : PySem.W.Frag) (C : Addr) : ((Addr × Int × Int × List (List Int)) × Int × List Int) → Hp → Mem → List V → Prop := fun x G M vs => vs = [.ref x.1.1, .int x.2.1] ∧ ShAt K C G M x.1.1 x.1.2.1 x.1.2.2.1 x.1.2.2.2 ∧ 0 ≤ x.2.1 ∧ x.1.2.2.2[x.2.1.toNat]? = some x.2.2
/-- [e for x in l] over a list at an address that stands still -/
theorem ev_mapA {K : PySem.W.Frag} {σ : L2.St} {G : Hp} {M M1 : Mem} {tl te : TE} {own' : List Nat} {k : Nat} {p : Addr} {xs : List V} {ds es : List PyData} (fd : Nat → PyData) (hs : Ev tl σ G M (isV (.ref p) M1)) (hA : AtL K G M1 p xs) (hd : DpAll K G xs ds) (hn : ds.length ≤ 100000)
    (he : ∀ (i : Nat) d x G', ds[i]? = some d → Ex G G' → Dp K G' x d → Ev te ((wipe σ own').set k (some x)) G' M1 (isD K (fd i) M1)) (hw : ∀ x, wipe ((wipe σ own').set k (some x)) own' = wipe σ own')
    (hk : kept ds.length (fun _ => true) fd = es) : Ev (tLc (iList K tl) (gName k) tYes te own') σ G M (own K es M1) := fun G1 H F e m Q q =>
  hs G1 H F e m _ fun v G2 M2 H2 e2 m2 r2 => by
    obtain ⟨rfl, rfl⟩ := r2
    have hln := dpa_len hd
    refine ⟨p, rfl, ⟨xs, hA _ _ _ (e.trans e2) m2⟩, fun D hD => lc_list (K := K) (a := p) (xs := xs) (fun i H' => ∃ G' vs, Ex G2 G' ∧ Me G' (M2 ++ (D, .lst vs) :: F) H' ∧ DpAll K G' vs (kept i (fun _ => true) fd)) ?_ ?_ ?_ ?_⟩
    · exact ⟨G2, [], Ex.refl _, by rw [mem_mid]; exact m2.newMid hD, .nil⟩
    · rintro i H' _ ⟨G', vs, e', m', _⟩
      exact hA _ _ _ ((e.trans e2).trans e') m'
    · rintro i x H' hx ⟨G', vs, e', m', da⟩
      obtain ⟨d, hd', dx⟩ := dpa_atV hd hx
      have hi : i < xs.length := (List.getElem?_eq_some_iff.mp hx).1
      refine ⟨hw x, lc_turn (K := K) (fd := fd) (Mi := fun _ => M2) (b := true) et_yes (fun _ => he i d x G' hd' ((e.trans e2).trans e') (dm dx ((e.trans e2).trans e'))) (fun z => by cases z) m' e' da ?_ ?_⟩
      · rw [dpa_len da]
        have := kept_len i (fun _ => true) fd
        exact sz_ok (by omega)
      · intro G3 vs' H3 e3 m3 d3
        exact ⟨G3, vs', e3, m3, by rw [kept_succ]; exact d3⟩
    · rintro H' ⟨G', vs, e', m', da⟩
      rw [hln, hk] at da
      rw [mem_mid] at m'
      exact q _ G' _ H' (e2.trans e') m' ⟨D, vs, rfl, rfl, da⟩
/-- len(o), o[i] of a sheet -/
theorem ev_lenO {α : Type} {pre : α → Hp → Mem → List V → Prop} {post : α → Mem → Post} {σ : L2.St} {G : Hp} {M M1 : Mem} {ta : TE} {C p dx : Addr} {fs : List (Str × V)} {E : XK} {n : Int} (xx : α) (h : Ev ta σ G M (isV (.ref p) M1)) (ha : At G M1 p (.ins C dx fs)) (hp : ∀ G1, Ex G G1 → pre xx G1 M1 [.ref p])
    (hq : ∀ G1 v M2, post xx M1 G1 v M2 → v = .int n ∧ M2 = M1) (hn : 0 ≤ n ∧ n < 2 ^ 63) : Ev (tCB (rLenO C (spec pre post) E) (tCons ta tNil)) σ G M (isV (.int n) M1) :=
  ev_CB (Ps := [fun _ v => v = .ref p]) (ea_cons h ea_nil) fun G1 H F vs e m p' Q q => by
    match vs, p' with
    | [v], ⟨p1, _⟩ =>
      subst p1
      refine ⟨p, dx, fs, rfl, ha G1 H F e m, xx, G1, M1, F, m, hp G1 e, fun v' G' M' H' e' m' r => ?_⟩
      obtain ⟨rfl, rfl⟩ := hq G' v' M' r
      exact ⟨n, rfl, hn, q _ G' _ H' e' m' ⟨rfl, rfl⟩⟩
theorem ev_ixO {α : Type} {pre : α → Hp → Mem → List V → Prop} {post : α → Mem → Post} {σ : L2.St} {G : Hp} {M M1 M2 : Mem} {ta tb : TE} {C p dx : Addr} {y : V} {fs : List (Str × V)} {E : XK} (xx : α) (h : Ev ta σ G M (isV (.ref p) M1)) (h2 : Ev tb σ G M1 (isV y M2)) (ha : At G M2 p (.ins C dx fs)) (hp : ∀ G1, Ex G G1 → pre xx G1 M2 [.ref p, y]) :
    Ev (tOp (rIxO C (spec pre post) E) ta tb) σ G M (post xx M2) :=
  ev_op h h2 fun G1 H F x' y' e m p1 p2 Q q => by
    subst p1 p2
    exact ⟨p, dx, fs, rfl, ha G1 H F e m, xx, G1, M2, F, m, hp G1 e, fun v' G' M' H' e' m' r => q v' G' M' H' e' m' r⟩
end SX
namespace SX
open PySem PySem.Spec L2
section
variable {K : PySem.W.Frag} {σ : L2.St} {G : Hp} {M M1 : Mem} {tl te : TE} {own' : List Nat} {k : Nat} {ds : List PyData} {p : Addr} {xs : List V}
theorem ev_allA {f : PyData → Bool} (hs : Ev tl σ G M (isV (.ref p) M1)) (hA : AtL K G M1 p xs) (hd : DpAll K G xs ds) (hn : ds.length ≤ 100000)
    (he : ∀ (i : Nat) d x G', ds[i]? = some d → Ex G G' → Dp K G' x d → Ev te ((wipe σ own').set k (some x)) G' M1 (isV (.bl (f d)) M1)) (hw : ∀ x, wipe ((wipe σ own').set k (some x)) own' = wipe σ own') :
    Ev (tCB (rAll K) (tCons (tLc (iList K tl) (gName k) tYes te own') tNil)) σ G M (isV (.bl (ds.all f)) M1) := by
  rw [← all_map_id]
  refine ev_all (Ev.frz (ev_mapA (K := K) (fun i => .bool (f ((ds[i]?).getD .none))) hs hA hd hn (fun i d x G' h e dx => ?_) hw kept_bools))
  rw [h]
  exact ev_bD (he i d x G' h e dx)
theorem ev_ixTA {ta tb : TE} {M2 : Mem} {x : V} {i : Int} (h1 : Ev ta σ G M (isV (.ref p) M1)) (h2 : Ev tb σ G M1 (isV (.int i) M2)) (hL : AtT K G M2 p xs) (hx : atI xs i = some x) : Ev (tOp (rIxT K) ta tb) σ G M (isV x M2) :=
  ev_op h1 h2 fun G1 H F x' y' e m p1 p2 Q q => by
    subst p1 p2
    exact ⟨p, xs, i, x, rfl, rfl, hL G1 H F e m, hx, q _ _ _ _ (Ex.refl _) m ⟨rfl, rfl⟩⟩
/-- a written tuple of any values -/
theorem ev_tupV {t : TA} {vs : List V} (h : EvA t σ G M (vs.map fun x => fun _ v => v = x) M1) (hl : vs.length ≤ 1000) : Ev (tTup t) σ G M (fun G v M' => ∃ p, v = .ref p ∧ M' = M1 ∧ G p = some (.tup vs)) := fun G1 H F e m Q q =>
  h G1 H F e m _ fun ws G2 H2 e2 m2 a => by
    have hv : ws = vs := by
      have : ∀ {xs vs : List V}, AllP G2 (xs.map fun x => fun _ v => v = x) vs → vs = xs := by
        intro xs
        induction xs with
        | nil =>
          intro vs a
          cases vs with
          | nil => rfl
          | cons _ _ => exact a.elim
        | cons x xs ih =>
          intro vs a
          cases vs with
          | nil => exact a.elim
          | cons v vs => rw [a.1, ih a.2]
      exact this a
    subst hv
    refine ⟨Nat.le_of_lt (small1000 hl), fun p hp => ?_⟩
    have g2 := m2.free hp
    exact q _ _ _ _ (e2.trans (Ex.new g2)) (m2.newF hp) ⟨p, rfl, rfl, upd_same⟩
/-- a sheet is made: the instance stands still, its list is owned -/
theorem ev_mkSh {tA : TA} {E : XK} {C a : Addr} {b r : Int} {cs : List (List Int)} (h : EvA tA σ G M [fun _ v => v = .int b, fun _ v => v = .int r, fun _ v => v = .ref a] M1) (hA : AtL K G M1 a xs) (hd : DpAll K G xs (cs.map colD)) (g : GoodSh b r cs) :
    Ev (tMake C (spec (mkShPre K C) (mkShPost K C)) [] E tA) σ G M (fun G1 v M' => ∃ p dx l ys, v = .ref p ∧ G1 p = some (.ins C dx (shF (.int b) (.int r) (.ref l))) ∧ M' = M1 ++ [(l, .lst ys)] ∧ DpAll K G1 ys (cs.map colD)) := by
  have h0 := ev_make (E := E) (C := C) (pre := mkShPre K C) (post := mkShPost K C) (R := fun G1 v M' => ∃ p dx l ys, v = .ref p ∧ M' = M1 ++ [(p, .ins C dx (shF (.int b) (.int r) (.ref l))), (l, .lst ys)] ∧ DpAll K G1 ys (cs.map colD)) (fun p dx => (p, dx, b, r, cs)) h
    (fun G1 p dx vs e q => by
      match vs, q with
      | [v1, v2, v3], ⟨p1, p2, p3, _⟩ =>
        subst p1 p2 p3
        exact ⟨a, xs, M1, rfl, rfl, hA.ex e, dma hd e, g⟩)
    (fun G1 p dx v M2 e q => by
      obtain ⟨rfl, l, ys, M0, e0, rfl, dd⟩ := q
      have := List.append_cancel_right e0
      subst this
      exact ⟨rfl, p, dx, l, ys, rfl, rfl, dd⟩)
  intro G1 H F e m Q q
  refine h0 G1 H F e m Q fun v G2 M2 H2 e2 m2 r2 => ?_
  obtain ⟨p, dx, l, ys, rfl, rfl, dd⟩ := r2
  rw [show (M1 ++ [(p, HO.ins C dx (shF (.int b) (.int r) (.ref l))), (l, HO.lst ys)]) ++ F = M1 ++ (p, HO.ins C dx (shF (.int b) (.int r) (.ref l))) :: ((l, HO.lst ys) :: F) by simp] at m2
  obtain ⟨m3, e3⟩ := m2.freezeMid
  refine q _ _ (M1 ++ [(l, .lst ys)]) H2 (e2.trans e3) (by rw [List.append_assoc]; exact m3) ⟨p, dx, l, ys, rfl, upd_same, rfl, dma dd e3⟩
/-- .. all of it stands still -/
theorem ev_mkShF {tA : TA} {E : XK} {C a : Addr} {b r : Int} {cs : List (List Int)} (h : EvA tA σ G M [fun _ v => v = .int b, fun _ v => v = .int r, fun _ v => v = .ref a] M1) (hA : AtL K G M1 a xs) (hd : DpAll K G xs (cs.map colD)) (g : GoodSh b r cs) :
    Ev (tMake C (spec (mkShPre K C) (mkShPost K C)) [] E tA) σ G M (fun G1 v M' => ∃ p, v = .ref p ∧ M' = M1 ∧ ∀ M2, ShAt K C G1 M2 p b r cs) := fun G1 H F e m Q q =>
  ev_mkSh h hA hd g G1 H F e m Q fun v G2 M2 H2 e2 m2 r2 => by
    obtain ⟨p, dx, l, ys, rfl, hp, rfl, dd⟩ := r2
    obtain ⟨m3, e3⟩ := m2.freezeLast
    exact q _ _ M1 H2 (e2.trans e3) m3 ⟨p, rfl, rfl, fun M2 => ⟨dx, l, ys, .G (e3 _ _ hp), .G (SqL.of upd_same), dma dd e3⟩⟩
end
end SX

set_option Elab.async false
set_option linter.all false
set_option maxRecDepth 100000
/-! SXg: data: shapes, equality; what laws draw. -/
namespace SX
open PySem PySem.Spec L2
open PyData

structure Sh (n : Nat) (d : PyData) : Prop where
  lay : PyData.canLay0 d = true
  dep : PyData.depth d ≤ n
theorem Sh.ok {n : Nat} {d : PyData} (h : Sh n d) (hn : n ≤ 64 := by decide) : SeqAt.shaped d = true := Bool.and_eq_true_iff.mpr ⟨h.lay, decide_eq_true (Nat.le_trans h.dep hn)⟩
theorem sh_int {n : Nat} (i : Int) : Sh n (.int i) := ⟨by simp only [canLay0], by simp only [PyData.depth]; omega⟩
theorem sh_bl {n : Nat} (i : Bool) : Sh n (.bool i) := ⟨by simp only [canLay0], by simp only [PyData.depth]; omega⟩
theorem sh_non {n : Nat} : Sh n .none := ⟨by simp only [canLay0], by simp only [PyData.depth]; omega⟩
theorem sh_all {n : Nat} : ∀ {ds : List PyData}, (∀ d ∈ ds, Sh n d) → PyData.canLayAll0 ds = true ∧ PyData.depthAll ds ≤ n
  | [], _ => ⟨by simp only [canLayAll0], by simp only [PyData.depthAll]; omega⟩
  | d :: ds, h => by
    have h1 := h d List.mem_cons_self
    have h2 := sh_all (ds := ds) fun e he => h e (List.mem_cons_of_mem _ he)
    refine ⟨?_, ?_⟩
    · simp only [canLayAll0, h1.lay, h2.1, Bool.and_self]
    · simp only [PyData.depthAll]
      have := h1.dep
      omega
theorem sh_lst {n : Nat} {ds : List PyData} (h : ∀ d ∈ ds, Sh n d) : Sh (n + 1) (.list ds) := by
  obtain ⟨h1, h2⟩ := sh_all h
  exact ⟨by simp only [canLay0]; exact h1, by simp only [PyData.depth]; omega⟩
theorem sh_tup {n : Nat} {ds : List PyData} (h : ∀ d ∈ ds, Sh n d) : Sh (n + 1) (.tuple ds) := by
  obtain ⟨h1, h2⟩ := sh_all h
  exact ⟨by simp only [canLay0]; exact h1, by simp only [PyData.depth]; omega⟩
theorem sh_ints {n : Nat} (ns : List Int) : Sh (n + 1) (.list (ns.map PyData.int)) := sh_lst fun d hd => by
  obtain ⟨i, _, rfl⟩ := List.mem_map.mp hd
  exact sh_int i
theorem sh_col {n : Nat} (c : List Int) : Sh (n + 1) (colD c) := sh_tup fun d hd => by
  obtain ⟨i, _, rfl⟩ := List.mem_map.mp hd
  exact sh_int i
theorem sh_cols {n : Nat} (cs : List (List Int)) : Sh (n + 2) (.list (cs.map colD)) := sh_lst fun d hd => by
  obtain ⟨i, _, rfl⟩ := List.mem_map.mp hd
  exact sh_col i
/-! equality of ints, lists of ints, columns -/
theorem eqv_ints : ∀ (a b : List Int), PyData.eqvAll (a.map PyData.int) (b.map PyData.int) = decide (a = b)
  | [], [] => by simp [PyData.eqvAll]
  | [], _ :: _ => by simp [PyData.eqvAll]
  | _ :: _, [] => by simp [PyData.eqvAll]
  | x :: a, y :: b => by
    simp only [List.map_cons, PyData.eqvAll, PyData.eqv, eqv_ints a b]
    by_cases h : x = y <;> simp [h]
theorem eqv_lst (a b : List Int) : PyData.eqv (.list (a.map PyData.int)) (.list (b.map PyData.int)) = decide (a = b) := by
  simp only [PyData.eqv, eqv_ints]
theorem eqv_col (a b : List Int) : PyData.eqv (colD a) (colD b) = decide (a = b) := by
  unfold colD
  simp only [PyData.eqv, eqv_ints]
theorem eqv_colsA : ∀ (a b : List (List Int)), PyData.eqvAll (a.map colD) (b.map colD) = decide (a = b)
  | [], [] => by simp [PyData.eqvAll]
  | [], _ :: _ => by simp [PyData.eqvAll]
  | _ :: _, [] => by simp [PyData.eqvAll]
  | x :: a, y :: b => by
    simp only [List.map_cons, PyData.eqvAll, eqv_col, eqv_colsA a b]
    by_cases h : x = y <;> simp [h]
theorem eqv_cols (a b : List (List Int)) : PyData.eqv (.list (a.map colD)) (.list (b.map colD)) = decide (a = b) := by
  simp only [PyData.eqv, eqv_colsA]
/-! the cells of a script, the deck of a cell -/
def cellsOf (ns : List Int) : List Int := if ns = [] then [0] else ns.take 63
theorem cellsOf_len (ns : List Int) : (cellsOf ns).length ≤ 63 := by
  unfold cellsOf
  split
  · simp
  · rw [List.length_take]
    omega
def deckOf (c : Int) : Deck := if 10 ^ 18 ≤ c then ⟨c - 10 ^ 18, 0, 1⟩ else ⟨0, 0, c % 2147483629 + 2⟩
abbrev cellsPre (K : PySem.W.Frag) : List Int → Hp → Mem → List V → Prop := fun ns G M vs => ∃ v, vs = [v] ∧ Dp K G v (.list (ns.map .int)) ∧ ns.length ≤ 63
abbrev cellsPost (K : PySem.W.Frag) : List Int → Mem → Post := fun ns M => isD K (.list ((cellsOf ns).map .int)) M
abbrev deckPre : Int → Hp → Mem → List V → Prop := fun c G M vs => vs = [.int c]
abbrev deckPost : Int → Mem → Post := fun c M G v M' => ∃ dk, v = .ref dk ∧ M' = M ++ [(dk, (deckOf c).ho)]
theorem ev_deck {σ : L2.St} {G : Hp} {M M1 : Mem} {tA : TA} {E : XK} {c : Int} (h : EvA tA σ G M [fun _ v => v = .int c] M1) : Ev (tCall (spec deckPre deckPost) [] E tA) σ G M (deckPost c M1) :=
  ev_call c h fun G1 vs e a => by
    match vs, a with
    | [v], ⟨p1, _⟩ =>
      subst p1
      rfl
theorem ev_cells {K : PySem.W.Frag} {σ : L2.St} {G : Hp} {M M1 : Mem} {tA : TA} {E : XK} {ns : List Int} (h : EvA tA σ G M [fun G v => Dp K G v (.list (ns.map .int))] M1) (hl : ns.length ≤ 63) : Ev (tCall (spec (cellsPre K) (cellsPost K)) [] E tA) σ G M (cellsPost K ns M1) :=
  ev_call ns h fun G1 vs e a => by
    match vs, a with
    | [v], ⟨p1, _⟩ => exact ⟨v, rfl, p1, hl⟩
/-- a new list of ints, owned, every item known -/
theorem ev_lstI {σ : L2.St} {G : Hp} {M M1 : Mem} {t : TA} {xs : List V} (h : EvA t σ G M (xs.map fun x => fun _ v => v = x) M1) (hl : xs.length ≤ 1000) : Ev (tLst t) σ G M (fun G v M' => ∃ p, v = .ref p ∧ M' = M1 ++ [(p, .lst xs)]) := fun G1 H F e m Q q =>
  h G1 H F e m _ fun vs G2 H2 e2 m2 a => by
    have hv : vs = xs := by
      have : ∀ {xs vs : List V}, AllP G2 (xs.map fun x => fun _ v => v = x) vs → vs = xs := by
        intro xs
        induction xs with
        | nil =>
          intro vs a
          cases vs with
          | nil => rfl
          | cons _ _ => exact a.elim
        | cons x xs ih =>
          intro vs a
          cases vs with
          | nil => exact a.elim
          | cons v vs => rw [a.1, ih a.2]
      exact this a
    subst hv
    exact ⟨Nat.le_of_lt (small1000 hl), fun p hp => q _ _ _ _ e2 (m2.newMid hp) ⟨p, rfl, rfl⟩⟩
theorem cutD_take {ds : List PyData} {n : Nat} : cutD ds none (some (n : Int)) = ds.take n := by
  unfold cutD
  rw [HT.sIx_none, show HT.sIx ds.length ds.length (some (n : Int)) = min n ds.length from HT.sIx_nat _ _ _]
  simp
end SX
namespace SX
open PySem PySem.Spec L2
/-- the law's own word: the due tuple of integers -/
def isCol2 (d e : PyData) : Bool := match d with
  | .tuple ds => PyData.eqv d e && ds.all isInt
  | _ => false
abbrev d2Post (f : PyData → PyData → Bool) : (PyData × PyData) → Mem → Post := fun x M => isV (.bl (f x.1 x.2)) M
abbrev col2Pre (K : PySem.W.Frag) : (PyData × PyData) → Hp → Mem → List V → Prop := fun x G M vs => ∃ v u, vs = [v, u] ∧ Dp K G v x.1 ∧ Dp K G u x.2 ∧ SeqAt.shaped x.1 = true ∧ SeqAt.shaped x.2 = true ∧ dlen x.1 ≤ 100000
theorem ev_col2 {K : PySem.W.Frag} {σ : L2.St} {G : Hp} {M M1 : Mem} {tA : TA} {E : XK} {d e : PyData} {f : PyData → PyData → Bool} (h : EvA tA σ G M [fun G v => Dp K G v d, fun G v => Dp K G v e] M1) (h1 : SeqAt.shaped d = true) (h2 : SeqAt.shaped e = true) (hz : dlen d ≤ 100000) :
    Ev (tCall (spec (col2Pre K) (d2Post f)) [] E tA) σ G M (isV (.bl (f d e)) M1) :=
  ev_call (d, e) h fun G1 vs ex a => by
    match vs, a with
    | [v, u], ⟨p1, p2, _⟩ => exact ⟨v, u, rfl, p1, p2, h1, h2, hz⟩
theorem isCol2_cols (a b : List Int) : isCol2 (colD a) (colD b) = decide (a = b) := by
  show (PyData.eqv (colD a) (colD b) && (a.map PyData.int).all isInt) = _
  rw [eqv_col]
  have : (a.map PyData.int).all isInt = true := by
    rw [List.all_eq_true]
    intro x hx
    obtain ⟨i, _, rfl⟩ := List.mem_map.mp hx
    rfl
  rw [this, Bool.and_true]
end SX

set_option Elab.async false
set_option linter.all false
set_option maxRecDepth 100000
/-! SXh: what laws of sheets reckon and draw. -/
namespace SX
open PySem PySem.Spec L2

theorem Ev.toDp {K : PySem.W.Frag} {te : TE} {σ : L2.St} {G : Hp} {M M1 : Mem} {x : V} {d : PyData} (h : Ev te σ G M (isV x M1)) (hd : Dp K G x d) : Ev te σ G M (isD K d M1) := h.impP fun G1 v e r => by
  rw [r]
  exact dm hd e
/-- a list of columns, wherever it stands -/
structure ColsAt (K : PySem.W.Frag) (G : Hp) (M : Mem) (a : Addr) (cs : List (List Int)) : Prop where
  ex : ∃ xs, AtL K G M a xs ∧ DpAll K G xs (cs.map colD)
theorem ColsAt.up {K : PySem.W.Frag} {G G' : Hp} {M : Mem} {a : Addr} {cs : List (List Int)} (h : ColsAt K G M a cs) (e : Ex G G') : ColsAt K G' M a cs := by
  obtain ⟨xs, h1, h2⟩ := h.ex
  exact ⟨xs, h1.ex e, dma h2 e⟩
theorem ColsAt.of {K : PySem.W.Frag} {G : Hp} {M : Mem} {a : Addr} {cs : List (List Int)} (h : Dp K G (.ref a) (.list (cs.map colD))) : ColsAt K G M a cs := by
  obtain ⟨b, xs, e, hs, ha⟩ := dp_lst h
  cases e
  exact ⟨xs, .G hs, ha⟩
theorem ColsAt.da {K : PySem.W.Frag} {G : Hp} {M : Mem} {a : Addr} {cs : List (List Int)} (h : ColsAt K G M a cs) : Da K G M (.ref a) (.list (cs.map colD)) := by
  obtain ⟨xs, h1, h2⟩ := h.ex
  exact Da.lst h1 h2
theorem ColsAt.more {K : PySem.W.Frag} {G : Hp} {M M' : Mem} {a : Addr} {cs : List (List Int)} (h : ColsAt K G M a cs) : ColsAt K G (M ++ M') a cs := by
  obtain ⟨xs, h1, h2⟩ := h.ex
  exact ⟨xs, fun G1 H F e m => h1 G1 H (M' ++ F) e (by rw [List.append_assoc] at m; exact m), h2⟩
theorem ShAt.more {K : PySem.W.Frag} {C : Addr} {G : Hp} {M M' : Mem} {p : Addr} {b r : Int} {cs : List (List Int)} (h : ShAt K C G M p b r cs) : ShAt K C G (M ++ M') p b r cs := by
  obtain ⟨dx, l, xs, h1, h2, h3⟩ := h
  exact ⟨dx, l, xs, h1.more, h2.more, h3⟩
/-! are_columns -/
abbrev arePre (K : PySem.W.Frag) : (Addr × Addr × List (List Int) × List (List Int)) → Hp → Mem → List V → Prop := fun x G M vs => vs = [.ref x.1, .ref x.2.1] ∧ ColsAt K G M x.1 x.2.2.1 ∧ ColsAt K G M x.2.1 x.2.2.2 ∧ x.2.2.1.length ≤ 100000 ∧ x.2.2.2.length ≤ 100000 ∧ ∀ c ∈ x.2.2.1, c.length ≤ 100000
abbrev arePost : (Addr × Addr × List (List Int) × List (List Int)) → Mem → Post := fun x M => isV (.bl (decide (x.2.2.1 = x.2.2.2))) M
theorem ev_are {K : PySem.W.Frag} {σ : L2.St} {G : Hp} {M M1 : Mem} {tA : TA} {E : XK} {a b : Addr} {fs cs : List (List Int)} (h : EvA tA σ G M [fun _ v => v = .ref a, fun _ v => v = .ref b] M1) (h1 : ColsAt K G M1 a fs) (h2 : ColsAt K G M1 b cs) (l1 : fs.length ≤ 100000) (l2 : cs.length ≤ 100000) (l3 : ∀ c ∈ fs, c.length ≤ 100000) :
    Ev (tCall (spec (arePre K) arePost) [] E tA) σ G M (isV (.bl (decide (fs = cs))) M1) :=
  ev_call (a, b, fs, cs) h fun G1 vs ex p => by
    match vs, p with
    | [v, u], ⟨p1, p2, _⟩ =>
      subst p1 p2
      exact ⟨rfl, h1.up ex, h2.up ex, l1, l2, l3⟩
theorem all_are {fs cs : List (List Int)} (h : fs.length = cs.length) : ((List.range cs.length).all fun i => isCol2 (colD ((fs[i]?).getD [])) (colD ((cs[i]?).getD []))) = decide (fs = cs) := by
  by_cases e : fs = cs
  · subst e
    rw [decide_eq_true rfl, List.all_eq_true]
    intro i _
    rw [isCol2_cols, decide_eq_true rfl]
  · rw [decide_eq_false e, Bool.eq_false_iff]
    intro z
    apply e
    apply List.ext_getElem h
    intro i h1 h2
    have := List.all_eq_true.mp z i (List.mem_range.mpr h2)
    rw [isCol2_cols, List.getElem?_eq_getElem h1, List.getElem?_eq_getElem h2] at this
    exact of_decide_eq_true this
/-! value -/
theorem horner_snoc (b : Int) (l : List Int) (x : Int) : horner b (l ++ [x]) 0 = horner b l 0 + x * b ^ l.length := by
  unfold horner
  rw [List.foldr_append]
  simp only [List.foldr_cons, List.foldr_nil]
  have : ∀ (l : List Int) (y : Int), l.foldr (fun f v => v * b + f) y = l.foldr (fun f v => v * b + f) 0 + y * b ^ l.length := by
    intro l y
    induction l with
    | nil => simp
    | cons f l ih =>
      simp only [List.foldr_cons, List.length_cons, ih, Int.pow_succ, Int.add_mul, Int.mul_assoc]
      omega
  rw [this]
  simp
theorem valueOf_snoc (b : Int) (cs : List (List Int)) (c : List Int) : valueOf b (cs ++ [c]) = valueOf b cs + c.sum * b ^ cs.length := by
  unfold valueOf
  rw [List.map_append, List.map_cons, List.map_nil, horner_snoc, List.length_map]
abbrev lvPre (K : PySem.W.Frag) : (Int × Addr × List (List Int)) → Hp → Mem → List V → Prop := fun x G M vs => vs = [.int x.1, .ref x.2.1] ∧ ColsAt K G M x.2.1 x.2.2 ∧ (∀ c ∈ x.2.2, -(2 ^ 64) < c.sum ∧ c.sum < 2 ^ 64) ∧ (-(2 ^ 64) < x.1 ∧ x.1 < 2 ^ 64)
abbrev lvPost : (Int × Addr × List (List Int)) → Mem → Post := fun x M => isV (.int (valueOf x.1 x.2.2)) M
theorem ev_lv {K : PySem.W.Frag} {σ : L2.St} {G : Hp} {M M1 : Mem} {tA : TA} {E : XK} {a : Addr} {b : Int} {cs : List (List Int)} (h : EvA tA σ G M [fun _ v => v = .int b, fun _ v => v = .ref a] M1) (h1 : ColsAt K G M1 a cs) (h2 : ∀ c ∈ cs, -(2 ^ 64) < c.sum ∧ c.sum < 2 ^ 64) (hb : -(2 ^ 64) < b ∧ b < 2 ^ 64) :
    Ev (tCall (spec (lvPre K) lvPost) [] E tA) σ G M (isV (.int (valueOf b cs)) M1) :=
  ev_call (b, a, cs) h fun G1 vs ex p => by
    match vs, p with
    | [v, u], ⟨p1, p2, _⟩ =>
      subst p1 p2
      exact ⟨rfl, h1.up ex, h2, hb⟩
theorem sum_lo : ∀ {c : List Int} {b : Int}, (∀ f ∈ c, 0 ≤ f ∧ f < b) → 0 ≤ c.sum ∧ c.sum ≤ c.length * b
  | [], b, _ => by simp
  | f :: c, b, h => by
    have h1 := h f List.mem_cons_self
    have h2 := sum_lo (c := c) fun g hg => h g (List.mem_cons_of_mem _ hg)
    simp only [List.sum_cons, List.length_cons, Int.natCast_add, Int.add_mul]
    omega
theorem GoodSh.sum {b r : Int} {cs : List (List Int)} (h : GoodSh b r cs) : ∀ c ∈ cs, -(2 ^ 64) < c.sum ∧ c.sum < 2 ^ 64 := fun c hc => by
  obtain ⟨h1, h2⟩ := sum_lo (h.col c hc).2
  have h3 := (h.col c hc).1
  have h4 := h.r4
  have h5 := h.b12
  have h6 := h.b2
  have : (c.length : Int) * b ≤ 4 * b := Int.mul_le_mul_of_nonneg_right (by omega) (by omega)
  omega
/-! drawn figures, columns, sheets -/
def drawsD (D : Deck) (b : Int) : Nat → Deck
  | 0 => D
  | n + 1 => dn (drawsD D b n) b
def drawsV (D : Deck) (b : Int) (n : Nat) : List Int := (List.range n).map fun i => dv (drawsD D b i) b
theorem drawsV_len (D : Deck) (b : Int) (n : Nat) : (drawsV D b n).length = n := by simp [drawsV]
theorem drawsV_mem {D : Deck} {b : Int} {n : Nat} (h : 0 < b) : ∀ f ∈ drawsV D b n, 0 ≤ f ∧ f < b := fun f hf => by
  obtain ⟨i, _, rfl⟩ := List.mem_map.mp hf
  exact ⟨dv_lo h, dv_hi h⟩
def colOf (D : Deck) (b r : Int) : List Int := if dv D 5 = 1 then List.replicate r.toNat (b - 1) else if dv D 5 = 0 then List.replicate r.toNat 0 else drawsV (dn D 5) b r.toNat
def colDk (D : Deck) (b r : Int) : Deck := drawsD (dn D 5) b r.toNat
theorem colOf_good {D : Deck} {b r : Int} (hb : 0 < b) (hr : 0 ≤ r) : GoodCol b r (colOf D b r) := by
  unfold colOf GoodCol
  split
  · refine ⟨by rw [List.length_replicate]; omega, fun f hf => ?_⟩
    rw [List.eq_of_mem_replicate hf]
    omega
  · split
    · refine ⟨by rw [List.length_replicate]; omega, fun f hf => ?_⟩
      rw [List.eq_of_mem_replicate hf]
      omega
    · exact ⟨by rw [drawsV_len]; omega, drawsV_mem hb⟩
abbrev lcolPre : (Addr × Nat × Deck × Int × Int) → Hp → Mem → List V → Prop := fun x G M vs => vs = [.ref x.1, .int x.2.2.2.1, .int x.2.2.2.2] ∧ 0 < x.2.2.2.1 ∧ x.2.2.2.1 < 2 ^ 200 ∧ 0 ≤ x.2.2.2.2 ∧ x.2.2.2.2 ≤ 1000 ∧ M[x.2.1]? = some (x.1, x.2.2.1.ho)
abbrev lcolPost (K : PySem.W.Frag) : (Addr × Nat × Deck × Int × Int) → Mem → Post := fun x M => isD K (colD (colOf x.2.2.1 x.2.2.2.1 x.2.2.2.2)) (M.set x.2.1 (x.1, (colDk x.2.2.1 x.2.2.2.1 x.2.2.2.2).ho))
theorem ev_lcol {K : PySem.W.Frag} {σ : L2.St} {G : Hp} {M M1 : Mem} {tA : TA} {E : XK} {dk : Addr} {D : Deck} {b r : Int} (i : Nat) (h : EvA tA σ G M [fun _ v => v = .ref dk, fun _ v => v = .int b, fun _ v => v = .int r] M1) (hi : M1[i]? = some (dk, D.ho)) (b0 : 0 < b) (b1 : b < 2 ^ 200) (r0 : 0 ≤ r) (r1 : r ≤ 1000) :
    Ev (tCall (spec lcolPre (lcolPost K)) [] E tA) σ G M (isD K (colD (colOf D b r)) (M1.set i (dk, (colDk D b r).ho))) :=
  ev_call (dk, i, D, b, r) h fun G1 vs e a => by
    match vs, a with
    | [v, w, u], ⟨p1, p2, p3, _⟩ =>
      subst p1 p2 p3
      exact ⟨rfl, b0, b1, r0, r1, hi⟩
/-- how many columns, the deck then -/
def manyOf (D : Deck) (most : Int) : Int := if dv (dn D 7) 3 = 0 then dv (dn (dn D 7) 3) (most + 1) else dv D 7
def manyDk (D : Deck) (most : Int) : Deck := if dv (dn D 7) 3 = 0 then dn (dn (dn D 7) 3) (most + 1) else dn (dn D 7) 3
def colsDk (D : Deck) (b r : Int) : Nat → Deck
  | 0 => D
  | n + 1 => colDk (colsDk D b r n) b r
def colsV (D : Deck) (b r : Int) (n : Nat) : List (List Int) := (List.range n).map fun i => colOf (colsDk D b r i) b r
def colsOf (D : Deck) (b r most : Int) : List (List Int) := colsV (manyDk D most) b r (manyOf D most).toNat
def colsEnd (D : Deck) (b r most : Int) : Deck := colsDk (manyDk D most) b r (manyOf D most).toNat
theorem manyOf_lo {D : Deck} {most : Int} (h : 0 ≤ most) : 0 ≤ manyOf D most := by
  unfold manyOf
  split
  · exact dv_lo (by omega)
  · exact dv_lo (by omega)
theorem manyOf_hi {D : Deck} {most : Int} (h : 0 ≤ most) : manyOf D most ≤ max 6 most := by
  unfold manyOf
  have h1 : dv (dn (dn D 7) 3) (most + 1) < most + 1 := dv_hi (by omega)
  have h2 : dv D 7 < 7 := dv_hi (by omega)
  split <;> omega
theorem colsOf_len {D : Deck} {b r most : Int} (h : 0 ≤ most) : ((colsOf D b r most).length : Int) ≤ max 6 most := by
  unfold colsOf colsV
  have := manyOf_hi (D := D) h
  have := manyOf_lo (D := D) h
  rw [List.length_map, List.length_range]
  omega
theorem colsOf_good {D : Deck} {b r most : Int} (hb : 0 < b) (hr : 0 ≤ r) : ∀ c ∈ colsOf D b r most, GoodCol b r c := fun c hc => by
  obtain ⟨i, _, rfl⟩ := List.mem_map.mp hc
  exact colOf_good hb hr
abbrev lcolsPre : (Addr × Nat × Deck × Int × Int × Int) → Hp → Mem → List V → Prop := fun x G M vs => vs = [.ref x.1, .int x.2.2.2.1, .int x.2.2.2.2.1, .int x.2.2.2.2.2] ∧ 0 < x.2.2.2.1 ∧ x.2.2.2.1 < 2 ^ 200 ∧ 0 ≤ x.2.2.2.2.1 ∧ x.2.2.2.2.1 ≤ 1000 ∧ 0 ≤ x.2.2.2.2.2 ∧ x.2.2.2.2.2 ≤ 1000 ∧ M[x.2.1]? = some (x.1, x.2.2.1.ho)
abbrev lcolsPost (K : PySem.W.Frag) : (Addr × Nat × Deck × Int × Int × Int) → Mem → Post := fun x M => own K ((colsOf x.2.2.1 x.2.2.2.1 x.2.2.2.2.1 x.2.2.2.2.2).map colD) (M.set x.2.1 (x.1, (colsEnd x.2.2.1 x.2.2.2.1 x.2.2.2.2.1 x.2.2.2.2.2).ho))
theorem ev_lcols {K : PySem.W.Frag} {σ : L2.St} {G : Hp} {M M1 : Mem} {tA : TA} {E : XK} {dk : Addr} {D : Deck} {b r most : Int} (i : Nat) (h : EvA tA σ G M [fun _ v => v = .ref dk, fun _ v => v = .int b, fun _ v => v = .int r, fun _ v => v = .int most] M1) (hi : M1[i]? = some (dk, D.ho)) (b0 : 0 < b) (b1 : b < 2 ^ 200) (r0 : 0 ≤ r) (r1 : r ≤ 1000)
    (m0 : 0 ≤ most) (m1 : most ≤ 1000) : Ev (tCall (spec lcolsPre (lcolsPost K)) [] E tA) σ G M (own K ((colsOf D b r most).map colD) (M1.set i (dk, (colsEnd D b r most).ho))) :=
  ev_call (dk, i, D, b, r, most) h fun G1 vs e a => by
    match vs, a with
    | [v, w, u, t], ⟨p1, p2, p3, p4, _⟩ =>
      subst p1 p2 p3 p4
      exact ⟨rfl, b0, b1, r0, r1, m0, m1, hi⟩
end SX
namespace SX
open PySem PySem.Spec L2
/-- the law's words of a sheet (p, its due columns at a, base, rows, columns) -/
abbrev plainPre (K : PySem.W.Frag) (C : Addr) : (Addr × Addr × Int × Int × List (List Int)) → Hp → Mem → List V → Prop := fun x G M vs => vs = [.ref x.1, .int x.2.2.1, .int x.2.2.2.1, .ref x.2.1] ∧ ShAt K C G M x.1 x.2.2.1 x.2.2.2.1 x.2.2.2.2 ∧ ColsAt K G M x.2.1 x.2.2.2.2 ∧ GoodSh x.2.2.1 x.2.2.2.1 x.2.2.2.2
abbrev worthPre (K : PySem.W.Frag) (C : Addr) : (Addr × Addr × Int × Int × List (List Int)) → Hp → Mem → List V → Prop := fun x G M vs => vs = [.ref x.1, .int x.2.2.1, .ref x.2.1] ∧ ShAt K C G M x.1 x.2.2.1 x.2.2.2.1 x.2.2.2.2 ∧ ColsAt K G M x.2.1 x.2.2.2.2 ∧ GoodSh x.2.2.1 x.2.2.2.1 x.2.2.2.2
abbrev plainPost : (Addr × Addr × Int × Int × List (List Int)) → Mem → Post := fun _ M => isV (.bl true) M
abbrev rightPre (K : PySem.W.Frag) (C : Addr) : ((Addr × Addr × Int × Int × List (List Int)) × Int) → Hp → Mem → List V → Prop := fun x G M vs => vs = [.ref x.1.1, .int x.1.2.2.1, .int x.1.2.2.2.1, .ref x.1.2.1, .int x.2] ∧ ShAt K C G M x.1.1 x.1.2.2.1 x.1.2.2.2.1 x.1.2.2.2.2 ∧ ColsAt K G M x.1.2.1 x.1.2.2.2.2 ∧ GoodSh x.1.2.2.1 x.1.2.2.2.1 x.1.2.2.2.2
section
variable {K : PySem.W.Frag} {C : Addr} {σ : L2.St} {G : Hp} {M M1 : Mem} {tA : TA} {E : XK} {p a : Addr} {b r t : Int} {cs : List (List Int)}
theorem ev_plain (h : EvA tA σ G M [fun _ v => v = .ref p, fun _ v => v = .int b, fun _ v => v = .int r, fun _ v => v = .ref a] M1) (hS : ShAt K C G M1 p b r cs) (hC : ColsAt K G M1 a cs) (g : GoodSh b r cs) :
    Ev (tCall (spec (plainPre K C) plainPost) [] E tA) σ G M (isV (.bl true) M1) :=
  ev_call (p, a, b, r, cs) h fun G1 vs e q => by
    match vs, q with
    | [v1, v2, v3, v4], ⟨p1, p2, p3, p4, _⟩ =>
      subst p1 p2 p3 p4
      exact ⟨rfl, hS.ex e, hC.up e, g⟩
theorem ev_worth (h : EvA tA σ G M [fun _ v => v = .ref p, fun _ v => v = .int b, fun _ v => v = .ref a] M1) (hS : ShAt K C G M1 p b r cs) (hC : ColsAt K G M1 a cs) (g : GoodSh b r cs) :
    Ev (tCall (spec (worthPre K C) plainPost) [] E tA) σ G M (isV (.bl true) M1) :=
  ev_call (p, a, b, r, cs) h fun G1 vs e q => by
    match vs, q with
    | [v1, v2, v3], ⟨p1, p2, p3, _⟩ =>
      subst p1 p2 p3
      exact ⟨rfl, hS.ex e, hC.up e, g⟩
theorem ev_right (h : EvA tA σ G M [fun _ v => v = .ref p, fun _ v => v = .int b, fun _ v => v = .int r, fun _ v => v = .ref a, fun _ v => v = .int t] M1) (hS : ShAt K C G M1 p b r cs) (hC : ColsAt K G M1 a cs) (g : GoodSh b r cs) :
    Ev (tCall (spec (rightPre K C) fun _ M => isV (.bl true) M) [] E tA) σ G M (isV (.bl true) M1) :=
  ev_call ((p, a, b, r, cs), t) h fun G1 vs e q => by
    match vs, q with
    | [v1, v2, v3, v4, v5], ⟨p1, p2, p3, p4, p5, _⟩ =>
      subst p1 p2 p3 p4 p5
      exact ⟨rfl, hS.ex e, hC.up e, g⟩
/-- methods of an owned list, without arguments -/
theorem ev_reverse {te : TE} {xs : List V} {n : Nat} (h : Ev te σ G M (isV (.ref p) M1)) (hl : M1[n]? = some (p, HO.lst xs)) :
    Ev (tBM0 K "list" rReverse te) σ G M (isV .non (M1.set n (p, .lst xs.reverse))) := fun G1 H F e m Q q =>
  h G1 H F e m _ fun v G2 M2 H2 e2 m2 r => by
    obtain ⟨rfl, rfl⟩ := r
    exact ⟨.inl ⟨rfl, xs, SqL.of (m2.getF hl)⟩, p, xs, rfl, rfl, m2.getF hl, q _ G2 _ _ e2 (m2.putF hl) ⟨rfl, rfl⟩⟩
theorem ev_clear {te : TE} {xs : List V} {n : Nat} (h : Ev te σ G M (isV (.ref p) M1)) (hl : M1[n]? = some (p, HO.lst xs)) :
    Ev (tBM0 K "list" rClear te) σ G M (isV .non (M1.set n (p, .lst []))) := fun G1 H F e m Q q =>
  h G1 H F e m _ fun v G2 M2 H2 e2 m2 r => by
    obtain ⟨rfl, rfl⟩ := r
    exact ⟨.inl ⟨rfl, xs, SqL.of (m2.getF hl)⟩, p, xs, rfl, rfl, m2.getF hl, q _ G2 _ _ e2 (m2.putF hl) ⟨rfl, rfl⟩⟩
end
end SX

set_option Elab.async false
set_option linter.all false
set_option maxRecDepth 100000
/-! SXi: errors: what raises within a try, what the suite asks of the error. -/
namespace SX
open PySem PySem.Spec L2

section
variable {X : Cx} {CX : CXT} {k : Nat} {C f : Addr} {fd : FuncData} {ps : List Str} {sp : Sp} {EE : L2.St → XK}
/-- the callee runs, its error is wished for at these slots -/
theorem run_atS {pins : List (Addr × Obj)} {σ : L2.St} {H : Hp} {s : Shared} {Q : VK} {us : List Value} {vs : List V} (F : FnOk X.prog X.w X.K X.mg X.base CX k f fd ps sp) (hr : Room k X.A) (hb : Binds X.K fd ps []) (hx : PassesAt CX X σ (EE σ))
    (I : Inv X pins σ H s) (r : Vals vs us) (h : sp vs H Q (EE σ)) : wpAny (model X.prog X.w) X.A (call (.ref f) us) (EP X pins σ Q) X.xe s := run_fnS F hr hb hx I r h
/-- a new instance, the error of its __init__ wished for at these slots -/
def tMakeS (C : Addr) (sp : Sp) (EE : L2.St → XK) (t : TA) : TE := fun σ H Q => t σ H fun vs H1 => ∀ x dx, H1 x = none → H1 dx = none → dx ≠ x →
  sp (.ref x :: vs) (upd (upd H1 dx (.own x)) x (.ins C dx [])) (fun v H2 => v = .non ∧ Q (.ref x) H2) (EE σ)
theorem run_makeS {pins : List (Addr × Obj)} {σ : L2.St} {H : Hp} {s : Shared} {Q : VK} {us : List Value} {vs : List V} (M : Mk X.K C f) (F : FnOk X.prog X.w X.K X.mg X.base CX k f fd ps sp) (hr : Room (k + 1) X.A) (hb : Binds X.K fd ps [])
    (hx : PassesAt CX X σ (EE σ)) (I : Inv X pins σ H s) (r : Vals vs us)
    (h : ∀ x dx, H x = none → H dx = none → dx ≠ x → sp (.ref x :: vs) (upd (upd H dx (.own x)) x (.ins C dx [])) (fun v H2 => v = .non ∧ Q (.ref x) H2) (EE σ)) :
    wpAny (model X.prog X.w) X.A (call (.ref C) us) (EP X pins σ Q) X.xe s := by
  have new := h (s.heap.objs.size + 1) s.heap.objs.size (I.hok.fresh (Nat.le_succ _)) (I.hok.fresh (Nat.le_refl _)) (Nat.ne_of_lt (Nat.lt_succ_self _))
  have J := Inv.made (C := C) I
  have rr : Vals (V.ref (s.heap.objs.size + 1) :: vs) (Value.ref (s.heap.objs.size + 1) :: us) := .cons rfl r
  have le : (Value.ref (s.heap.objs.size + 1) :: us ++ []).length = ps.length := by
    rw [List.append_nil, ← rr.length]
    exact F.len _ _ _ _ new
  have bb := hb _ (Value.ref (s.heap.objs.size + 1) :: us) J.kIn le
  rw [List.append_nil] at bb
  refine wpAny_call (make_map (f := f) I.kIn M.makes M.init (beq_iff_eq.mp M.fn) (codeAny_mono (F.run _ X.stack _ _ ⟨Value.ref (s.heap.objs.size + 1) :: us, []⟩ (Value.ref (s.heap.objs.size + 1) :: us) _ _ (EE σ) (hr.make C us []) (J.env0.make C us []) bb rr new) fun res s' out => ?_))
  match res, out with
  | .error e, out => exact hx pins _ _ e s' J out
  | .ok (.ret u), out =>
    obtain ⟨v, H', J3, rv, ev, q3⟩ := J.after out
    subst ev
    exact ⟨rv, ⟨V.ref (s.heap.objs.size + 1), H', J3, rfl, q3⟩⟩
theorem pe_makeS {x : Str} {p pos : Pos} {e : Expr} {es : List Expr} {t : TA} (M : Mk X.K C f) (F : FnOk X.prog X.w X.K X.mg X.base CX k f fd ps sp) (hr : Room (k + 1) X.A) (hg : Gl X x) (hm : X.mg x = some (.ref C)) (hb : Binds X.K fd ps []) (hx : ∀ σ, PassesAt CX X σ (EE σ))
    (ha : PA X (e :: es) t) (hdb : (x == ("__debug__" : Str)) = false := by decide) (he : starEach (e :: es) X.env = (false, eval e X.env) :: starEach es X.env := by rfl) (hpl : (backTo pos (starEach es X.env)).any (·.1) = false := by rfl) :
    PE X (.Call (.Name x p) (e :: es) [] pos) (tMakeS C sp EE t) := by
  refine ⟨fun pins s σ H Q I h => ?_⟩
  refine wpAny_Call_Name_kw (ld_glob I hg hm ?_ hdb)
  refine PySem.W.callWith_K (h₀ := X.base) I.ok.mod.kin M.kp (thn (ha.run pos pins s σ H _ I h) fun us s1 ⟨vs, H1, I1, r, q⟩ => ⟨I1.kIn, ?_⟩) he hpl
  exact run_makeS M F hr hb (hx σ) I1 r q
/-- o[i] = e by the own __setitem__, which may raise -/
def tSetOS (C : Addr) (sp : Sp) (EE : L2.St → XK) (to ti te : TE) : TS := fun D σ H => te σ H fun v H1 => to σ H1 fun o H2 => ti σ H2 fun i H3 => ∃ a dx fs, o = .ref a ∧ H3 a = some (.ins C dx fs) ∧ sp [.ref a, i, v] H3 (fun _ H4 => D.nx σ H4) (EE σ)
/-- one op other, both of the class C, which may raise -/
def tBinOS (C : Addr) (sp : Sp) (EE : L2.St → XK) (ta tb : TE) : TE := fun σ H Q => ta σ H fun x H1 => tb σ H1 fun y H2 => ∃ a dx fs b dy gs, x = .ref a ∧ y = .ref b ∧ H2 a = some (.ins C dx fs) ∧ H2 b = some (.ins C dy gs) ∧ sp [.ref a, .ref b] H2 Q (EE σ)
theorem pe_binOS {op : Operator} {a b : Expr} {ta tb : TE} {pos : Pos} (hs : PySem.W.findIn X.K (.ref C) (PySem.dunder op.info.2) = some (some (.ref f))) (hfn : PySem.W.isFn X.K (.ref f) = true) (hc : PySem.W.selfFirst X.K C = true) (F : FnOk X.prog X.w X.K X.mg X.base CX k f fd ps sp) (hr : Room k X.A) (hb : Binds X.K fd ps [])
    (hx : ∀ σ, PassesAt CX X σ (EE σ)) (ha : PE X a ta) (hbb : PE X b tb) : PE X (.BinOp a op b pos) (tBinOS C sp EE ta tb) := by
  refine ⟨fun pins s σ H Q I h => ?_⟩
  refine wpAny_BinOp (binT ha hbb I h fun v u s2 x y H2 I2 rx ry h2 => ?_)
  obtain ⟨p, dx, fs, q, dy, gs, rfl, rfl, ep, eq, z⟩ := h2
  cases (show v = Value.ref p from rx)
  cases (show u = Value.ref q from ry)
  obtain ⟨mA, O, _⟩ := ins_get I2.hok ep
  obtain ⟨od, J, _⟩ := O.look
  obtain ⟨mB, O2, _⟩ := ins_get I2.hok eq
  obtain ⟨od2, J2, _⟩ := O2.look
  obtain ⟨m, fr⟩ := I2.fr
  exact PySem.W.binop_K fr I2.ok.mod.kin J J2.type hc hs hfn (wpAny_mono (run_atS F hr hb (hx σ) I2 (.cons (show RelV (.ref p) (.ref p) from rfl) (.cons (show RelV (.ref q) (.ref q) from rfl) .nil)) z) (fun u s1 h1 => cmpBack h1) fun _ _ e => e)
/-- what one slot's store needs, as a target: the store may raise -/
theorem ps_setOS {o i value : Expr} {to ti te : TE} {pos pos' : Pos} (hm : Meth X.K C "__setitem__" f) (hq : PySem.W.noSeq X.K C = true) (F : FnOk X.prog X.w X.K X.mg X.base CX k f fd ps sp) (hr : Room k X.A) (hb : Binds X.K fd ps [])
    (hx : ∀ σ, PassesAt CX X σ (EE σ)) (he : PE X value te) (ho : PE X o to) (hi : PE X i ti)
    (hs : swapsWith value (some (.Subscript o i pos')) pos.line X.env = pure false := by rfl) : PS X (.Assign [.Subscript o i pos'] value pos) (tSetOS C sp EE to ti te) := by
  refine ⟨fun pins s σ H D I h => wpAny_Assign_Subscript ?_ hs⟩
  refine thn (he.run pins s σ H _ I h) fun u s1 ⟨x, H1, I1, rx, h1⟩ => thn (ho.run pins s1 σ H1 _ I1 h1) fun ov s2 ⟨y, H2, I2, ry, h2⟩ => thn (hi.run pins s2 σ H2 _ I2 h2) fun iv s3 ⟨z, H3, I3, rz, h3⟩ => ?_
  obtain ⟨p, dx, fs, rfl, ep, q⟩ := h3
  cases (show ov = Value.ref p from ry)
  obtain ⟨mA, O, _⟩ := ins_get I3.hok ep
  obtain ⟨od, J, _⟩ := O.look
  obtain ⟨m, fr⟩ := I3.fr
  refine PySem.W.ksp_setItem fr I3.ok.mod.kin J hq hm.at_ hm.fn (wpAny_mono (run_atS F hr hb (hx σ) I3 (.cons (show RelV (.ref p) (.ref p) from rfl) (.cons rz (.cons rx .nil))) q) (fun w s4 h4 => ?_) fun _ _ e => e)
  obtain ⟨v, H4, I4, _, q4⟩ := h4
  exact ⟨σ, H4, I4, q4⟩
end

/-! ### over the symbolic heap -/
section
variable {E : XK} {K : PySem.W.Frag} {σ : L2.St} {G G' H : Hp} {M M1 M2 M3 F : Mem} {R : Post} {P P' : Po} {te ta tb : TE} {t u : TS} {x y z : V} {i : Nat} {Xc : Value → Option Addr → Hp → Mem → Prop}
/-- an expression that raises, surely -/
def EvR (E : XK) (te : TE) (σ : L2.St) (G : Hp) (M : Mem) (Xc : Value → Option Addr → Hp → Mem → Prop) : Prop := ∀ G1 H F, Ex G G1 → Me G1 (M ++ F) H → (∀ c d G2 M2 H2, Ex G1 G2 → Me G2 (M2 ++ F) H2 → Xc c d G2 M2 → E c d H2) → ∀ Q : VK, te σ H Q
def EvAR (E : XK) (ta : TA) (σ : L2.St) (G : Hp) (M : Mem) (Xc : Value → Option Addr → Hp → Mem → Prop) : Prop := ∀ G1 H F, Ex G G1 → Me G1 (M ++ F) H → (∀ c d G2 M2 H2, Ex G1 G2 → Me G2 (M2 ++ F) H2 → Xc c d G2 M2 → E c d H2) → ∀ Q : List V → Hp → Prop, ta σ H Q
theorem er_one {tr : TA} (h : EvR E te σ G M Xc) : EvAR E (tCons te tr) σ G M Xc := fun G1 H F e m x Q => h G1 H F e m x _
theorem er_CB {r : List V → Hp → VK → Prop} {tA : TA} (h : EvAR E tA σ G M Xc) : EvR E (tCB r tA) σ G M Xc := fun G1 H F e m x Q => h G1 H F e m x _
theorem er_lst {tA : TA} (h : EvAR E tA σ G M Xc) : EvR E (tLst tA) σ G M Xc := fun G1 H F e m x Q => h G1 H F e m x _
theorem er_tup {tA : TA} (h : EvAR E tA σ G M Xc) : EvR E (tTup tA) σ G M Xc := fun G1 H F e m x Q => h G1 H F e m x _
theorem sv_setR {g : TG} (h : EvR E te σ G M P.ex) : Sv E (tAsg te g) σ G M P := fun G1 H F D e m hd => h G1 H F e m hd.ex _
theorem sv_dropR (h : EvR E te σ G M P.ex) : Sv E (tDrop te) σ G M P := fun G1 H F D e m hd => h G1 H F e m hd.ex _
theorem sv_retR (h : EvR E te σ G M P.ex) : Sv E (tRet te) σ G M P := fun G1 H F D e m hd => h G1 H F e m hd.ex _
/-- try: body, except x as n: suite. The body's errors are Xc's, all of them the clause's -/
theorem sv_tryAs {tw : WX → TS} {ts : Addr → Value → Option Addr → TS} {c : Value} {Wout : WX} (Xc : Value → Option Addr → Hp → Mem → Prop) (hB : ∀ W : WX, Sv (fun cls d H => W cls d σ H) (tw W) σ G M { P with ex := Xc })
    (hS : ∀ cls d a G2 M2, Ex G G2 → Xc cls d G2 M2 → PySem.W.exmOne K cls c = some true ∧ Sv E (ts a cls d) (σ.set i (some (.ref a))) G2 M2 { P with nx := fun G3 σ' M3 => P.nx G3 (σ'.set i none) M3, bk := fun G3 σ' M3 => P.bk G3 (σ'.set i none) M3, ct := fun G3 σ' M3 => P.ct G3 (σ'.set i none) M3 }) :
    Sv E (fun D σ H => tw (wAs K c i ts Wout D) D σ H) σ G M P := fun G1 H F D e m hd =>
  hB (wAs K c i ts Wout D) G1 H F D e m ⟨hd.nx, hd.rt, hd.bk, hd.ct, fun cls d G2 M2 H2 e2 m2 xc =>
    ⟨true, (hS cls d 0 G2 M2 (e.trans e2) xc).1, fun _ a _ => (hS cls d a G2 M2 (e.trans e2) xc).2 G2 H2 F _ (Ex.refl _) m2 ⟨fun σ' G3 M3 H3 e3 m3 n => hd.nx _ G3 M3 H3 (e2.trans e3) m3 n, fun v G3 M3 H3 e3 m3 n => hd.rt v G3 M3 H3 (e2.trans e3) m3 n,
      fun σ' G3 M3 H3 e3 m3 n => hd.bk _ G3 M3 H3 (e2.trans e3) m3 n, fun σ' G3 M3 H3 e3 m3 n => hd.ct _ G3 M3 H3 (e2.trans e3) m3 n, fun c' d' G3 M3 H3 e3 m3 n => hd.ex c' d' G3 M3 H3 (e2.trans e3) m3 n⟩, fun z => by cases z⟩⟩
/-- the store by __setitem__ -/
theorem sv_setO {α : Type} {pre : α → Hp → Mem → List V → Prop} {post : α → Mem → Post} {exc : α → Mem → Value → Option Addr → Hp → Mem → Prop} {EE : L2.St → XK} {to ti : TE} {C p dx : Addr} {fs : List (Str × V)} {Pp : Hp → V → Prop} [Mono Pp] (xx : V → α) (hE : EE σ = E) (h : Ev te σ G M (isP Pp M1)) (h1 : Ev to σ G M1 (isV (.ref p) M1)) (h2 : Ev ti σ G M1 (isV y M1))
    (ha : At G M1 p (.ins C dx fs)) (hp : ∀ v G1, Ex G G1 → Pp G1 v → pre (xx v) G1 M1 [.ref p, y, v])
    (hq : ∀ v w G1 M2, Ex G G1 → post (xx v) M1 G1 w M2 → P.nx G1 σ M2) (hx : ∀ v c d G1 M2, Ex G G1 → exc (xx v) M1 c d G1 M2 → P.ex c d G1 M2) : Sv E (tSetOS C (specX pre post exc) EE to ti te) σ G M P := fun G1 H F D e m hd =>
  h G1 H F e m _ fun v G2 M2' H2 e2 m2 r2 => by
    obtain ⟨pv, rfl⟩ := r2
    refine h1 G2 H2 F (e.trans e2) m2 _ fun v3 G3 M3' H3 e3 m3 r3 => ?_
    obtain ⟨rfl, rfl⟩ := r3
    refine h2 G3 H3 F ((e.trans e2).trans e3) m3 _ fun v4 G4 M4' H4 e4 m4 r4 => ?_
    obtain ⟨rfl, rfl⟩ := r4
    have e04 := ((e.trans e2).trans e3).trans e4
    refine ⟨p, dx, fs, rfl, ha G4 H4 F e04 m4, xx v, G4, M4', F, m4, hp v G4 e04 (Mono.mono _ _ _ (e3.trans e4) pv), fun w G5 M5 H5 e5 m5 r5 => hd.nx σ G5 M5 H5 (((e2.trans e3).trans e4).trans e5) m5 (hq v w G5 M5 (e04.trans e5) r5), fun c d G5 M5 H5 e5 m5 r5 => ?_⟩
    rw [hE]
    exact hd.ex c d G5 M5 H5 (((e2.trans e3).trans e4).trans e5) m5 (hx v c d G5 M5 (e04.trans e5) r5)
/-- one op other raises -/
theorem er_binO {α : Type} {pre : α → Hp → Mem → List V → Prop} {post : α → Mem → Post} {exc : α → Mem → Value → Option Addr → Hp → Mem → Prop} {EE : L2.St → XK} {C a dx b dy : Addr} {fs gs : List (Str × V)} (xx : α) (hE : EE σ = E) (h1 : Ev ta σ G M (isV (.ref a) M)) (h2 : Ev tb σ G M (isV (.ref b) M))
    (ha : At G M a (.ins C dx fs)) (hb : At G M b (.ins C dy gs)) (hp : ∀ G1, Ex G G1 → pre xx G1 M [.ref a, .ref b]) (hq : ∀ G1 v M2, ¬ post xx M G1 v M2) (hx : ∀ c d G1 M2, Ex G G1 → exc xx M c d G1 M2 → Xc c d G1 M2) : EvR E (tBinOS C (specX pre post exc) EE ta tb) σ G M Xc := fun G1 H F e m x Q =>
  h1 G1 H F e m _ fun v2 G2 M2' H2 e2 m2 r2 => by
    obtain ⟨rfl, rfl⟩ := r2
    refine h2 G2 H2 F (e.trans e2) m2 _ fun v3 G3 M3' H3 e3 m3 r3 => ?_
    obtain ⟨rfl, rfl⟩ := r3
    have e03 := (e.trans e2).trans e3
    refine ⟨a, dx, fs, b, dy, gs, rfl, rfl, ha G3 H3 F e03 m3, hb G3 H3 F e03 m3, xx, G3, M3', F, m3, hp G3 e03, fun v G4 M4 H4 e4 m4 r4 => absurd r4 (hq G4 v M4), fun c d G4 M4 H4 e4 m4 r4 => ?_⟩
    rw [hE]
    exact x c d G4 M4 H4 ((e2.trans e3).trans e4) m4 (hx c d G4 M4 (e03.trans e4) r4)
/-- .. does not raise -/
theorem ev_binOS {α : Type} {pre : α → Hp → Mem → List V → Prop} {post : α → Mem → Post} {exc : α → Mem → Value → Option Addr → Hp → Mem → Prop} {EE : L2.St → XK} {C a dx b dy : Addr} {fs gs : List (Str × V)} (xx : α) (h1 : Ev ta σ G M (isV (.ref a) M)) (h2 : Ev tb σ G M (isV (.ref b) M))
    (ha : At G M a (.ins C dx fs)) (hb : At G M b (.ins C dy gs)) (hp : ∀ G1, Ex G G1 → pre xx G1 M [.ref a, .ref b]) (hx : ∀ c d G1 M2, ¬ exc xx M c d G1 M2) : Ev (tBinOS C (specX pre post exc) EE ta tb) σ G M (post xx M) := fun G1 H F e m Q q =>
  h1 G1 H F e m _ fun v2 G2 M2' H2 e2 m2 r2 => by
    obtain ⟨rfl, rfl⟩ := r2
    refine h2 G2 H2 F (e.trans e2) m2 _ fun v3 G3 M3' H3 e3 m3 r3 => ?_
    obtain ⟨rfl, rfl⟩ := r3
    have e03 := (e.trans e2).trans e3
    exact ⟨a, dx, fs, b, dy, gs, rfl, rfl, ha G3 H3 F e03 m3, hb G3 H3 F e03 m3, xx, G3, M3', F, m3, hp G3 e03, fun v G4 M4 H4 e4 m4 r4 => q v G4 M4 H4 ((e2.trans e3).trans e4) m4 r4, fun c d G4 M4 H4 e4 m4 r4 => absurd r4 (hx c d G4 M4)⟩
/-- C(..): raises -/
theorem er_make {α : Type} {pre : α → Hp → Mem → List V → Prop} {post : α → Mem → Post} {exc : α → Mem → Value → Option Addr → Hp → Mem → Prop} {EE : L2.St → XK} {tA : TA} {C : Addr} {Ps : List (Hp → V → Prop)} (xx : Addr → Addr → List V → α) (hE : EE σ = E) (h : EvA tA σ G M Ps M1)
    (hp : ∀ G1 p dx vs, Ex G G1 → AllP G1 Ps vs → pre (xx p dx vs) G1 (M1 ++ [(p, .ins C dx [])]) (.ref p :: vs)) (hq : ∀ p dx vs G1 v M2, ¬ post (xx p dx vs) (M1 ++ [(p, .ins C dx [])]) G1 v M2)
    (hx : ∀ p dx vs c d G1 M2, Ex G G1 → exc (xx p dx vs) (M1 ++ [(p, .ins C dx [])]) c d G1 M2 → ∃ M0 Mx, M2 = M0 ++ Mx ∧ Xc c d G1 M0) : EvR E (tMakeS C (specX pre post exc) EE tA) σ G M Xc := fun G1 H F e m x Q =>
  h G1 H F e m _ fun vs G2 H2 e2 m2 a p dx hpn hdn hne => by
    have hp2 : upd H2 dx (.own p) p = none := by rw [upd_ne hne.symm]; exact hpn
    refine ⟨xx p dx vs, G2, _, F, (m2.new hdn).newMid hp2, hp G2 p dx vs (e.trans e2) a, fun v G3 M3 H3 e3 m3 r => absurd r (hq _ _ _ _ _ _), fun c d G3 M3 H3 e3 m3 r => ?_⟩
    obtain ⟨M0, Mx, eM, r'⟩ := hx p dx vs c d G3 M3 ((e.trans e2).trans e3) r
    subst eM
    rw [hE]
    exact x c d G3 M0 H3 (e2.trans e3) m3.dropLast r'
/-! isinstance of the error -/
end
/-- isinstance(e, (A, B, ..)) of the error that the suite holds -/
def rIsET (K : PySem.W.Frag) (D a : Addr) : List V → Hp → VK → Prop := fun xs H Q => ∃ (tp : Addr) (cs : List V) (us : List Value) (b : Bool), xs = [.ref a, .ref tp] ∧ H tp = some (.tup cs) ∧ Paired ClsV cs us ∧ PySem.W.kitAny K (.ref D) us = some b ∧ Q (.bl b) H
theorem call_isET {X : Cx} {a D : Addr} {oe : Obj} {pn : List (Addr × Obj)} (C : ExcC X.K D) (hz : Zc (.ref D) none oe) (hf : ∃ vs, oe.data = .fields vs) : CallR (X.suite a ((a, oe) :: pn)) (.builtin "isinstance") (rIsET X.K D a) := by
  intro pins s σ H xs us Q I r h
  obtain ⟨tp, cs, ws, b, rfl, hT, k, e, q⟩ := h
  obtain ⟨u1, u2, rfl, r1, r2⟩ := vals2 r
  cases (show u1 = Value.ref a from r1)
  cases (show u2 = Value.ref tp from r2)
  obtain ⟨hget, _⟩ := I.pin (a, oe) (List.mem_append.mpr (.inl List.mem_cons_self))
  obtain ⟨vs, hv⟩ := hf
  obtain ⟨_, its, rv, o, h1, h2, n, h3⟩ := (show ObjOk X.prog X.w H s.heap tp (.tup cs) from I.hok tp _ hT)
  have e3 := ClsV.all k rv
  subst e3
  have J : PySem.W.InstAt s.heap a oe D none := by
    obtain ⟨oc, od, oda, osl⟩ := oe
    obtain ⟨z1, z2⟩ := hz
    dsimp only at z1 z2 hv
    subst z1 z2 hv
    exact ⟨hget, rfl, rfl, trivial⟩
  obtain ⟨oc, od, dt, sl⟩ := o
  simp only at h2 h3
  subst h2 h3
  exact PySem.W.kia_tup (PySem.W.handS_kitx_exc C.hg C.hk C.hs C.hd C.ha C.hn C.ht C.hm) I.kIn J h1 e (fun z => nomatch z) fun tk => ⟨.bl b, H, I.tok tk, rfl, q⟩
/-- the same, the class and the dict as the suite names them -/
def rIsC (K : PySem.W.Frag) (cls : Value) (d : Option Addr) (a : Addr) : List V → Hp → VK → Prop := fun xs H Q => ∃ D, cls = .ref D ∧ d = none ∧ ExcC K D ∧ rIsE K D a xs H Q
def rIsCT (K : PySem.W.Frag) (cls : Value) (d : Option Addr) (a : Addr) : List V → Hp → VK → Prop := fun xs H Q => ∃ D, cls = .ref D ∧ d = none ∧ ExcC K D ∧ rIsET K D a xs H Q
theorem k_isC {X : Cx} {K : PySem.W.Frag} {a : Addr} {cls : Value} {d : Option Addr} {oe : Obj} {pn : List (Addr × Obj)} (hK : X.K = K) (hz : Zc cls d oe) (hf : ∃ vs, oe.data = .fields vs) : CallR (X.suite a ((a, oe) :: pn)) (.builtin "isinstance") (rIsC K cls d a) := by
  subst hK
  intro pins s σ H xs us Q I r h
  obtain ⟨D, rfl, rfl, hC, h⟩ := h
  exact call_isE hC hz hf pins s σ H xs us Q I r h
theorem k_isCT {X : Cx} {K : PySem.W.Frag} {a : Addr} {cls : Value} {d : Option Addr} {oe : Obj} {pn : List (Addr × Obj)} (hK : X.K = K) (hz : Zc cls d oe) (hf : ∃ vs, oe.data = .fields vs) : CallR (X.suite a ((a, oe) :: pn)) (.builtin "isinstance") (rIsCT K cls d a) := by
  subst hK
  intro pins s σ H xs us Q I r h
  obtain ⟨D, rfl, rfl, hC, h⟩ := h
  exact call_isET hC hz hf pins s σ H xs us Q I r h
section
variable {K : PySem.W.Frag} {σ : L2.St} {G : Hp} {M M1 : Mem} {ta : TE} {a D : Addr} {b : Bool}
theorem ev_isC {c : V} {cv : Value} (hD : ExcC K D) (h : Ev ta σ G M (isV (.ref a) M)) (hcv : ∀ u, RelV c u → u = cv) (hk : PySem.W.kitOne K (.ref D) cv = some b) : Ev (tCB (rIsC K (.ref D) none a) (tCons ta (tCons (tC c) tNil))) σ G M (isV (.bl b) M) :=
  ev_CB (Ps := [fun _ v => v = .ref a, fun _ v => v = c]) (ea_cons h (ea_cons ev_c ea_nil)) fun G1 H F vs e m p Q q => by
    match vs, p with
    | [v, w], ⟨p1, p2, _⟩ =>
      subst p1 p2
      exact ⟨D, rfl, rfl, hD, w, cv, b, rfl, hcv, hk, q _ _ _ _ (Ex.refl _) m ⟨rfl, rfl⟩⟩
theorem ev_isCT {t : TA} {cs : List V} {us : List Value} (hD : ExcC K D) (h : Ev ta σ G M (isV (.ref a) M)) (ht : EvA t σ G M (cs.map fun x => fun _ v => v = x) M) (hl : cs.length ≤ 1000) (hcs : Paired ClsV cs us) (hk : PySem.W.kitAny K (.ref D) us = some b) :
    Ev (tCB (rIsCT K (.ref D) none a) (tCons ta (tCons (tTup t) tNil))) σ G M (isV (.bl b) M) := fun G1 H F e m Q q =>
  h G1 H F e m _ fun v G2 M2 H2 e2 m2 r2 => by
    obtain ⟨rfl, rfl⟩ := r2
    refine ev_tupV ht hl G2 H2 F (e.trans e2) m2 _ fun w G3 M3 H3 e3 m3 r3 => ?_
    obtain ⟨p, rfl, rfl, hp⟩ := r3
    exact ⟨D, rfl, rfl, hD, p, cs, us, b, rfl, m3.ex _ _ hp, hcs, hk, q _ _ _ _ (e2.trans e3) m3 ⟨rfl, rfl⟩⟩
theorem own_rel {C : Addr} : ∀ u, RelV (.ref C) u → u = .ref C := fun u h => h
theorem ty_rel {n : String} : ∀ u, RelV (.ty n) u → u = .type n := fun u h => h
theorem cls_paired : ∀ (cs : List Addr), Paired ClsV (cs.map V.ref) (cs.map Value.ref)
  | [] => .nil
  | c :: cs => .cons (.own c) (cls_paired cs)
end
end SX

set_option Elab.async false
set_option linter.all false
set_option maxRecDepth 100000
/-! SXj: sheets: what is refused. -/
namespace SX
open PySem PySem.Spec L2

/-- what makes a sheet -/
def okSh (db dr dc : PyData) : Bool := isWhole db 2 12 && (isWhole dr 1 4 && areCols (intOf db) (intOf dr) dc)
structure MkS where
  p : Addr
  dx : Addr
  vb : V
  vr : V
  vc : V
  db : PyData
  dr : PyData
  dc : PyData
abbrev initPre (K : PySem.W.Frag) (C : Addr) : MkS → Hp → Mem → List V → Prop := fun x G M vs => vs = [.ref x.p, x.vb, x.vr, x.vc] ∧ ∃ M0, M = M0 ++ [(x.p, .ins C x.dx [])] ∧ Dp K G x.vb x.db ∧ Dp K G x.vr x.dr ∧ Dt K G M0 x.vc x.dc ∧ dlen x.dc ≤ 100000 ∧ ∀ ds, x.dc = .list ds → ∀ c ∈ ds, dlen c ≤ 100000
abbrev initPost (K : PySem.W.Frag) (C : Addr) : MkS → Mem → Post := fun x M G v M' => okSh x.db x.dr x.dc = true ∧ v = .non ∧ ∃ l xs M0 ds, M = M0 ++ [(x.p, .ins C x.dx [])] ∧ x.dc = .list ds ∧ M' = M0 ++ [(x.p, .ins C x.dx (shF x.vb x.vr (.ref l))), (l, .lst xs)] ∧ DpAll K G xs ds
abbrev initExc (CE : Addr) : MkS → Mem → Value → Option Addr → Hp → Mem → Prop := fun x M c d _ M' => okSh x.db x.dr x.dc = false ∧ c = .ref CE ∧ d = none ∧ M' = M
theorem okSh_good {b r : Int} {cs : List (List Int)} (g : GoodSh b r cs) : okSh (.int b) (.int r) (.list (cs.map colD)) = true := by
  have hw1 : isWhole (.int b) 2 12 = true := Bool.and_eq_true_iff.mpr ⟨rfl, Bool.and_eq_true_iff.mpr ⟨decide_eq_true g.b2, decide_eq_true g.b12⟩⟩
  have hw2 : isWhole (.int r) 1 4 = true := Bool.and_eq_true_iff.mpr ⟨rfl, Bool.and_eq_true_iff.mpr ⟨decide_eq_true g.r1, decide_eq_true g.r4⟩⟩
  unfold okSh
  rw [hw1, hw2]
  exact areCols_good g.col
theorem whole_int {d : PyData} {lo hi : Int} (h : isWhole d lo hi = true) : ∃ n, d = .int n ∧ lo ≤ n ∧ n ≤ hi := by
  unfold isWhole at h
  simp only [Bool.and_eq_true, decide_eq_true_eq] at h
  cases d with
  | int n => exact ⟨n, rfl, h.2.1, h.2.2⟩
  | _ => cases h.1
theorem isCol_of {b r : Int} {d : PyData} (h : isCol b r d = true) : ∃ c, d = colD c ∧ GoodCol b r c := by
  cases d with
  | tuple ds =>
    simp only [isCol, Bool.and_eq_true, decide_eq_true_eq, List.all_eq_true] at h
    obtain ⟨hl, ha⟩ := h
    refine ⟨ds.map intOf, ?_, by rw [List.length_map]; exact hl, fun f hf => ?_⟩
    · unfold colD
      rw [List.map_map]
      congr 1
      have : ds.map (PyData.int ∘ intOf) = ds.map id := by
        apply List.map_congr_left
        intro d hd
        obtain ⟨n, rfl, _⟩ := whole_int (ha d hd)
        rfl
      rw [this, List.map_id]
    · obtain ⟨d, hd, rfl⟩ := List.mem_map.mp hf
      obtain ⟨n, rfl, h1, h2⟩ := whole_int (ha d hd)
      exact ⟨h1, by show n < b; omega⟩
  | _ => cases h
/-- setting a column: x = (p, (b, r), l, xs, index, data); the list is owned at n -/
structure SetS where
  p : Addr
  dx : Addr
  l : Addr
  n : Nat
  b : Int
  r : Int
  xs : List V
  at_ : Int
  j : Nat
  v : V
  d : PyData
abbrev setPre (K : PySem.W.Frag) (C : Addr) : SetS → Hp → Mem → List V → Prop := fun x G M vs => vs = [.ref x.p, .int x.at_, x.v] ∧ At G M x.p (.ins C x.dx (shF (.int x.b) (.int x.r) (.ref x.l))) ∧ M[x.n]? = some (x.l, .lst x.xs) ∧ ixN x.xs.length x.at_ = some x.j ∧ Dp K G x.v x.d ∧ dlen x.d ≤ 100000
abbrev setPost (K : PySem.W.Frag) : SetS → Mem → Post := fun x M G v M' => isCol x.b x.r x.d = true ∧ v = .non ∧ ∃ y, Dp K G y x.d ∧ M' = M.set x.n (x.l, .lst (x.xs.set x.j y))
abbrev setExc (CE : Addr) : SetS → Mem → Value → Option Addr → Hp → Mem → Prop := fun x M c d _ M' => isCol x.b x.r x.d = false ∧ c = .ref CE ∧ d = none ∧ M' = M
/-- joining: x = ((p, b, r, cs), (q, b', r', cs')) -/
abbrev addPre (K : PySem.W.Frag) (C : Addr) : ((Addr × Int × Int × List (List Int)) × (Addr × Int × Int × List (List Int))) → Hp → Mem → List V → Prop := fun x G M vs => vs = [.ref x.1.1, .ref x.2.1] ∧ ShAt K C G M x.1.1 x.1.2.1 x.1.2.2.1 x.1.2.2.2 ∧ ShAt K C G M x.2.1 x.2.2.1 x.2.2.2.1 x.2.2.2.2 ∧
  GoodSh x.1.2.1 x.1.2.2.1 x.1.2.2.2 ∧ GoodSh x.2.2.1 x.2.2.2.1 x.2.2.2.2 ∧ x.1.2.2.2.length + x.2.2.2.2.length ≤ 10000
abbrev newSh (K : PySem.W.Frag) (C : Addr) (b r : Int) (cs : List (List Int)) (M : Mem) : Post := fun G1 v M' => ∃ p dx l ys, v = .ref p ∧ G1 p = some (.ins C dx (shF (.int b) (.int r) (.ref l))) ∧ M' = M ++ [(l, .lst ys)] ∧ DpAll K G1 ys (cs.map colD)
abbrev addPost (K : PySem.W.Frag) (C : Addr) : ((Addr × Int × Int × List (List Int)) × (Addr × Int × Int × List (List Int))) → Mem → Post := fun x M G v M' => (x.1.2.1 = x.2.2.1 ∧ x.1.2.2.1 = x.2.2.2.1) ∧ newSh K C x.1.2.1 x.1.2.2.1 (x.1.2.2.2 ++ x.2.2.2.2) M G v M'
abbrev addExc (CE : Addr) : ((Addr × Int × Int × List (List Int)) × (Addr × Int × Int × List (List Int))) → Mem → Value → Option Addr → Hp → Mem → Prop := fun x M c d _ M' => ¬ (x.1.2.1 = x.2.2.1 ∧ x.1.2.2.1 = x.2.2.2.1) ∧ c = .ref CE ∧ d = none ∧ M' = M
abbrev cutPre (K : PySem.W.Frag) (C : Addr) : ((Addr × Int × Int × List (List Int)) × Int × Int) → Hp → Mem → List V → Prop := fun x G M vs => vs = [.ref x.1.1, .int x.2.1, .int x.2.2] ∧ ShAt K C G M x.1.1 x.1.2.1 x.1.2.2.1 x.1.2.2.2 ∧ GoodSh x.1.2.1 x.1.2.2.1 x.1.2.2.2 ∧ 0 ≤ x.2.1 ∧ 0 ≤ x.2.2
def cutL (cs : List (List Int)) (lo hi : Int) : List (List Int) := (cs.drop lo.toNat).take (hi.toNat - lo.toNat)
abbrev cutPost (K : PySem.W.Frag) (C : Addr) : ((Addr × Int × Int × List (List Int)) × Int × Int) → Mem → Post := fun x M => newSh K C x.1.2.1 x.1.2.2.1 (cutL x.1.2.2.2 x.2.1 x.2.2) M
theorem cutD_cols {cs : List (List Int)} {lo hi : Int} (h0 : 0 ≤ lo) (h1 : 0 ≤ hi) : cutD (cs.map colD) (some lo) (some hi) = (cutL cs lo hi).map colD := by
  obtain ⟨a, rfl⟩ : ∃ a : Nat, lo = a := ⟨lo.toNat, by omega⟩
  obtain ⟨b, rfl⟩ : ∃ b : Nat, hi = b := ⟨hi.toNat, by omega⟩
  unfold cutD cutL
  rw [HT.sIx_nat, HT.sIx_nat, List.map_take, List.map_drop, List.length_map, Int.toNat_natCast, Int.toNat_natCast]
  by_cases h : a ≤ cs.length
  · rw [Nat.min_eq_left h]
    by_cases h' : b ≤ cs.length
    · rw [Nat.min_eq_left h']
    · rw [Nat.min_eq_right (by omega)]
      rw [List.take_of_length_le (by simp), List.take_of_length_le (by simp; omega)]
  · have e1 : (cs.map colD).drop (min a cs.length) = [] := List.drop_of_length_le (by rw [List.length_map]; omega)
    have e2 : (cs.map colD).drop a = [] := List.drop_of_length_le (by rw [List.length_map]; omega)
    rw [e1, e2, List.take_nil, List.take_nil]
theorem GoodSh.part {b r : Int} {cs ds : List (List Int)} (g : GoodSh b r cs) (h : ∀ c ∈ ds, c ∈ cs) (hl : ds.length ≤ 10000) : GoodSh b r ds := ⟨g.b2, g.b12, g.r1, g.r4, hl, fun c hc => g.col c (h c hc)⟩
theorem GoodSh.cut {b r : Int} {cs : List (List Int)} (g : GoodSh b r cs) (lo hi : Int) : GoodSh b r (cutL cs lo hi) := g.part (fun c hc => List.mem_of_mem_drop (List.mem_of_mem_take hc)) (by
  unfold cutL
  rw [List.length_take, List.length_drop]
  have := g.len
  omega)
end SX
namespace SX
open PySem PySem.Spec L2
abbrev setGPre (K : PySem.W.Frag) (C : Addr) : SetS → Hp → Mem → List V → Prop := fun x G M vs => setPre K C x G M vs ∧ isCol x.b x.r x.d = true
/-- a + b of two lists, wherever they stand -/
def rCatS (K : PySem.W.Frag) : R2 := fun x y H Q => ∃ l b xs zs, x = .ref l ∧ y = .ref b ∧ SqL K H l xs ∧ SqL K H b zs ∧ xs.length + zs.length ≤ sizeLine ∧ ∀ p, H p = none → Q (.ref p) (upd H p (.lst (xs ++ zs)))
theorem op_catS {X : Cx} : OpR X (binaryOp .Add) (rCatS X.K) := by
  intro pins s σ H x y v u Q I rx ry h
  obtain ⟨l, b, xs, zs, rfl, rfl, hl, hb, hz, q⟩ := h
  cases (show v = Value.ref l from rx)
  cases (show u = Value.ref b from ry)
  obtain ⟨its, r, ⟨o, n, eo, oc, od, oda⟩, z1⟩ := I.list hl
  obtain ⟨its2, r2, ⟨o2, n2, eo2, oc2, od2, oda2⟩, z2⟩ := I.list hb
  obtain ⟨c1, d1, dt1, s1⟩ := o
  obtain ⟨c2, d2, dt2, s2⟩ := o2
  dsimp only at oc od oda oc2 od2 oda2
  subst oc od oda oc2 od2 oda2
  have sz : its.toArray.size + its2.toArray.size ≤ sizeLine := by rw [List.size_toArray, List.size_toArray, ← r.length, ← r2.length]; exact hz
  refine PySem.concat_meets ⟨_, eo, rfl⟩ ⟨_, eo2, rfl⟩ PySem.noFill_list_add PySem.seq_list_add PySem.F.slot_list_add PySem.F.entry_list_add (PySem.F.args_list_add_2 _ _) (PyProof.Rows.list_addW l b its.toArray its2.toArray n n2 none none s1 s2 sz) ⟨eo, eo2, ?_⟩
  have ea : its.toArray ++ its2.toArray = (its ++ its2).toArray := by simp
  rw [ea]
  exact ⟨.ref _, _, I.lnew (t' := s.toks) (r.append r2) (by rw [List.length_append]; exact hz), rfl, q _ I.fresh⟩
theorem k_cat {X : Cx} {K : PySem.W.Frag} (hK : X.K = K) : OpR X (binaryOp .Add) (rCatS K) := hK ▸ op_catS
section
variable {K : PySem.W.Frag} {σ : L2.St} {G : Hp} {M M1 : Mem} {ta tb te : TE} {ds es : List PyData} {p q C : Addr} {xs ys : List V} {E : XK} {b r : Int} {cs : List (List Int)}
theorem ev_catA (h1 : Ev ta σ G M (isV (.ref p) M)) (h2 : Ev tb σ G M (isV (.ref q) M)) (a1 : AtL K G M p xs) (a2 : AtL K G M q ys) (d1 : DpAll K G xs ds) (d2 : DpAll K G ys es) (hl : ds.length + es.length ≤ 100000) :
    Ev (tOp (rCatS K) ta tb) σ G M (own K (ds ++ es) M) :=
  ev_op h1 h2 fun G1 H F x' y' e m p1 p2 Q k => by
    subst p1 p2
    refine ⟨p, q, xs, ys, rfl, rfl, a1 G1 H F e m, a2 G1 H F e m, ?_, fun l hl => k _ G1 _ _ (Ex.refl _) (m.newMid hl) ⟨l, xs ++ ys, rfl, rfl, dpa_app (dma d1 e) (dma d2 e)⟩⟩
    rw [dpa_len d1, dpa_len d2]
    exact Nat.le_of_lt (sz_ok hl)
theorem ev_mkSh3 {tb tr tc : TE} (hb : Ev tb σ G M (isV (.int b) M)) (hr : Ev tr σ G M (isV (.int r) M)) (hc : Ev tc σ G M (isD K (.list (cs.map colD)) M)) (g : GoodSh b r cs) :
    Ev (tMake C (spec (mkShPre K C) (mkShPost K C)) [] E (tCons tb (tCons tr (tCons tc tNil)))) σ G M (newSh K C b r cs M) := fun G1 H F e m Q k => by
  refine hb G1 H F e m _ fun v1 G2 M2 H2 e2 m2 r2 => ?_
  obtain ⟨rfl, rfl⟩ := r2
  refine hr G2 H2 F (e.trans e2) m2 _ fun v3 G3 M3 H3 e3 m3 r3 => ?_
  obtain ⟨rfl, rfl⟩ := r3
  refine hc G3 H3 F ((e.trans e2).trans e3) m3 _ fun v4 G4 M4 H4 e4 m4 r4 => ?_
  obtain ⟨d4, rfl⟩ := r4
  obtain ⟨a, zs, rfl, hz, hd⟩ := dp_lst d4
  exact ev_mkSh (K := K) (σ := [some (.int b), some (.int r), some (.ref a)]) (G := G4) (M := M4) (M1 := M4) (tA := tCons (tVar 0) (tCons (tVar 1) (tCons (tVar 2) tNil))) (E := E) (C := C) (ea_cons (ev_var rfl) (ea_cons (ev_var rfl) (ea_cons (ev_var rfl) ea_nil))) (.G hz) hd g G4 H4 F (Ex.refl _) m4 Q (fun v G5 M5 H5 e5 m5 r5 => k v G5 M5 H5 (((e2.trans e3).trans e4).trans e5) m5 r5)
    |> fun z => by
      obtain ⟨x1, hx1, x2, hx2, x3, hx3, z⟩ := z
      cases hx1
      cases hx2
      cases hx3
      exact z
/-- isinstance(o, C), o an instance of C -/
structure IsCls (K : PySem.W.Frag) (C : Addr) : Prop where
  ha : PySem.W.findIn K (.ref C) "__class__" = some (some (.builtin "object.__class__"))
  hn : PySem.W.specialIn K (.builtin "object.__class__") "__get__" = some (some (.builtin "getset_descriptor.__get__"))
  ht : PySem.W.takesIn K (.builtin "object.__class__") = some true
  hm : PySem.W.mroIn K C (.type "object") = some true
theorem ev_isiO {dx D : Addr} {fs : List (Str × V)} {b : Bool} (ic : IsCls K C) (cl : Cls K C) (hk : PySem.W.kitOne K (.ref C) (.ref D) = some b) (h : Ev ta σ G M (isV (.ref p) M1)) (hp : At G M1 p (.ins C dx fs)) : Ev (tCB (rIsi K) (tCons ta (tCons (tC (.ref D)) tNil))) σ G M (isV (.bl b) M1) :=
  ev_CB (Ps := [fun _ v => v = .ref p, fun _ v => v = .ref D]) (ea_cons h (ea_cons ev_c ea_nil)) fun G1 H F vs e m z Q k => by
    match vs, z with
    | [v, c], ⟨p1, p2, _⟩ =>
      subst p1 p2
      exact ⟨.ref p, .ref D, .ref C, .ref D, b, rfl, .own D, .base (.ins (hp G1 H F e m) cl ic.ha ic.hn ic.ht ic.hm), hk, k _ _ _ _ (Ex.refl _) m ⟨rfl, rfl⟩⟩
end
end SX

set_option Elab.async false
set_option linter.all false
set_option maxRecDepth 100000
/-! SXk: more of calls, sheets as values, comprehensions that unpack. -/
namespace SX
open PySem PySem.Spec L2

theorem k_gtup {X : Cx} {K : PySem.W.Frag} {pos : Pos} {es : List Expr} {k : Nat} {t : TGs} {n : Nat} (hK : X.K = K) (hc : X.calm = true) (h : PGs X es t)
    (hn : (assignEach es X.env).length = n := by rfl) (hst : (assignEach es X.env).findIdx? (·.1) = none := by rfl) : PG X (.Tuple es k pos) (gTup K n t) := hK ▸ pg_tup hc h hn hst
section
variable {E : XK} {K : PySem.W.Frag} {σ : L2.St} {G G' H : Hp} {M M1 M2 M3 F : Mem} {R : Post} {P P' : Po} {te ta tb : TE} {tt tu : TT} {t u : TS} {x y z v : V} {d e : PyData} {ds : List PyData} {a b : Bool} {P1 P2 : Hp → V → Prop} {C : Addr} {Ps : List (Hp → V → Prop)}
/-- a call whose names depend on the values -/
theorem ev_callD {α : Type} {pre : α → Hp → Mem → List V → Prop} {post : α → Mem → Post} {t : TA} {E : XK} (h : EvA t σ G M Ps M1) (hp : ∀ G1 vs, Ex G G1 → AllP G1 Ps vs → ∃ xx, pre xx G1 M1 vs ∧ ∀ G2 v M2, Ex G1 G2 → post xx M1 G2 v M2 → R G2 v M2) :
    Ev (tCall (spec pre post) [] E t) σ G M R := fun G1 H F e m Q q =>
  h G1 H F e m _ fun vs G2 H2 e2 m2 a => by
    obtain ⟨xx, p, r⟩ := hp G2 vs (e.trans e2) a
    exact ⟨xx, G2, M1, F, m2, by rw [List.append_nil]; exact p, fun v G' M' H' e' m' r' => q v G' M' H' (e2.trans e') m' (r G' v M' e' r')⟩
theorem et_orM (h1 : EvT tt σ G M false M1) (h2 : EvT tu σ G M1 b M2) : EvT (tOr tt tu) σ G M b M2 := fun G1 H F e m Q q => h1 G1 H F e m _ fun G2 H2 e2 m2 => by
  show (if false = true then _ else _)
  rw [if_neg Bool.false_ne_true]
  exact h2 G2 H2 F (e.trans e2) m2 Q fun G3 H3 e3 m3 => q G3 H3 (e2.trans e3) m3
/-- a != b: what stands at an address, data -/
theorem ev_neAD (h1 : Ev ta σ G M (isV x M1)) (h2 : Ev tb σ G M1 (isD K e M2)) (a1 : Da K G M2 x d) (s1 : SeqAt.shaped d = true) (s2 : SeqAt.shaped e = true) : Ev (tOp (rNeD K) ta tb) σ G M (isV (.bl (!PyData.eqv d e)) M2) :=
  ev_op h1 h2 fun G1 H F x' y' ex m p1 p2 Q q => by
    subst p1
    exact ⟨d, e, a1 G1 H F ex m, dm p2 m.ex, s1, s2, q _ G1 _ H (Ex.refl _) m ⟨rfl, rfl⟩⟩
/-- o[i] = e by the own method, where it does not raise -/
theorem sv_setG {α : Type} {pre : α → Hp → Mem → List V → Prop} {post : α → Mem → Post} {to ti : TE} {E' : XK} {p dx : Addr} {fs : List (Str × V)} {Pp : Hp → V → Prop} [Mono Pp] (xx : V → α) (h : Ev te σ G M (isP Pp M1)) (h1 : Ev to σ G M1 (isV (.ref p) M1)) (h2 : Ev ti σ G M1 (isV y M1))
    (ha : At G M1 p (.ins C dx fs)) (hp : ∀ v G1, Ex G G1 → Pp G1 v → pre (xx v) G1 M1 [.ref p, y, v])
    (hq : ∀ v w G1 M2, Ex G G1 → post (xx v) M1 G1 w M2 → P.nx G1 σ M2) : Sv E (tAsg te (gSub to ti (rSetO C (spec pre post) E'))) σ G M P := fun G1 H F D e m hd =>
  h G1 H F e m _ fun v G2 M2' H2 e2 m2 r2 => by
    obtain ⟨pv, rfl⟩ := r2
    refine h1 G2 H2 F (e.trans e2) m2 _ fun v3 G3 M3' H3 e3 m3 r3 => ?_
    obtain ⟨rfl, rfl⟩ := r3
    refine h2 G3 H3 F ((e.trans e2).trans e3) m3 _ fun v4 G4 M4' H4 e4 m4 r4 => ?_
    obtain ⟨rfl, rfl⟩ := r4
    have e04 := ((e.trans e2).trans e3).trans e4
    exact ⟨p, dx, fs, rfl, ha G4 H4 F e04 m4, xx v, G4, M4', F, m4, hp v G4 e04 (Mono.mono _ _ _ (e3.trans e4) pv), fun w G5 M5 H5 e5 m5 r5 => hd.nx σ G5 M5 H5 (((e2.trans e3).trans e4).trans e5) m5 (hq v w G5 M5 (e04.trans e5) r5)⟩
/-- a sheet that stands still -/
def ShFz (K : PySem.W.Frag) (C : Addr) (b r : Int) (cs : List (List Int)) (G : Hp) (v : V) : Prop := ∃ p dx l xs, v = .ref p ∧ G p = some (.ins C dx (shF (.int b) (.int r) (.ref l))) ∧ SqL K G l xs ∧ DpAll K G xs (cs.map colD)
instance {b r : Int} {cs : List (List Int)} : Mono (ShFz K C b r cs) := ⟨fun G G' v e h => by
  obtain ⟨p, dx, l, xs, h1, h2, h3, h4⟩ := h
  exact ⟨p, dx, l, xs, h1, e _ _ h2, ex_l e h3, dma h4 e⟩⟩
theorem ShFz.at_ {b r : Int} {cs : List (List Int)} (h : ShFz K C b r cs G v) : ∃ p, v = .ref p ∧ ∀ M, ShAt K C G M p b r cs := by
  obtain ⟨p, dx, l, xs, h1, h2, h3, h4⟩ := h
  exact ⟨p, h1, fun M => ⟨dx, l, xs, .G h2, .G h3, h4⟩⟩
theorem Ev.frzSh {b r : Int} {cs : List (List Int)} (h : Ev te σ G M (newSh K C b r cs M1)) : Ev te σ G M (isP (ShFz K C b r cs) M1) := fun G1 H F e m Q q =>
  h G1 H F e m Q fun v G2 M2 H2 e2 m2 r => by
    obtain ⟨p, dx, l, ys, rfl, hp, rfl, hd⟩ := r
    obtain ⟨m3, e3⟩ := m2.freezeLast
    exact q _ _ M1 H2 (e2.trans e3) m3 ⟨⟨p, dx, l, ys, rfl, e3 _ _ hp, SqL.of upd_same, dma hd e3⟩, rfl⟩
abbrev addGPre (K : PySem.W.Frag) (C : Addr) : ((Addr × Int × Int × List (List Int)) × (Addr × Int × Int × List (List Int))) → Hp → Mem → List V → Prop := fun x G M vs => addPre K C x G M vs ∧ x.1.2.1 = x.2.2.1 ∧ x.1.2.2.1 = x.2.2.2.1
/-- one + other, alike -/
theorem ev_addO [Mono P1] {E' : XK} {b r : Int} {cs cs' : List (List Int)} (h1 : Ev ta σ G M (isP P1 M1)) (h2 : Ev tb σ G M1 (isP P2 M2)) (c1 : ∀ G1 v, Ex G G1 → P1 G1 v → ∃ p, v = .ref p ∧ ShAt K C G1 M2 p b r cs) (c2 : ∀ G1 v, Ex G G1 → P2 G1 v → ∃ p, v = .ref p ∧ ShAt K C G1 M2 p b r cs')
    (g : GoodSh b r cs) (g' : GoodSh b r cs') (hl : cs.length + cs'.length ≤ 10000) : Ev (tOp (rBinO C (spec (addGPre K C) (addPost K C)) E') ta tb) σ G M (newSh K C b r (cs ++ cs') M2) :=
  ev_op h1 h2 fun G1 H F x' y' e m p1 p2 Q k => by
    obtain ⟨p, rfl, s1⟩ := c1 G1 _ e p1
    obtain ⟨q, rfl, s2⟩ := c2 G1 _ e p2
    obtain ⟨dx, l, xs, k1, k2, k3⟩ := s1
    obtain ⟨dy, l', ys, j1, j2, j3⟩ := s2
    exact ⟨p, dx, _, q, dy, _, rfl, rfl, k1 G1 H F (Ex.refl _) m, j1 G1 H F (Ex.refl _) m, ((p, b, r, cs), (q, b, r, cs')), G1, M2, F, m, ⟨⟨rfl, ⟨dx, l, xs, k1, k2, k3⟩, ⟨dy, l', ys, j1, j2, j3⟩, g, g', hl⟩, rfl, rfl⟩, fun v G' M' H' e' m' r' => k v G' M' H' e' m' r'.2⟩
/-- one.cut(lo, hi) -/
theorem ev_cut {E' : XK} {b r lo hi : Int} {cs : List (List Int)} {p : Addr} {tA : TA} (h : Ev ta σ G M (isV (.ref p) M)) (hS : ShAt K C G M p b r cs) (g : GoodSh b r cs) (hA : EvA tA σ G M [fun _ v => v = .int lo, fun _ v => v = .int hi] M) (h0 : 0 ≤ lo) (h1 : 0 ≤ hi) (hn : ¬ (("cut" : Str) = "_base") := by decide +kernel) (hn2 : ¬ (("cut" : Str) = "_rows") := by decide +kernel) (hn3 : ¬ (("cut" : Str) = "_columns") := by decide +kernel) :
    Ev (tMeth C "cut" (spec (cutPre K C) (cutPost K C)) [] E' ta tA) σ G M (newSh K C b r (cutL cs lo hi) M) := by
  obtain ⟨dx, l, xs, k1, k2, k3⟩ := hS
  exact ev_meth (pre := cutPre K C) (post := cutPost K C) ((p, b, r, cs), lo, hi) h k1 (shF_no hn hn2 hn3) hA fun G1 vs e a => by
    match vs, a with
    | [v, w], ⟨p1, p2, _⟩ =>
      subst p1 p2
      exact ⟨rfl, ⟨dx, l, xs, k1.ex e, k2.ex e, dma k3 e⟩, g, h0, h1⟩
/-- are_columns of data -/
theorem ev_areD {tA : TA} {E' : XK} {fs cs : List (List Int)} (h : EvA tA σ G M [fun G v => Dp K G v (.list (fs.map colD)), fun G v => Dp K G v (.list (cs.map colD))] M1) (l1 : fs.length ≤ 100000) (l2 : cs.length ≤ 100000) (l3 : ∀ c ∈ fs, c.length ≤ 100000) :
    Ev (tCall (spec (arePre K) arePost) [] E' tA) σ G M (isV (.bl (decide (fs = cs))) M1) :=
  ev_callD h fun G1 vs ex p => by
    match vs, p with
    | [v, u], ⟨p1, p2, _⟩ =>
      obtain ⟨a, xs, rfl, _⟩ := dp_lst p1
      obtain ⟨a', xs', rfl, _⟩ := dp_lst p2
      exact ⟨(a, a', fs, cs), ⟨rfl, .of p1, .of p2, l1, l2, l3⟩, fun _ _ _ _ r => r⟩
/-- all([.. for x, y in l]), every turn true -/
theorem ev_allP2 {tl : TE} {own' : List Nat} {k1 k2 : Nat} (hs : Ev tl σ G M (isP P1 M1))
    (hx : ∀ G1 v, Ex G G1 → P1 G1 v → ∃ oa ws, v = .ref oa ∧ ws.length ≤ 100000 ∧ SqL K G1 oa ws ∧ ∀ (i : Nat) x, ws[i]? = some x → ∃ t q c, x = .ref t ∧ SqT K G1 t [q, c] ∧ ∀ G2, Ex G1 G2 → Ev te (((wipe σ own').set k1 (some q)).set k2 (some c)) G2 M1 (isV (.bl true) M1))
    (hw : ∀ x y, wipe (((wipe σ own').set k1 (some x)).set k2 (some y)) own' = wipe σ own') :
    Ev (tCB (rAll K) (tCons (tLc (iList K tl) (gTup K 2 (gCons (gName k1) (gCons (gName k2) gNil))) tYes te own') tNil)) σ G M (isV (.bl true) M1) := by
  have key : Ev (tLc (iList K tl) (gTup K 2 (gCons (gName k1) (gCons (gName k2) gNil))) tYes te own') σ G M (isP (fun G v => ∃ n : Nat, Dp K G v (.list ((List.replicate n true).map .bool))) M1) := fun G1 H F e m Q q =>
    hs G1 H F e m _ fun v G2 M2 H2 e2 m2 r2 => by
      obtain ⟨pv, rfl⟩ := r2
      obtain ⟨oa, ws, rfl, hl, hq, hi⟩ := hx G2 v (e.trans e2) pv
      refine ⟨oa, rfl, ⟨ws, ex_l m2.ex hq⟩, fun D hD => lc_list (K := K) (a := oa) (xs := ws) (fun i H' => ∃ G' vs, Ex G2 G' ∧ Me G' (M2 ++ (D, .lst vs) :: F) H' ∧ DpAll K G' vs ((List.replicate i true).map .bool)) ?_ ?_ ?_ ?_⟩
      · exact ⟨G2, [], Ex.refl _, by rw [mem_mid]; exact m2.newMid hD, .nil⟩
      · rintro i H' _ ⟨G', vs, e', m', _⟩
        exact ex_l m'.ex (ex_l e' hq)
      · rintro i x H' hx' ⟨G', vs, e', m', da⟩
        obtain ⟨t, q', c, rfl, ht, hb⟩ := hi i x hx'
        have hil : i < ws.length := (List.getElem?_eq_some_iff.mp hx').1
        refine ⟨t, [q', c], rfl, ex_t m'.ex (ex_t e' ht), rfl, q', [c], rfl, c, [], rfl, rfl, hw q' c, ?_⟩
        refine (et_yes : EvT tYes (((wipe σ own').set k1 (some q')).set k2 (some c)) G' M2 true M2) G' H' _ (Ex.refl _) m' _ fun G5 H5 e5 m5 => ?_
        rw [if_pos rfl]
        refine hb G5 (e'.trans e5) G5 H5 _ (Ex.refl _) m5 _ fun y G4 M4 H4 e4 m4 r4 => ?_
        obtain ⟨rfl, rfl⟩ := r4
        have hm : (M4 ++ (D, HO.lst vs) :: F)[M4.length]? = some (D, .lst vs) := by
          rw [List.getElem?_append_right (Nat.le_refl _), Nat.sub_self]
          rfl
        have hvl : vs.length = i := by rw [dpa_len da, List.length_map, List.length_replicate]
        refine ⟨vs, m4.get hm, by rw [hvl]; exact sz_ok (by omega), G4, vs ++ [.bl true], (e'.trans e5).trans e4, ?_, ?_⟩
        · have := m4.put (o' := .lst (vs ++ [.bl true])) hm
          rw [List.set_append_right _ _ (Nat.le_refl _), Nat.sub_self] at this
          exact this
        · rw [List.replicate_succ', List.map_append]
          exact dpa_app (dma da (e5.trans e4)) (.cons (.bl true) .nil)
      · rintro H' ⟨G', vs, e', m', da⟩
        rw [mem_mid] at m'
        obtain ⟨m3, e3⟩ := m'.freezeLast
        exact q _ _ M2 H' ((e2.trans e').trans e3) m3 ⟨⟨ws.length, .lst (SqL.of upd_same) (dma da e3)⟩, rfl⟩
  exact ev_CB (M1 := M1) (Ps := [fun G v => ∃ n : Nat, Dp K G v (.list ((List.replicate n true).map .bool))]) (fun G1 H F e m Q q => key G1 H F e m _ fun v G2 M2 H2 e2 m2 r => by
    obtain ⟨p, eM⟩ := r
    rw [eM] at m2
    exact q [v] G2 H2 e2 m2 ⟨p, trivial⟩) fun G1 H F vs e m p Q q => by
    match vs, p with
    | [v], ⟨⟨n, p1⟩, _⟩ =>
      obtain ⟨a, xs, rfl, hs, ha⟩ := dp_lst p1
      rw [dpAll_bls ha] at hs
      refine ⟨a, List.replicate n true, rfl, ex_l m.ex hs, ?_⟩
      rw [show (List.replicate n true).all id = true by simp]
      exact q _ _ _ _ (Ex.refl _) m ⟨rfl, rfl⟩
/-- the pairs of a sheet and its due columns -/
def OthF (K : PySem.W.Frag) (os : List (Addr × List (List Int))) (G : Hp) (v : V) : Prop := ∃ oa ws, v = .ref oa ∧ ws.length ≤ 1000 ∧ SqL K G oa ws ∧ ∀ (i : Nat) x, ws[i]? = some x → ∃ t q c cs', x = .ref t ∧ SqT K G t [.ref q, c] ∧ Dp K G c (.list (cs'.map colD)) ∧ (q, cs') ∈ os
instance {os : List (Addr × List (List Int))} : Mono (OthF K os) := ⟨fun G G' v e h => by
  obtain ⟨oa, ws, h1, h2, h3, h4⟩ := h
  refine ⟨oa, ws, h1, h2, ex_l e h3, fun i x hx => ?_⟩
  obtain ⟨t, q, c, cs', k1, k2, k3, k4⟩ := h4 i x hx
  exact ⟨t, q, c, cs', k1, ex_t e k2, dm k3 e, k4⟩⟩
end
/-- (sheet p, dict, its list l owned at n, base, rows, its items, its length as cs, the others) -/
structure OwnS where
  p : Addr
  dx : Addr
  l : Addr
  n : Nat
  b : Int
  r : Int
  xs : List V
  cs : List (List Int)
  os : List (Addr × List (List Int))
abbrev ownPre (K : PySem.W.Frag) (C : Addr) : OwnS → Hp → Mem → List V → Prop := fun x G M vs => ∃ cv ov, vs = [.ref x.p, .int x.b, .int x.r, cv, ov] ∧ At G M x.p (.ins C x.dx (shF (.int x.b) (.int x.r) (.ref x.l))) ∧ M[x.n]? = some (x.l, .lst x.xs) ∧ x.xs.length = x.cs.length ∧ GoodSh x.b x.r x.cs ∧
  Dp K G cv (.list (x.cs.map colD)) ∧ OthF K x.os G ov ∧ G x.p = some (.ins C x.dx (shF (.int x.b) (.int x.r) (.ref x.l))) ∧ ∀ q cs', (q, cs') ∈ x.os → GoodSh x.b x.r cs' ∧ ∀ ys, ShAt K C G (M.set x.n (x.l, .lst ys)) q x.b x.r cs'
abbrev ownPost : OwnS → Mem → Post := fun x M _ v M' => v = .bl true ∧ ∃ ys, M' = M.set x.n (x.l, .lst ys)
end SX
namespace SX
open PySem PySem.Spec L2
abbrev powPre : (Int × Nat) → Hp → Mem → List V → Prop := fun x G M vs => vs = [.int x.1, .int (x.2 : Int)] ∧ (-(2 ^ 64) < x.1 ∧ x.1 < 2 ^ 64) ∧ x.2 ≤ 100000
abbrev powPost : (Int × Nat) → Mem → Post := fun x M => isV (.int (x.1 ^ x.2)) M
theorem horner_last (b : Int) : ∀ (l : List Int) (y : Int), horner b l y = horner b l 0 + b ^ l.length * y
  | [], y => by simp [horner]
  | f :: l, y => by
    have ih := horner_last b l y
    unfold horner at ih ⊢
    simp only [List.foldr_cons, List.length_cons]
    rw [ih, Int.add_mul, Int.pow_succ, Int.mul_assoc, Int.mul_comm y b, ← Int.mul_assoc]
    omega
theorem valueOf_app (b : Int) (cs ds : List (List Int)) : valueOf b (cs ++ ds) = valueOf b cs + b ^ cs.length * valueOf b ds := by
  have := horner_last b (cs.map List.sum) (horner b (ds.map List.sum) 0)
  rw [List.length_map] at this
  unfold valueOf
  rw [← this, List.map_append]
  unfold horner
  rw [List.foldr_append]
/-- two sheets that are not alike -/
abbrev joinPre (K : PySem.W.Frag) (C : Addr) : ((Addr × Int × Int × List (List Int)) × (Addr × Int × Int × List (List Int))) → Hp → Mem → List V → Prop := fun x G M vs => addPre K C x G M vs ∧ ¬ (x.1.2.1 = x.2.2.1 ∧ x.1.2.2.1 = x.2.2.2.1)
abbrev joinPost (K : PySem.W.Frag) : ((Addr × Int × Int × List (List Int)) × (Addr × Int × Int × List (List Int))) → Mem → Post := fun x M => isD K (.list [.bool true, .bool true, .bool false]) M
end SX
namespace SX
open PySem PySem.Spec L2
/-- the law's words of a sheet (p, base, rows, columns), the due columns as data -/
abbrev rightGPre (K : PySem.W.Frag) (C : Addr) : (Addr × Int × Int × List (List Int)) → Hp → Mem → List V → Prop := fun x G M vs => ∃ cv, vs = [.ref x.1, .int x.2.1, .int x.2.2.1, cv] ∧ ShAt K C G M x.1 x.2.1 x.2.2.1 x.2.2.2 ∧ Dp K G cv (.list (x.2.2.2.map colD)) ∧ GoodSh x.2.1 x.2.2.1 x.2.2.2
abbrev rightGPost : (Addr × Int × Int × List (List Int)) → Mem → Post := fun _ M => isV (.bl true) M
theorem ev_rightG {K : PySem.W.Frag} {C : Addr} {σ : L2.St} {G : Hp} {M M1 : Mem} {tA : TA} {E : XK} {p : Addr} {b r : Int} {cs : List (List Int)} (h : EvA tA σ G M [fun _ v => v = .ref p, fun _ v => v = .int b, fun _ v => v = .int r, fun G v => Dp K G v (.list (cs.map colD))] M1) (hS : ShAt K C G M1 p b r cs) (g : GoodSh b r cs) :
    Ev (tCall (spec (rightGPre K C) rightGPost) [] E tA) σ G M (isV (.bl true) M1) :=
  ev_call (p, b, r, cs) h fun G1 vs e q => by
    match vs, q with
    | [v1, v2, v3, v4], ⟨p1, p2, p3, p4, _⟩ =>
      subst p1 p2 p3
      exact ⟨v4, rfl, hS.ex e, p4, g⟩
theorem cutL_len {cs : List (List Int)} {lo hi : Int} (h0 : 0 ≤ lo) (h1 : lo ≤ hi) (h2 : hi ≤ cs.length) : ((cutL cs lo hi).length : Int) = hi - lo := by
  unfold cutL
  rw [List.length_take, List.length_drop]
  omega
theorem cutL_cat {cs : List (List Int)} {lo hi : Int} (h0 : 0 ≤ lo) (h1 : lo ≤ hi) : cutL cs 0 lo ++ cutL cs lo hi = cutL cs 0 hi := by
  unfold cutL
  rw [Int.toNat_zero, List.drop_zero, Nat.sub_zero, Nat.sub_zero, ← List.take_add]
  congr 1
  omega
theorem cutL_all {cs : List (List Int)} {hi : Int} (h0 : 0 ≤ hi) : cutL cs 0 hi ++ cutL cs hi cs.length = cs := by
  unfold cutL
  rw [Int.toNat_zero, List.drop_zero, Nat.sub_zero, Int.toNat_natCast]
  have : (cs.drop hi.toNat).take (cs.length - hi.toNat) = cs.drop hi.toNat := List.take_of_length_le (by rw [List.length_drop]; omega)
  rw [this, List.take_append_drop]
structure PartS where
  dk : Addr
  i : Nat
  D : Deck
  p : Addr
  b : Int
  r : Int
  cs : List (List Int)
abbrev partPre (K : PySem.W.Frag) (C : Addr) : PartS → Hp → Mem → List V → Prop := fun x G M vs => ∃ cv, vs = [.ref x.dk, .ref x.p, cv, .int x.b, .int x.r] ∧ M[x.i]? = some (x.dk, x.D.ho) ∧ (∀ o, ShAt K C G (M.set x.i (x.dk, o)) x.p x.b x.r x.cs) ∧ Dp K G cv (.list (x.cs.map colD)) ∧ GoodSh x.b x.r x.cs ∧ x.cs.length ≤ 1000
def partDk (D : Deck) (n : Int) : Deck := dn (dn D (n + 1)) (n + 1 - dv D (n + 1))
def strDk (D : Deck) : Deck := dn (if dv D 3 ≠ 0 then dn (if dv D 3 ≠ 1 then dn (dn D 3) 10 else dn D 3) 3 else (if dv D 3 ≠ 1 then dn (dn D 3) 10 else dn D 3)) 3
abbrev partPost : PartS → Mem → Post := fun x M => isV (.bl true) (M.set x.i (x.dk, (partDk x.D x.cs.length).ho))
abbrev strPost : PartS → Mem → Post := fun x M => isV (.bl true) (M.set x.i (x.dk, (strDk x.D).ho))
end SX
namespace SX
open PySem PySem.Spec L2
section
variable {K : PySem.W.Frag} {C : Addr} {σ : L2.St} {G : Hp} {M M1 M2 M3 M4 : Mem} {tA : TA} {E : XK} {ta tb tc td te tf : TE}
theorem allP2 {P1 P2 : Hp → V → Prop} : ∀ {vs : List V}, AllP G [P1, P2] vs → ∃ v w, vs = [v, w] ∧ P1 G v ∧ P2 G w
  | [v, w], ⟨a, b, _⟩ => ⟨v, w, rfl, a, b⟩
theorem allP3 {P1 P2 P3 : Hp → V → Prop} : ∀ {vs : List V}, AllP G [P1, P2, P3] vs → ∃ v w u, vs = [v, w, u] ∧ P1 G v ∧ P2 G w ∧ P3 G u
  | [v, w, u], ⟨a, b, c, _⟩ => ⟨v, w, u, rfl, a, b, c⟩
theorem allP5 {P1 P2 P3 P4 P5 : Hp → V → Prop} : ∀ {vs : List V}, AllP G [P1, P2, P3, P4, P5] vs → ∃ v w u x y, vs = [v, w, u, x, y] ∧ P1 G v ∧ P2 G w ∧ P3 G u ∧ P4 G x ∧ P5 G y
  | [v, w, u, x, y], ⟨a, b, c, d, e, _⟩ => ⟨v, w, u, x, y, rfl, a, b, c, d, e⟩
theorem ev_own (x : OwnS) (h : EvA tA σ G M [fun _ v => v = .ref x.p, fun _ v => v = .int x.b, fun _ v => v = .int x.r, fun G v => Dp K G v (.list (x.cs.map colD)), OthF K x.os] M1) (hp : G x.p = some (.ins C x.dx (shF (.int x.b) (.int x.r) (.ref x.l)))) (hl : M1[x.n]? = some (x.l, .lst x.xs)) (hn : x.xs.length = x.cs.length) (g : GoodSh x.b x.r x.cs)
    (ho : ∀ q cs', (q, cs') ∈ x.os → GoodSh x.b x.r cs' ∧ ∀ ys, ShAt K C G (M1.set x.n (x.l, .lst ys)) q x.b x.r cs') : Ev (tCall (spec (ownPre K C) ownPost) [] E tA) σ G M (fun _ v M' => v = .bl true ∧ ∃ ys, M' = M1.set x.n (x.l, .lst ys)) :=
  ev_call x h fun G1 vs e q => by
    obtain ⟨v1, v2, v3, v4, v5, rfl, p1, p2, p3, p4, p5⟩ := allP5 q
    subst p1 p2 p3
    exact ⟨v4, v5, rfl, .G (e _ _ hp), hl, hn, g, p4, p5, e _ _ hp, fun q cs' hq => ⟨(ho q cs' hq).1, fun ys => ((ho q cs' hq).2 ys).ex e⟩⟩
/-- (sheet, due columns) -/
def PrF (K : PySem.W.Frag) (q : Addr) (cs : List (List Int)) (G : Hp) (v : V) : Prop := ∃ t c, v = .ref t ∧ SqT K G t [.ref q, c] ∧ Dp K G c (.list (cs.map colD))
instance {q : Addr} {cs : List (List Int)} : Mono (PrF K q cs) := ⟨fun G G' v e h => by
  obtain ⟨t, c, h1, h2, h3⟩ := h
  exact ⟨t, c, h1, ex_t e h2, dm h3 e⟩⟩
theorem ev_pr {q : Addr} {cs : List (List Int)} (h1 : Ev ta σ G M (isV (.ref q) M)) (h2 : Ev tb σ G M (isD K (.list (cs.map colD)) M1)) : Ev (tTup (tCons ta (tCons tb tNil))) σ G M (isP (PrF K q cs) M1) := fun G1 H F e m Q k =>
  ea_cons h1 (ea_cons h2 ea_nil) G1 H F e m _ fun vs G2 H2 e2 m2 a => by
      obtain ⟨v, w, rfl, p1, p2⟩ := allP2 a
      subst p1
      refine ⟨Nat.le_of_lt (small1000 (by show 2 ≤ 1000; decide)), fun p hp => ?_⟩
      have g2 := m2.free hp
      exact k _ _ _ _ (e2.trans (Ex.new g2)) (m2.newF hp) ⟨⟨p, w, rfl, SqT.of upd_same, dm p2 (Ex.new g2)⟩, rfl⟩
theorem othF_of {os : List (Addr × List (List Int))} {ws : List V} {oa : Addr} (hq : SqL K G oa ws) (hl : ws.length ≤ 1000) (h : ∀ x ∈ ws, ∃ q cs, (q, cs) ∈ os ∧ PrF K q cs G x) : OthF K os G (.ref oa) :=
  ⟨oa, ws, rfl, hl, hq, fun i x hx => by
    obtain ⟨q, cs, hm, t, c, h1, h2, h3⟩ := h x (List.mem_of_getElem? hx)
    exact ⟨t, q, c, cs, h1, h2, h3, hm⟩⟩
theorem ev_oth2 {q q' : Addr} {cs cs' : List (List Int)} (h1 : Ev ta σ G M (isV (.ref q) M)) (h2 : Ev tb σ G M (isD K (.list (cs.map colD)) M1)) (h3 : Ev tc σ G M1 (isV (.ref q') M1)) (h4 : Ev td σ G M1 (isD K (.list (cs'.map colD)) M2)) :
    Ev (tLst (tCons (tTup (tCons ta (tCons tb tNil))) (tCons (tTup (tCons tc (tCons td tNil))) tNil))) σ G M (isP (OthF K [(q, cs), (q', cs')]) M2) := fun G1 H F e m Q k =>
  ea_cons (ev_pr h1 h2) (ea_cons (ev_pr h3 h4) ea_nil) G1 H F e m _ fun vs G2 H2 e2 m2 a => by
      obtain ⟨v, w, rfl, p1, p2⟩ := allP2 a
      refine ⟨Nat.le_of_lt (small1000 (by show 2 ≤ 1000; decide)), fun p hp => ?_⟩
      have g2 := m2.free hp
      refine k _ _ _ _ (e2.trans (Ex.new g2)) (m2.newF hp) ⟨othF_of (SqL.of upd_same) (by show _ ≤ 1000; simp) fun x hx => ?_, rfl⟩
      rcases List.mem_cons.mp hx with rfl | hx
      · exact ⟨q, cs, List.mem_cons_self, Mono.mono _ _ _ (Ex.new g2) p1⟩
      · cases List.mem_singleton.mp hx
        exact ⟨q', cs', by simp, Mono.mono _ _ _ (Ex.new g2) p2⟩
theorem ev_oth3 {q q' q'' : Addr} {cs cs' cs'' : List (List Int)} (h1 : Ev ta σ G M (isV (.ref q) M)) (h2 : Ev tb σ G M (isD K (.list (cs.map colD)) M1)) (h3 : Ev tc σ G M1 (isV (.ref q') M1)) (h4 : Ev td σ G M1 (isD K (.list (cs'.map colD)) M2)) (h5 : Ev te σ G M2 (isV (.ref q'') M2)) (h6 : Ev tf σ G M2 (isD K (.list (cs''.map colD)) M3)) :
    Ev (tLst (tCons (tTup (tCons ta (tCons tb tNil))) (tCons (tTup (tCons tc (tCons td tNil))) (tCons (tTup (tCons te (tCons tf tNil))) tNil)))) σ G M (isP (OthF K [(q, cs), (q', cs'), (q'', cs'')]) M3) := fun G1 H F e m Q k =>
  ea_cons (ev_pr h1 h2) (ea_cons (ev_pr h3 h4) (ea_cons (ev_pr h5 h6) ea_nil)) G1 H F e m _ fun vs G2 H2 e2 m2 a => by
      obtain ⟨v, w, u, rfl, p1, p2, p3⟩ := allP3 a
      refine ⟨Nat.le_of_lt (small1000 (by show 3 ≤ 1000; decide)), fun p hp => ?_⟩
      have g2 := m2.free hp
      refine k _ _ _ _ (e2.trans (Ex.new g2)) (m2.newF hp) ⟨othF_of (SqL.of upd_same) (by show _ ≤ 1000; simp) fun x hx => ?_, rfl⟩
      rcases List.mem_cons.mp hx with rfl | hx
      · exact ⟨q, cs, List.mem_cons_self, Mono.mono _ _ _ (Ex.new g2) p1⟩
      · rcases List.mem_cons.mp hx with rfl | hx
        · exact ⟨q', cs', by simp, Mono.mono _ _ _ (Ex.new g2) p2⟩
        · cases List.mem_singleton.mp hx
          exact ⟨q'', cs'', by simp, Mono.mono _ _ _ (Ex.new g2) p3⟩
end
end SX
namespace SX
open PySem PySem.Spec L2
section
variable {K : PySem.W.Frag} {C : Addr} {σ : L2.St} {G : Hp} {M M1 M2 M3 M4 : Mem} {P : Po} {tA : TA} {E : XK} {ta tb tc td te tf : TE} {t u : TS}
theorem kept_same {n : Nat} {d : PyData} : kept n (fun _ => true) (fun _ => d) = List.replicate n d := by
  rw [kept_all]
  apply List.ext_getElem?
  intro k
  by_cases hk : k < n
  · rw [List.getElem?_map, List.getElem?_range hk, List.getElem?_replicate, if_pos hk]
    rfl
  · rw [List.getElem?_eq_none (by simp; omega), List.getElem?_eq_none (by simp; omega)]
theorem ev_join {p q : Addr} {b r b' r' : Int} {cs cs' : List (List Int)} (h : EvA tA σ G M [fun _ v => v = .ref p, fun _ v => v = .ref q] M1) (hS : ShAt K C G M1 p b r cs) (hT : ShAt K C G M1 q b' r' cs') (g : GoodSh b r cs) (g' : GoodSh b' r' cs') (hl : cs.length + cs'.length ≤ 10000) (hn : ¬ (b = b' ∧ r = r')) :
    Ev (tCall (spec (joinPre K C) (joinPost K)) [] E tA) σ G M (isD K (.list [.bool true, .bool true, .bool false]) M1) :=
  ev_call ((p, b, r, cs), q, b', r', cs') h fun G1 vs e a => by
    obtain ⟨v, w, rfl, p1, p2⟩ := allP2 a
    subst p1 p2
    exact ⟨⟨rfl, hS.ex e, hT.ex e, g, g', hl⟩, hn⟩
theorem eqv_ttf : PyData.eqv (.list [.bool true, .bool true, .bool false]) (.list [.bool true, .bool true, .bool false]) = true := by decide +kernel
theorem sh_ttf : SeqAt.shaped (.list [.bool true, .bool true, .bool false]) = true := by decide +kernel
/-- if not f(..): .. , where f says True and leaves what is not named -/
theorem sv_ifN {R' : Mem → Prop} (h : Ev te σ G M (fun _ v M' => v = .bl true ∧ R' M')) (k : ∀ G' M', Ex G G' → R' M' → Sv E u σ G' M' P) : Sv E (tIfS (tNot (tB te)) t u) σ G M P := fun G1 H F D e m hd =>
  h G1 H F e m _ fun v G2 M2 H2 e2 m2 r => by
    obtain ⟨rfl, r'⟩ := r
    refine ⟨true, rfl, ?_⟩
    show (if (!true) = true then _ else _)
    rw [if_neg (by decide)]
    exact k G2 M2 (e.trans e2) r' G2 H2 F D (Ex.refl _) m2 (hd.up e2)
theorem allP5' {P1 P2 P3 P4 P5 : Hp → V → Prop} : ∀ {vs : List V}, AllP G [P1, P2, P3, P4, P5] vs → ∃ v w u x y, vs = [v, w, u, x, y] ∧ P1 G v ∧ P2 G w ∧ P3 G u ∧ P4 G x ∧ P5 G y := allP5
theorem ev_part {post : PartS → Mem → Post} (x : PartS) (h : EvA tA σ G M [fun _ v => v = .ref x.dk, fun _ v => v = .ref x.p, fun G v => Dp K G v (.list (x.cs.map colD)), fun _ v => v = .int x.b, fun _ v => v = .int x.r] M1) (hi : M1[x.i]? = some (x.dk, x.D.ho)) (hS : ∀ o, ShAt K C G (M1.set x.i (x.dk, o)) x.p x.b x.r x.cs) (g : GoodSh x.b x.r x.cs) (hn : x.cs.length ≤ 1000) :
    Ev (tCall (spec (partPre K C) post) [] E tA) σ G M (post x M1) :=
  ev_call x h fun G1 vs e a => by
    obtain ⟨v1, v2, v3, v4, v5, rfl, p1, p2, p3, p4, p5⟩ := allP5 a
    subst p1 p2 p4 p5
    exact ⟨v3, rfl, hi, fun o => (hS o).ex e, p3, g, hn⟩
theorem ev_catD {ds es : List PyData} (h1 : Ev ta σ G M (isD K (.list ds) M1)) (h2 : Ev tb σ G M1 (isD K (.list es) M2)) (hl : ds.length + es.length ≤ 100000) :
    Ev (tOp (rCatS K) ta tb) σ G M (own K (ds ++ es) M2) :=
  ev_op h1 h2 fun G1 H F x' y' e m p1 p2 Q k => by
    obtain ⟨p, xs, rfl, hx, dx⟩ := dp_lst p1
    obtain ⟨q, ys, rfl, hy, dy⟩ := dp_lst p2
    refine ⟨p, q, xs, ys, rfl, rfl, ex_l m.ex hx, ex_l m.ex hy, ?_, fun l hl => k _ G1 _ _ (Ex.refl _) (m.newMid hl) ⟨l, xs ++ ys, rfl, rfl, dpa_app dx dy⟩⟩
    rw [dpa_len dx, dpa_len dy]
    exact Nat.le_of_lt (sz_ok hl)
theorem ev_pow {b : Int} {n : Nat} (h : EvA tA σ G M [fun _ v => v = .int b, fun _ v => v = .int (n : Int)] M1) (hb : -(2 ^ 64) < b ∧ b < 2 ^ 64) (hn : n ≤ 100000) : Ev (tCall (spec powPre powPost) [] E tA) σ G M (isV (.int (b ^ n)) M1) :=
  ev_call (b, n) h fun G1 vs e a => by
    obtain ⟨v, w, rfl, p1, p2⟩ := allP2 a
    subst p1 p2
    exact ⟨rfl, hb, hn⟩
theorem pow_bd {b : Int} {n : Nat} (h0 : 0 ≤ b) (h1 : b ≤ 12) : 0 ≤ b ^ n ∧ b ^ n ≤ 16 ^ n := by
  induction n with
  | zero => simp
  | succ n ih =>
    rw [Int.pow_succ, Int.pow_succ]
    exact ⟨Int.mul_nonneg ih.1 h0, Int.mul_le_mul ih.2 (by omega) h0 (Int.le_trans ih.1 ih.2)⟩
theorem p16 (n : Nat) : (16 : Int) ^ n = ((2 ^ (4 * n) : Nat) : Int) := by
  rw [Nat.pow_mul]
  norm_cast
theorem pow_wide {b : Int} {n : Nat} (h0 : 0 ≤ b) (h1 : b ≤ 12) : (b ^ n).natAbs < 2 ^ (4 * n + 1) := by
  have := pow_bd (n := n) h0 h1
  rw [p16] at this
  rw [Nat.pow_succ]
  have : 0 < 2 ^ (4 * n) := Nat.two_pow_pos _
  omega
theorem horner_bd {b : Int} (h0 : 0 ≤ b) (h1 : b ≤ 12) : ∀ (l : List Int), (∀ f ∈ l, 0 ≤ f ∧ f ≤ 48) → 0 ≤ horner b l 0 ∧ horner b l 0 ≤ 48 * (16 ^ l.length - 1)
  | [], _ => by simp [horner]
  | f :: l, h => by
    have ih := horner_bd h0 h1 l fun g hg => h g (List.mem_cons_of_mem _ hg)
    have hf := h f List.mem_cons_self
    have e : horner b (f :: l) 0 = horner b l 0 * b + f := rfl
    rw [e, List.length_cons, Int.pow_succ]
    have a1 : 0 ≤ horner b l 0 * b := Int.mul_nonneg ih.1 h0
    have a2 : horner b l 0 * b ≤ horner b l 0 * 12 := Int.mul_le_mul_of_nonneg_left h1 ih.1
    have a3 : (0 : Int) ≤ 16 ^ l.length - 1 := by
      have := ih.1
      have := ih.2
      omega
    omega
theorem value_wide {b r : Int} {cs : List (List Int)} (g : GoodSh b r cs) : (valueOf b cs).natAbs < 2 ^ (4 * cs.length + 6) := by
  have gb := g.b2
  have gb' := g.b12
  have gr := g.r4
  have := horner_bd (b := b) (by omega) gb' (cs.map List.sum) (fun f hf => by
    obtain ⟨c, hc, rfl⟩ := List.mem_map.mp hf
    have h1 := sum_lo (g.col c hc).2
    have h2 := (g.col c hc).1
    have : (c.length : Int) * b ≤ 4 * 12 := Int.mul_le_mul (by omega) gb' (by omega) (by decide)
    omega)
  rw [List.length_map, p16] at this
  have e : 2 ^ (4 * cs.length + 6) = 2 ^ (4 * cs.length) * 64 := Nat.pow_add _ _ _
  have hp : 0 < 2 ^ (4 * cs.length) := Nat.two_pow_pos _
  unfold valueOf
  rw [e]
  omega
end
end SX

set_option Elab.async false
set_option linter.all false
set_option maxRecDepth 100000
/-! SXl: tuples cut and joined, values unpacked, lists of owned lists; columns set, good or not. -/
namespace SX
open PySem PySem.Spec L2
theorem k_catA {X : Cx} {K : PySem.W.Frag} (hK : X.K = K) : OpR X (binaryOp .Add) (rCatA K) := hK ▸ op_catA
theorem k_slA {X : Cx} {K : PySem.W.Frag} (hK : X.K = K) : SlR X (rSlA K) := hK ▸ sl_tupA
section
variable {E : XK} {K : PySem.W.Frag} {σ : L2.St} {G G' H : Hp} {M M1 M2 M3 F : Mem} {R : Post} {P P' : Po} {te ta tb : TE} {tt tu : TT} {t u : TS} {x y z v : V} {d e : PyData} {ds es : List PyData} {a b : Bool} {P1 P2 : Hp → V → Prop} {C : Addr} {Ps : List (Hp → V → Prop)}
theorem dpa_nil {xs : List V} (h : DpAll K G xs []) : xs = [] := by cases h; rfl
theorem dpa_set : ∀ {xs : List V} {ds : List PyData} {i : Nat}, DpAll K G xs ds → Dp K G x d → DpAll K G (xs.set i x) (ds.set i d)
  | _, [], _, h, _ => by cases h; exact .nil
  | _, e :: ds, 0, h, hd => by
    cases h with
    | cons _ h2 => exact .cons hd h2
  | _, e :: ds, i + 1, h, hd => by
    cases h with
    | cons h1 h2 => exact .cons h1 (dpa_set (i := i) h2 hd)
theorem ev_catT (h1 : Ev ta σ G M (isD K (.tuple ds) M1)) (h2 : Ev tb σ G M1 (isD K (.tuple es) M2)) (hl : ds.length + es.length ≤ 100000) : Ev (tOp (rCatA K) ta tb) σ G M (isD K (.tuple (ds ++ es)) M2) :=
  ev_op h1 h2 fun G1 H F x' y' ex m p1 p2 Q k => by
    obtain ⟨p, xs, rfl, hx, dx⟩ := dp_tup p1
    obtain ⟨q, ys, rfl, hy, dy⟩ := dp_tup p2
    refine ⟨p, q, xs, ys, rfl, rfl, ex_t m.ex hx, ex_t m.ex hy, ?_, fun z => ?_, fun _ z => ?_, fun _ _ l hl => ?_⟩
    · rw [dpa_len dx, dpa_len dy]
      exact Nat.le_of_lt (sz_ok hl)
    · subst z
      have : ds = [] := List.length_eq_zero_iff.mp (by rw [← dpa_len dx]; rfl)
      subst this
      exact k _ G1 _ _ (Ex.refl _) m ⟨p2, rfl⟩
    · subst z
      have : es = [] := List.length_eq_zero_iff.mp (by rw [← dpa_len dy]; rfl)
      subst this
      rw [List.append_nil] at k
      exact k _ G1 _ _ (Ex.refl _) m ⟨p1, rfl⟩
    · have g1 := m.free hl
      exact k _ _ _ _ (Ex.new g1) (m.newF hl) ⟨.tup (SqT.of upd_same) (dma (dpa_app dx dy) (Ex.new g1)), rfl⟩
theorem ev_slT {tl th : TO} {lo hi : Option Int} (h : Ev te σ G M (isD K (.tuple ds) M1)) (hl : EvO tl σ G M1 lo M1) (hh : EvO th σ G M1 hi M1) : Ev (tSl (rSlA K) te tl th) σ G M (isD K (.tuple (cutD ds lo hi)) M1) := fun G1 H F e m Q q =>
  h G1 H F e m _ fun v G2 M2 H2 e2 m2 r => by
    obtain ⟨dv, rfl⟩ := r
    refine hl G2 H2 F (e.trans e2) m2 _ fun G3 H3 e3 m3 => hh G3 H3 F ((e.trans e2).trans e3) m3 _ fun G4 H4 e4 m4 => ?_
    obtain ⟨a, xs, rfl, hs, ha⟩ := dp_tup (dm dv (e3.trans e4))
    refine ⟨a, xs, rfl, ex_t m4.ex hs, fun z => ?_, fun _ p hp => ?_⟩
    · have hc : cutD ds lo hi = ds := by
        unfold cutD
        rw [← dpa_len ha, z.1, z.2, List.drop_zero, Nat.sub_zero, List.take_of_length_le (by rw [dpa_len ha]; exact Nat.le_refl _)]
      rw [hc] at q
      exact q _ G4 _ _ ((e2.trans e3).trans e4) m4 ⟨.tup hs ha, rfl⟩
    · have g1 := m4.free hp
      exact q _ _ _ _ (((e2.trans e3).trans e4).trans (Ex.new g1)) (m4.newF hp) ⟨.tup (SqT.of upd_same) (dma (dpa_cut ha lo hi) (Ex.new g1)), rfl⟩
theorem cutD_drop {ds : List PyData} {n : Nat} : cutD ds (some (n : Int)) none = ds.drop n := by
  unfold cutD
  rw [HT.sIx_none, show HT.sIx ds.length 0 (some (n : Int)) = min n ds.length from HT.sIx_nat _ _ _]
  by_cases h : n ≤ ds.length
  · rw [Nat.min_eq_left h, List.take_of_length_le (by rw [List.length_drop]; exact Nat.le_refl _)]
  · rw [Nat.min_eq_right (by omega), List.drop_of_length_le (Nat.le_refl _), List.drop_of_length_le (by omega), List.take_nil]
/-- tuple(..) of a list at an address -/
theorem ev_tupA {p : Addr} {xs : List V} (h : Ev ta σ G M (isV (.ref p) M1)) (hl : AtL K G M1 p xs) (hd : DpAll K G xs ds) : Ev (tCB (rTupS K) (tCons ta tNil)) σ G M (isD K (.tuple ds) M1) :=
  ev_CB (Ps := [fun _ v => v = .ref p]) (ea_cons h ea_nil) fun G1 H F vs e m p' Q q => by
    match vs, p' with
    | [v], ⟨p1, _⟩ =>
      subst p1
      refine ⟨p, xs, rfl, .inl ⟨hl G1 H F e m, fun l hl' => ?_⟩⟩
      have g1 := m.free hl'
      exact q _ _ _ _ (Ex.new g1) (m.newF hl') ⟨.tup (SqT.of upd_same) (dma (dma hd e) (Ex.new g1)), rfl⟩
/-- a, b = data -/
theorem sv_unp2 {i j : Nat} (h : Ev te σ G M (isD K (.tuple [d, e]) M1)) (k : ∀ x y G', Ex G G' → Dp K G' x d → Dp K G' y e → Sv E u ((σ.set i (some x)).set j (some y)) G' M1 P) : Sv E (tSeq (tAsg te (gTup K 2 (gCons (gName i) (gCons (gName j) gNil)))) u) σ G M P := fun G1 H F D ex m hd =>
  h G1 H F ex m _ fun v G2 M2 H2 e2 m2 r => by
    obtain ⟨dv, rfl⟩ := r
    obtain ⟨a, xs, rfl, hs, ha⟩ := dp_tup dv
    cases ha with
    | cons h1 h2 =>
      cases h2 with
      | cons h2 h3 =>
        cases h3
        exact ⟨a, _, rfl, ex_t m2.ex hs, rfl, _, _, rfl, _, _, rfl, rfl, k _ _ G2 (ex.trans e2) h1 h2 G2 H2 F D (Ex.refl _) m2 (hd.up e2)⟩
theorem sv_tgP {i j : Nat} {tb : TS} {t : Addr} {q c : V} (ht : SqT K G t [q, c]) (h : Sv E tb ((σ.set i (some q)).set j (some c)) G M P) : Sv E (tTgt (gTup K 2 (gCons (gName i) (gCons (gName j) gNil))) (.ref t) tb) σ G M P := fun G1 H F D e m hd =>
  ⟨t, _, rfl, ex_t m.ex (ex_t e ht), rfl, _, _, rfl, _, _, rfl, rfl, h G1 H F D e m hd⟩
/-- what is owned and not needed is forgotten -/
theorem sv_sub {M' : Mem} (hs : M'.Sublist M) (h : Sv E t σ G M' P) : Sv E t σ G M P := fun G1 H F D e m hd => h G1 H F D e (m.sub (hs.append_right F)) hd
/-- [.. for i in range(n)], each a new list, owned -/
def memL (as : List Addr) (xss : List (List V)) : Mem := (as.zip xss).map fun x => (x.1, HO.lst x.2)
theorem ev_lcRO {own' : List Nat} {k : Nat} {tn : TA} {nn : Int} {ds : List PyData} (hs : EvA tn σ G M [fun _ v => v = .int nn] M) (hn : nn ≤ 100000) (hn0 : -100000 ≤ nn)
    (he : ∀ (i : Nat) G' Mx, i < nn.toNat → Ex G G' → Ev te ((wipe σ own').set k (some (.int (0 + (i : Int))))) G' (M ++ Mx) (own K ds (M ++ Mx)))
    (hw : ∀ x, wipe ((wipe σ own').set k (some x)) own' = wipe σ own') :
    Ev (tLc (iRng1 tn) (gName k) tYes te own') σ G M (fun G1 v M' => ∃ p as xss, v = .ref p ∧ G1 p = some (.lst (as.map V.ref)) ∧ as.length = nn.toNat ∧ xss.length = nn.toNat ∧ M' = M ++ memL as xss ∧ ∀ xs ∈ xss, DpAll K G1 xs ds) := fun G1 H F e m Q q =>
  hs G1 H F e m _ fun vs0 G2 H2 e2 m2 r2 => by
    match vs0, r2 with
    | [v], r2 =>
    obtain ⟨rfl, _⟩ := r2
    refine ⟨nn, rfl, by omega, by omega, fun D hD => lc_range (lo := 0) (n := nn.toNat) (fun i H' => ∃ G' as xss, Ex G2 G' ∧ Me G' ((M ++ memL as xss) ++ (D, .lst (as.map V.ref)) :: F) H' ∧ as.length = i ∧ xss.length = i ∧ ∀ xs ∈ xss, DpAll K G' xs ds) ?_ ?_ ?_⟩
    · refine ⟨G2, [], [], Ex.refl _, ?_, rfl, rfl, fun _ h => by cases h⟩
      show Me G2 ((M ++ []) ++ (D, .lst []) :: F) _
      rw [List.append_nil, mem_mid]
      exact m2.newMid hD
    · rintro i H' hi ⟨G', as, xss, e', m', ha, hx, hd⟩
      refine ⟨hw _, (et_yes : EvT tYes ((wipe σ own').set k (some (.int (0 + (i : Int))))) G' (M ++ memL as xss) true (M ++ memL as xss)) G' H' _ (Ex.refl _) m' _ fun G3 H3 e3 m3 => ?_⟩
      rw [if_pos rfl]
      refine he i G3 (memL as xss) hi (((e.trans e2).trans e').trans e3) G3 H3 _ (Ex.refl _) m3 _ fun y G4 M4 H4 e4 m4 r4 => ?_
      obtain ⟨p, vs, rfl, rfl, dp⟩ := r4
      have hm : (((M ++ memL as xss) ++ [(p, HO.lst vs)]) ++ (D, HO.lst (as.map V.ref)) :: F)[((M ++ memL as xss) ++ [(p, HO.lst vs)]).length]? = some (D, .lst (as.map V.ref)) := by
        rw [List.getElem?_append_right (Nat.le_refl _), Nat.sub_self]
        rfl
      refine ⟨as.map V.ref, m4.get hm, by rw [List.length_map, ha]; exact sz_ok (by omega), G4, as ++ [p], xss ++ [vs], (e'.trans e3).trans e4, ?_, by simp [ha], by simp [hx], fun xs h => ?_⟩
      · have := m4.put (o' := .lst (as.map V.ref ++ [.ref p])) hm
        rw [List.set_append_right _ _ (Nat.le_refl _), Nat.sub_self] at this
        have hz : memL (as ++ [p]) (xss ++ [vs]) = memL as xss ++ [(p, .lst vs)] := by
          unfold memL
          rw [List.zip_append (by rw [ha, hx]), List.map_append]
          rfl
        rw [hz, List.map_append, ← List.append_assoc]
        exact this
      · rcases List.mem_append.mp h with h | h
        · exact dma (hd xs h) (e3.trans e4)
        · cases List.mem_singleton.mp h
          exact dp
    · rintro H' ⟨G', as, xss, e', m', ha, hx, hd⟩
      rw [mem_mid] at m'
      obtain ⟨m3, e3⟩ := m'.freezeLast
      exact q _ _ _ H' ((e2.trans e').trans e3) m3 ⟨D, as, xss, rfl, upd_same, ha, hx, rfl, fun xs h => dma (hd xs h) e3⟩
end
/-! what is worth setting -/
abbrev lcolGPost (K : PySem.W.Frag) : (Addr × Nat × Deck × Int × Int) → Mem → Post := fun x M => isD K (colD (drawsV x.2.2.1 x.2.2.2.1 x.2.2.2.2.toNat)) (M.set x.2.1 (x.1, (drawsD x.2.2.1 x.2.2.2.1 x.2.2.2.2.toNat).ho))
theorem ev_lcolG {K : PySem.W.Frag} {σ : L2.St} {G : Hp} {M M1 : Mem} {tA : TA} {E : XK} {dk : Addr} {D : Deck} {b r : Int} (i : Nat) (h : EvA tA σ G M [fun _ v => v = .ref dk, fun _ v => v = .int b, fun _ v => v = .int r] M1) (hi : M1[i]? = some (dk, D.ho)) (b0 : 0 < b) (b1 : b < 2 ^ 200) (r0 : 0 ≤ r) (r1 : r ≤ 1000) :
    Ev (tCall (spec lcolPre (lcolGPost K)) [] E tA) σ G M (isD K (colD (drawsV D b r.toNat)) (M1.set i (dk, (drawsD D b r.toNat).ho))) :=
  ev_call (dk, i, D, b, r) h fun G1 vs e a => by
    obtain ⟨v, w, u, rfl, p1, p2, p3⟩ := allP3 a
    subst p1 p2 p3
    exact ⟨rfl, b0, b1, r0, r1, hi⟩
theorem drawsV_good {D : Deck} {b r : Int} (hb : 0 < b) (hr : 0 ≤ r) : GoodCol b r (drawsV D b r.toNat) := ⟨by rw [drawsV_len]; omega, drawsV_mem hb⟩
def bads (b : Int) : List PyData := [.int b, .int (-1), .bool true, .bool false, .none, .str "1", .int (b + 10 ^ (20 : Int).toNat)]
theorem bads_no {b : Int} {n : Nat} : isWhole ((bads b)[n]?.getD .none) 0 (b - 1) = false := by
  have h1 : isWhole (.int b) 0 (b - 1) = false := by
    have : decide (b ≤ b - 1) = false := decide_eq_false (by omega)
    show (true && (decide (0 ≤ b) && decide (b ≤ b - 1))) = false
    rw [this]
    simp
  have h2 : isWhole (.int (b + 10 ^ (20 : Int).toNat)) 0 (b - 1) = false := by
    have : decide (b + 10 ^ (20 : Int).toNat ≤ b - 1) = false := decide_eq_false (by
      have : (10 : Int) ^ (20 : Int).toNat = 100000000000000000000 := by decide
      omega)
    show (true && (_ && decide (b + 10 ^ (20 : Int).toNat ≤ b - 1))) = false
    rw [this]
    simp
  match n with
  | 0 => exact h1
  | 1 => rfl
  | 2 => rfl
  | 3 => rfl
  | 4 => rfl
  | 5 => rfl
  | 6 => exact h2
  | n + 7 => rfl
def wDk (D : Deck) (b r : Int) : Deck := drawsD (dn D 14) b r.toNat
def wCol (D : Deck) (b r : Int) : List Int := drawsV (dn D 14) b r.toNat
def worthV (D : Deck) (b r : Int) : Bool × PyData :=
  if dv D 14 < 7 then (false, .tuple (((wCol D b r).map .int).set (dv (wDk D b r) r).toNat ((bads b)[(dv D 14).toNat]?.getD .none)))
  else if dv D 14 = 7 then (false, .tuple ((wCol D b r).map .int ++ [.int 0]))
  else if dv D 14 = 8 then (false, .tuple (((wCol D b r).map .int).drop 1))
  else if dv D 14 = 9 then (false, .list ((wCol D b r).map .int))
  else (true, colD (wCol D b r))
theorem isCol_worth {D : Deck} {b r : Int} (hb : 0 < b) (hr : 1 ≤ r) : isCol b r (worthV D b r).2 = (worthV D b r).1 := by
  have g : GoodCol b r (wCol D b r) := drawsV_good hb (by omega)
  have hl := g.1
  unfold worthV
  split
  · have q0 : 0 ≤ dv (wDk D b r) r := dv_lo (by omega)
    have q1 : dv (wDk D b r) r < r := dv_hi (by omega)
    show (decide _ && _) = false
    rw [Bool.and_eq_false_iff]
    refine .inr ?_
    rw [List.all_eq_false]
    refine ⟨(bads b)[(dv D 14).toNat]?.getD .none, List.mem_of_getElem? (i := (dv (wDk D b r) r).toNat) ?_, by rw [bads_no]; decide⟩
    rw [List.getElem?_set_self (by rw [List.length_map]; omega)]
  · split
    · show (decide _ && _) = false
      rw [decide_eq_false, Bool.false_and]
      rw [List.length_append, List.length_map]
      simp only [List.length_cons, List.length_nil]
      omega
    · split
      · show (decide _ && _) = false
        rw [decide_eq_false, Bool.false_and]
        rw [List.length_drop, List.length_map]
        omega
      · split
        · rfl
        · exact isCol_good g
theorem dlen_worth {D : Deck} {b r : Int} (hb : 0 < b) (hr : 1 ≤ r) (h4 : r ≤ 4) : dlen (worthV D b r).2 ≤ 5 := by
  have g : GoodCol b r (wCol D b r) := drawsV_good hb (by omega)
  have hl := g.1
  unfold worthV
  split
  · simp only [dlen, List.length_set, List.length_map]
    omega
  · split
    · simp only [dlen, List.length_append, List.length_map, List.length_cons, List.length_nil]
      omega
    · split
      · simp only [dlen, List.length_drop, List.length_map]
        omega
      · split
        · simp only [dlen, List.length_map]
          omega
        · rw [dlen_colD]
          omega
abbrev lworthPost (K : PySem.W.Frag) : (Addr × Nat × Deck × Int × Int) → Mem → Post := fun x M => isD K (.tuple [.bool (worthV x.2.2.1 x.2.2.2.1 x.2.2.2.2).1, (worthV x.2.2.1 x.2.2.2.1 x.2.2.2.2).2]) (M.set x.2.1 (x.1, (dn (wDk x.2.2.1 x.2.2.2.1 x.2.2.2.2) x.2.2.2.2).ho))
abbrev lworthPre : (Addr × Nat × Deck × Int × Int) → Hp → Mem → List V → Prop := fun x G M vs => vs = [.ref x.1, .int x.2.2.2.1, .int x.2.2.2.2] ∧ (2 ≤ x.2.2.2.1 ∧ x.2.2.2.1 ≤ 12) ∧ (1 ≤ x.2.2.2.2 ∧ x.2.2.2.2 ≤ 4) ∧ M[x.2.1]? = some (x.1, x.2.2.1.ho)
/-- a try to set -/
abbrev ltryPost (K : PySem.W.Frag) : SetS → Mem → Post := fun x M G v M' => (isCol x.b x.r x.d = true ∧ Dp K G v (.list []) ∧ ∃ y, Dp K G y x.d ∧ M' = M.set x.n (x.l, .lst (x.xs.set x.j y))) ∨ (isCol x.b x.r x.d = false ∧ Dp K G v (.list [.bool true, .bool true, .bool false]) ∧ M' = M)
end SX
namespace SX
open PySem PySem.Spec L2
section
variable {K : PySem.W.Frag} {C : Addr} {σ : L2.St} {G G' : Hp} {M M1 M2 Mx : Mem} {P : Po} {tA : TA} {E : XK} {ta tb tc td te tf : TE} {t u : TS}
theorem ev_areX {fs cs : List (List Int)} {b : Addr} (h : EvA tA σ G M [fun G v => Dp K G v (.list (fs.map colD)), fun _ v => v = .ref b] M1) (hC : ColsAt K G M1 b cs) (l1 : fs.length ≤ 100000) (l2 : cs.length ≤ 100000) (l3 : ∀ c ∈ fs, c.length ≤ 100000) :
    Ev (tCall (spec (arePre K) arePost) [] E tA) σ G M (isV (.bl (decide (fs = cs))) M1) :=
  ev_callD h fun G1 vs ex p => by
    obtain ⟨v, u, rfl, p1, p2⟩ := allP2 p
    subst p2
    obtain ⟨a, xs, rfl, _⟩ := dp_lst p1
    exact ⟨(a, b, fs, cs), ⟨rfl, .of p1, hC.up ex, l1, l2, l3⟩, fun _ _ _ _ r => r⟩
abbrev right3Pre (K : PySem.W.Frag) (C : Addr) : ((Addr × Addr × Int × Int × List (List Int)) × Int) → Hp → Mem → List V → Prop := fun x G M vs => vs = [.ref x.1.1, .int x.1.2.2.1, .ref x.1.2.1, .int x.2] ∧ ShAt K C G M x.1.1 x.1.2.2.1 x.1.2.2.2.1 x.1.2.2.2.2 ∧ ColsAt K G M x.1.2.1 x.1.2.2.2.2 ∧ GoodSh x.1.2.2.1 x.1.2.2.2.1 x.1.2.2.2.2
abbrev right3Post : ((Addr × Addr × Int × Int × List (List Int)) × Int) → Mem → Post := fun _ M => isV (.bl true) M
theorem allP4 {P1 P2 P3 P4 : Hp → V → Prop} : ∀ {vs : List V}, AllP G [P1, P2, P3, P4] vs → ∃ v w u x, vs = [v, w, u, x] ∧ P1 G v ∧ P2 G w ∧ P3 G u ∧ P4 G x
  | [v, w, u, x], ⟨a, b, c, d, _⟩ => ⟨v, w, u, x, rfl, a, b, c, d⟩
theorem ev_right3 {p a : Addr} {b r t : Int} {cs : List (List Int)} (h : EvA tA σ G M [fun _ v => v = .ref p, fun _ v => v = .int b, fun _ v => v = .ref a, fun _ v => v = .int t] M1) (hS : ShAt K C G M1 p b r cs) (hC : ColsAt K G M1 a cs) (g : GoodSh b r cs) :
    Ev (tCall (spec (right3Pre K C) right3Post) [] E tA) σ G M (isV (.bl true) M1) :=
  ev_call ((p, a, b, r, cs), t) h fun G1 vs e q => by
    obtain ⟨v1, v2, v3, v4, rfl, p1, p2, p3, p4⟩ := allP4 q
    subst p1 p2 p3 p4
    exact ⟨rfl, hS.ex e, hC.up e, g⟩
theorem at4 (f : Nat → V) (z : Int) : atI [f 0, f 1, f 2, f 3] (z % 4) = some (f (z % 4).toNat) := by
  have h0 : 0 ≤ z % 4 := Int.emod_nonneg _ (by decide)
  have h1 : z % 4 < 4 := Int.emod_lt_of_pos _ (by decide)
  generalize z % 4 = w at h0 h1
  have : w = 0 ∨ w = 1 ∨ w = 2 ∨ w = 3 := by omega
  rcases this with rfl | rfl | rfl | rfl <;> rfl
theorem at4' (f : Nat → V) (z : Int) (h0 : 0 ≤ z) (h1 : z < 4) : atI [f 0, f 1, f 2, f 3] z = some (f z.toNat) := by
  have : z = 0 ∨ z = 1 ∨ z = 2 ∨ z = 3 := by omega
  rcases this with rfl | rfl | rfl | rfl <;> rfl
structure AllS where
  sa : Addr
  ea : Addr
  P : Nat → Addr
  A : Nat → Addr
  CS : Nat → List (List Int)
  b : Int
  r : Int
  start : Int
  t : Int
abbrev allRPre (K : PySem.W.Frag) (C : Addr) : AllS → Hp → Mem → List V → Prop := fun x G M vs => vs = [.ref x.sa, .int x.b, .ref x.ea, .int x.start, .int x.t] ∧ AtL K G M x.sa [.ref (x.P 0), .ref (x.P 1), .ref (x.P 2), .ref (x.P 3)] ∧ AtL K G M x.ea [.ref (x.A 0), .ref (x.A 1), .ref (x.A 2), .ref (x.A 3)] ∧
  (∀ k, k < 4 → ShAt K C G M (x.P k) x.b x.r (x.CS k) ∧ ColsAt K G M (x.A k) (x.CS k) ∧ GoodSh x.b x.r (x.CS k))
abbrev allRPost : AllS → Mem → Post := fun _ M => isV (.bl true) M
theorem ev_allR4 (x : AllS) (h : EvA tA σ G M [fun _ v => v = .ref x.sa, fun _ v => v = .int x.b, fun _ v => v = .ref x.ea, fun _ v => v = .int x.start, fun _ v => v = .int x.t] M1) (h1 : AtL K G M1 x.sa [.ref (x.P 0), .ref (x.P 1), .ref (x.P 2), .ref (x.P 3)]) (h2 : AtL K G M1 x.ea [.ref (x.A 0), .ref (x.A 1), .ref (x.A 2), .ref (x.A 3)])
    (h3 : ∀ k, k < 4 → ShAt K C G M1 (x.P k) x.b x.r (x.CS k) ∧ ColsAt K G M1 (x.A k) (x.CS k) ∧ GoodSh x.b x.r (x.CS k)) : Ev (tCall (spec (allRPre K C) allRPost) [] E tA) σ G M (isV (.bl true) M1) :=
  ev_call x h fun G1 vs e q => by
    obtain ⟨v1, v2, v3, v4, v5, rfl, p1, p2, p3, p4, p5⟩ := allP5 q
    subst p1 p2 p3 p4 p5
    exact ⟨rfl, h1.ex e, h2.ex e, fun k hk => ⟨(h3 k hk).1.ex e, (h3 k hk).2.1.up e, (h3 k hk).2.2⟩⟩
/-- [p0, p1, a new sheet, a new sheet] -/
theorem ev_lst4 {t0 t1 t2 t3 : TE} {p0 p1 : Addr} {b r : Int} {cs2 cs3 : List (List Int)} (h0 : Ev t0 σ G M (isV (.ref p0) M)) (h1 : Ev t1 σ G M (isV (.ref p1) M)) (h2 : Ev t2 σ G M (newSh K C b r cs2 M)) (h3 : ∀ G' x, Ex G G' → Ev t3 σ G' (M ++ [x]) (newSh K C b r cs3 (M ++ [x]))) :
    Ev (tLst (tCons t0 (tCons t1 (tCons t2 (tCons t3 tNil))))) σ G M (fun G v M' => ∃ sa p2 dx2 l2 y2 p3 dx3 l3 y3, v = .ref sa ∧ G sa = some (.lst [.ref p0, .ref p1, .ref p2, .ref p3]) ∧ G p2 = some (.ins C dx2 (shF (.int b) (.int r) (.ref l2))) ∧ G p3 = some (.ins C dx3 (shF (.int b) (.int r) (.ref l3))) ∧
      M' = M ++ [(l2, .lst y2), (l3, .lst y3)] ∧ DpAll K G y2 (cs2.map colD) ∧ DpAll K G y3 (cs3.map colD)) := fun G1 H F e m Q q =>
  h0 G1 H F e m _ fun v G2 M2 H2 e2 m2 r => by
    obtain ⟨rfl, rfl⟩ := r
    refine h1 G2 H2 F (e.trans e2) m2 _ fun v G3 M3 H3 e3 m3 r => ?_
    obtain ⟨rfl, rfl⟩ := r
    refine h2 G3 H3 F ((e.trans e2).trans e3) m3 _ fun v G4 M4 H4 e4 m4 r => ?_
    obtain ⟨p2, dx2, l2, y2, rfl, hp2, rfl, hd2⟩ := r
    refine h3 G4 _ (((e.trans e2).trans e3).trans e4) G4 H4 F (Ex.refl _) m4 _ fun v G5 M5 H5 e5 m5 r => ?_
    obtain ⟨p3, dx3, l3, y3, rfl, hp3, rfl, hd3⟩ := r
    refine ⟨Nat.le_of_lt (small1000 (by show 4 ≤ 1000; decide)), fun sa hsa => ?_⟩
    have g1 := m5.free hsa
    have e6 := Ex.new (o := .lst [.ref p0, .ref p1, .ref p2, .ref p3]) g1
    refine q _ _ _ _ ((((e2.trans e3).trans e4).trans e5).trans e6) (m5.newF hsa) ⟨sa, p2, dx2, l2, y2, p3, dx3, l3, y3, rfl, upd_same, (e5.trans e6) _ _ hp2, e6 _ _ hp3, by simp, dma hd2 (e5.trans e6), dma hd3 e6⟩
/-! what four sheets own -/
def mem9 (L A : Nat → Addr) (X Z : Nat → List V) (hl : Addr) (hs : List V) : Mem := [(L 0, .lst (X 0)), (L 1, .lst (X 1)), (L 2, .lst (X 2)), (L 3, .lst (X 3)), (A 0, .lst (Z 0)), (A 1, .lst (Z 1)), (A 2, .lst (Z 2)), (A 3, .lst (Z 3)), (hl, .lst hs)]
def up {α : Type} (f : Nat → α) (k : Nat) (v : α) : Nat → α := fun j => if j = k then v else f j
variable {L A : Nat → Addr} {X Z : Nat → List V} {hl : Addr} {hs y : List V} {k : Nat}
theorem mem9_X (h : k < 4) : (mem9 L A X Z hl hs ++ Mx)[k]? = some (L k, .lst (X k)) := by
  match k, h with
  | 0, _ => rfl
  | 1, _ => rfl
  | 2, _ => rfl
  | 3, _ => rfl
theorem mem9_Z (h : k < 4) : (mem9 L A X Z hl hs ++ Mx)[4 + k]? = some (A k, .lst (Z k)) := by
  match k, h with
  | 0, _ => rfl
  | 1, _ => rfl
  | 2, _ => rfl
  | 3, _ => rfl
theorem mem9_setX (h : k < 4) : (mem9 L A X Z hl hs ++ Mx).set k (L k, .lst y) = mem9 L A (up X k y) Z hl hs ++ Mx := by
  match k, h with
  | 0, _ => rfl
  | 1, _ => rfl
  | 2, _ => rfl
  | 3, _ => rfl
theorem mem9_setZ (h : k < 4) : (mem9 L A X Z hl hs ++ Mx).set (4 + k) (A k, .lst y) = mem9 L A X (up Z k y) hl hs ++ Mx := by
  match k, h with
  | 0, _ => rfl
  | 1, _ => rfl
  | 2, _ => rfl
  | 3, _ => rfl
theorem up_same {α : Type} {f : Nat → α} {k : Nat} {v : α} : up f k v k = v := if_pos rfl
theorem up_ne {α : Type} {f : Nat → α} {k j : Nat} {v : α} (h : j ≠ k) : up f k v j = f j := if_neg h
/-- four sheets, their due columns, what was held -/
structure St9 (K : PySem.W.Frag) (C : Addr) (b r : Int) (many : Nat) (P dx L : Nat → Addr) (X Z : Nat → List V) (CS : Nat → List (List Int)) (hs : List V) (G : Hp) : Prop where
  sh : ∀ k, k < 4 → G (P k) = some (.ins C (dx k) (shF (.int b) (.int r) (.ref (L k))))
  dX : ∀ k, k < 4 → DpAll K G (X k) ((CS k).map colD)
  dZ : ∀ k, k < 4 → DpAll K G (Z k) ((CS k).map colD)
  g : ∀ k, k < 4 → GoodSh b r (CS k) ∧ (CS k).length = many
  h : ∀ x ∈ hs, ∃ t f d cs, x = .ref t ∧ SqT K G t [f, d] ∧ Dp K G f (.list (cs.map colD)) ∧ Dp K G d (.list (cs.map colD)) ∧ GoodSh b r cs
theorem St9.up {b r : Int} {many : Nat} {P dx : Nat → Addr} {CS : Nat → List (List Int)} (h : St9 K C b r many P dx L X Z CS hs G) (e : Ex G G') : St9 K C b r many P dx L X Z CS hs G' :=
  ⟨fun k hk => e _ _ (h.sh k hk), fun k hk => dma (h.dX k hk) e, fun k hk => dma (h.dZ k hk) e, h.g, fun x hx => by
    obtain ⟨t, f, d, cs, h1, h2, h3, h4, h5⟩ := h.h x hx
    exact ⟨t, f, d, cs, h1, ex_t e h2, dm h3 e, dm h4 e, h5⟩⟩
theorem St9.at_ {b r : Int} {many : Nat} {P dx : Nat → Addr} {CS : Nat → List (List Int)} (h : St9 K C b r many P dx L X Z CS hs G) (Mx : Mem) (k : Nat) (hk : k < 4) : ShAt K C G (mem9 L A X Z hl hs ++ Mx) (P k) b r (CS k) ∧ ColsAt K G (mem9 L A X Z hl hs ++ Mx) (A k) (CS k) ∧ GoodSh b r (CS k) :=
  ⟨⟨dx k, L k, X k, .G (h.sh k hk), .M (mem9_X hk), h.dX k hk⟩, ⟨Z k, .M (mem9_Z hk), h.dZ k hk⟩, (h.g k hk).1⟩
/-- a column set in one of them, in its due columns too -/
theorem St9.set {b r : Int} {many : Nat} {P dx : Nat → Addr} {CS : Nat → List (List Int)} (h : St9 K C b r many P dx L X Z CS hs G) {w j : Nat} {c : List Int} {y z : V} (hc : GoodCol b r c) (hy : Dp K G y (colD c)) (hz : Dp K G z (colD c)) :
    St9 K C b r many P dx L (SX.up X w ((X w).set j y)) (SX.up Z w ((Z w).set j z)) (SX.up CS w ((CS w).set j c)) hs G := by
  refine ⟨h.sh, fun k hk => ?_, fun k hk => ?_, fun k hk => ?_, h.h⟩
  · by_cases e : k = w
    · subst e
      rw [up_same, up_same, List.map_set]
      exact dpa_set (h.dX k hk) hy
    · rw [up_ne e, up_ne e]
      exact h.dX k hk
  · by_cases e : k = w
    · subst e
      rw [up_same, up_same, List.map_set]
      exact dpa_set (h.dZ k hk) hz
    · rw [up_ne e, up_ne e]
      exact h.dZ k hk
  · by_cases e : k = w
    · subst e
      rw [up_same]
      obtain ⟨g, hn⟩ := h.g k hk
      exact ⟨⟨g.b2, g.b12, g.r1, g.r4, by rw [List.length_set]; exact g.len, fun c' hc' => (List.mem_or_eq_of_mem_set hc').elim (g.col c') fun e => e ▸ hc⟩, by rw [List.length_set]; exact hn⟩
    · rw [up_ne e]
      exact h.g k hk
/-- columns drawn one by one -/
def colsGD (D : Deck) (b r : Int) : Nat → Deck
  | 0 => D
  | n + 1 => drawsD (colsGD D b r n) b r.toNat
def colsG (D : Deck) (b r : Int) (n : Nat) : List (List Int) := (List.range n).map fun i => drawsV (colsGD D b r i) b r.toNat
theorem colsG_len {D : Deck} {b r : Int} {n : Nat} : (colsG D b r n).length = n := by simp [colsG]
theorem colsG_good {D : Deck} {b r : Int} {n : Nat} (hb : 0 < b) (hr : 0 ≤ r) : ∀ c ∈ colsG D b r n, GoodCol b r c := fun c hc => by
  obtain ⟨i, _, rfl⟩ := List.mem_map.mp hc
  exact drawsV_good hb hr
end
end SX
namespace SX
open PySem PySem.Spec L2
theorem St9.hold {K : PySem.W.Frag} {C : Addr} {b r : Int} {many : Nat} {P dx L : Nat → Addr} {X Z : Nat → List V} {CS : Nat → List (List Int)} {hs : List V} {G : Hp} {y : V} {cs : List (List Int)} (h : St9 K C b r many P dx L X Z CS hs G) (hy : Dp K G y (.tuple [.list (cs.map colD), .list (cs.map colD)])) (g : GoodSh b r cs) : St9 K C b r many P dx L X Z CS (hs ++ [y]) G :=
  ⟨h.sh, h.dX, h.dZ, h.g, fun x hx => by
    rcases List.mem_append.mp hx with hx | hx
    · exact h.h x hx
    · cases List.mem_singleton.mp hx
      obtain ⟨a, xs, rfl, hs, ha⟩ := dp_tup hy
      cases ha with
      | cons h1 h2 =>
        cases h2 with
        | cons h2 h3 =>
          cases h3
          exact ⟨a, _, _, cs, rfl, hs, h1, h2, g⟩⟩
end SX

set_option Elab.async false
set_option linter.all false
set_option maxRecDepth 100000
/-! SXm: an operator between two own classes; == with a value of another kind. -/
namespace SX
open PySem PySem.Spec L2
/-- the class D has no such method -/
structure NoOp (K : PySem.W.Frag) (D : Addr) (nm : String) : Prop where
  cd : ∃ cd, PySem.W.clsIn K D = some cd ∧ cd.mro = [.ref D, .type "object"]
  h1 : PySem.W.findIn K (.ref D) (PySem.dunder nm) = some none
  h2 : PySem.W.findIn K (.ref D) (PySem.dunderR nm) = some none
  h3 : PySem.W.findIn K (.type "object") (PySem.dunder nm) = some none
  h4 : PySem.W.findIn K (.type "object") (PySem.dunderR nm) = some none
end SX
namespace PySem.W
open PySem PySem.Calls PyProof.Rows
section
variable {prog : Program} {w : World} {M : Model} {A : Around} {E : Value → Shared → Prop} {s : Shared} {K : Frag} {x C D L f : Addr} {h₀ : Heap} {m : Str → Option Value} {ox : Obj} {od : Option Obj} {nm : String}
theorem sx_noslot {h : Heap} (X : K.In h) (N : SX.NoOp K D nm) : Looks M h (fillsNumberSlot (.ref D) nm) false := by
  intro A Q E s k q
  obtain ⟨cd, hc, hm⟩ := N.cd
  have Lm : Looks M h (mroOf (.ref D)) cd.mro := (looks_clsIn X hc).andThen (f := fun cd => pure cd.mro) .now
  have Lm' := Lm.keeps k
  obtain ⟨hh, g, d, tt, os⟩ := s
  have X' : K.In hh := X.keeps k
  have L1 : Looks M hh (typeLookup (.ref D) (PySem.dunder nm)) none := looks_findIn X' N.h1
  have L2 : Looks M hh (typeLookup (.ref D) (dunderR nm)) none := looks_findIn X' N.h2
  have L3 : Looks M hh (typeLookup (.type "object") (PySem.dunder nm)) none := looks_findIn X' N.h3
  have L4 : Looks M hh (typeLookup (.type "object") (dunderR nm)) none := looks_findIn X' N.h4
  unfold fillsNumberSlot
  refine wpAny_bind (Lm'.at ?_)
  rw [hm, List.anyM_cons]
  repeat lk
  exact q
theorem sx_binop2 {op : Operator} {b : Value} {Q : Value → Shared → Prop} (F : Fr h₀ L s.heap m) (X₀ : K.In h₀) (I : InstAt s.heap x ox C od) (hb : Looks (model prog w) s.heap (typeOf b) (.ref D)) (hcd : C ≠ D) (hc : selfFirst K C = true)
    (hs : findIn K (.ref C) (PySem.dunder op.info.2) = some (some (.ref f))) (hf : isFn K (.ref f) = true) (N : SX.NoOp K D op.info.2)
    (h : wpAny (model prog w) A (call (.ref f) [.ref x, b]) (CmpBack Q) E s) : wpAny (model prog w) A (binaryOp op (.ref x) b) Q E s := by
  have X := X₀.keeps F.keep
  obtain ⟨cd, rest, hcd', hm⟩ := ksp_first hc
  rcases hi : op.info with ⟨sym, nm'⟩
  rw [hi] at hs N
  dsimp only at hs N
  have one := ksp_try X I hs hf h
  obtain ⟨hh, g, d, tt, os⟩ := s
  have L1 : Looks (model prog w) hh (typeOf (.ref x)) (.ref C) := I.type
  have L2 : Looks (model prog w) hh (typeOf b) (.ref D) := hb
  have L3 : Looks (model prog w) hh (fillsNumberSlot (.ref C) nm') true := fills_K X hcd' hm hs
  have L4 : Looks (model prog w) hh (fillsNumberSlot (.ref D) nm') false := sx_noslot X N
  have hne : (Value.ref C == Value.ref D) = false := Bool.eq_false_iff.mpr fun q => hcd (by cases beq_iff_eq.mp q; rfl)
  simp only [binaryOp, hi]
  refine wpAny_holding (wpAny_bind ?_)
  unfold binaryOp1
  refine wpAny_bind (L1.at (wpAny_bind (L2.at (wpAny_bind (L3.at ?_)))))
  simp only [hne, Bool.false_eq_true, if_false]
  ksp_lk
  refine wpAny_mono one (fun r s' hr' => ?_) fun _ _ e => e
  obtain ⟨v, rfl, hq⟩ := hr'
  ksp_lk
  exact hq
end
end PySem.W
namespace SX
open PySem PySem.Spec L2
section
variable {X : Cx} {CX : CXT} {k : Nat} {C D f : Addr} {fd : FuncData} {ps : List Str} {sp : Sp} {E : XK}
/-- one op other, of two own classes -/
def rBin2 (C D : Addr) (sp : Sp) (E : XK) : R2 := fun x y H Q => ∃ a dx fs b dy gs, x = .ref a ∧ y = .ref b ∧ H a = some (.ins C dx fs) ∧ H b = some (.ins D dy gs) ∧ sp [.ref a, .ref b] H Q E
theorem op_bin2 {op : Operator} (hcd : C ≠ D) (N : NoOp X.K D op.info.2) (hs : PySem.W.findIn X.K (.ref C) (PySem.dunder op.info.2) = some (some (.ref f))) (hfn : PySem.W.isFn X.K (.ref f) = true) (hc : PySem.W.selfFirst X.K C = true) (F : FnOk X.prog X.w X.K X.mg X.base CX k f fd ps sp) (hr : Room k X.A) (hb : Binds X.K fd ps []) (hx : Passes CX X E) : OpR X (binaryOp op) (rBin2 C D sp E) := by
  intro pins s σ H x y v u Q I rx ry h
  obtain ⟨a, dx, fs, b, dy, gs, rfl, rfl, ea, eb, q⟩ := h
  cases (show v = Value.ref a from rx)
  cases (show u = Value.ref b from ry)
  obtain ⟨mA, O, _⟩ := ins_get I.hok ea
  obtain ⟨od, J, _⟩ := O.look
  obtain ⟨mB, O2, _⟩ := ins_get I.hok eb
  obtain ⟨od2, J2, _⟩ := O2.look
  obtain ⟨m, fr⟩ := I.fr
  exact PySem.W.sx_binop2 fr I.ok.mod.kin J J2.type hcd hc hs hfn N (wpAny_mono (run_at F hr hb hx I (.cons (show RelV (.ref a) (.ref a) from rfl) (.cons (show RelV (.ref b) (.ref b) from rfl) .nil)) q) (fun u s1 h1 => cmpBack h1) fun _ _ e => e)
/-- a comparison by the own method; the other one is of another kind -/
def rCmpX (K : PySem.W.Frag) (C : Addr) (sp : Sp) (E : XK) : R2 := fun x y H Q => ∃ a dx fs t, x = .ref a ∧ H a = some (.ins C dx fs) ∧ TyX K H y t ∧ PySem.W.notFirst K C t = true ∧ sp [.ref a, y] H Q E
theorem op_cmpX {op : CmpOp} (hop : compareOp op = richCompare op) (hs : PySem.W.findIn X.K (.ref C) (cmpInfo op).2.1 = some (some (.ref f))) (hfn : PySem.W.isFn X.K (.ref f) = true) (F : FnOk X.prog X.w X.K X.mg X.base CX k f fd ps sp) (hr : Room k X.A) (hb : Binds X.K fd ps []) (hx : Passes CX X E) : OpR X (compareOp op) (rCmpX X.K C sp E) := by
  intro pins s σ H x y v u Q I rx ry h
  obtain ⟨a, dx, fs, t, rfl, ea, ty, nf, q⟩ := h
  cases (show v = Value.ref a from rx)
  obtain ⟨mA, O, _⟩ := ins_get I.hok ea
  obtain ⟨od, J, _⟩ := O.look
  obtain ⟨m, fr⟩ := I.fr
  obtain ⟨P, Z, hP, _⟩ := kit_of I ry ty
  rw [hop]
  exact PySem.W.cmp_K (by have := hr.units; omega) fr I.ok.mod.kin J (Z.ty _ _ I.kIn hP) nf hs hfn (wpAny_mono (run_at F hr hb hx I (.cons (show RelV (.ref a) (.ref a) from rfl) (.cons ry .nil)) q) (fun u s1 h1 => cmpBack h1) fun _ _ e => e)
end
/-- plain data is of no own class -/
structure DataOut (K : PySem.W.Frag) (C : Addr) : Prop where
  nf : ∀ d : PyData, PySem.W.notFirst K C (.type (tyName d)) = true
  ki : ∀ d : PyData, PySem.W.kitOne K (.type (tyName d)) (.ref C) = some false
section
variable {E : XK} {K : PySem.W.Frag} {σ : L2.St} {G G' H : Hp} {M M1 M2 M3 F : Mem} {R : Post} {P P' : Po} {te ta tb : TE} {tt tu : TT} {t u : TS} {x y z v : V} {d e : PyData} {ds es : List PyData} {a b : Bool} {P1 P2 : Hp → V → Prop} {C D : Addr} {Ps : List (Hp → V → Prop)}
theorem dataOut (n1 : PySem.W.notFirst K C (.type "NoneType") = true) (n2 : PySem.W.notFirst K C (.type "bool") = true) (n3 : PySem.W.notFirst K C (.type "int") = true) (n4 : PySem.W.notFirst K C (.type "str") = true) (n5 : PySem.W.notFirst K C (.type "list") = true) (n6 : PySem.W.notFirst K C (.type "tuple") = true) (n7 : PySem.W.notFirst K C (.type "dict") = true)
    (k1 : PySem.W.kitOne K (.type "NoneType") (.ref C) = some false) (k2 : PySem.W.kitOne K (.type "bool") (.ref C) = some false) (k3 : PySem.W.kitOne K (.type "int") (.ref C) = some false) (k4 : PySem.W.kitOne K (.type "str") (.ref C) = some false) (k5 : PySem.W.kitOne K (.type "list") (.ref C) = some false) (k6 : PySem.W.kitOne K (.type "tuple") (.ref C) = some false) (k7 : PySem.W.kitOne K (.type "dict") (.ref C) = some false) : DataOut K C := by
  refine ⟨fun d => ?_, fun d => ?_⟩ <;> cases d <;> dsimp only [tyName] <;> assumption
/-- isinstance(data, C) -/
theorem ev_isiX (O : DataOut K D) (h : Ev ta σ G M (isD K d M1)) : Ev (tCB (rIsi K) (tCons ta (tCons (tC (.ref D)) tNil))) σ G M (isV (.bl false) M1) :=
  ev_CB (Ps := [fun G v => Dp K G v d, fun _ v => v = .ref D]) (ea_cons h (ea_cons ev_c ea_nil)) fun G1 H F vs e m p Q q => by
    match vs, p with
    | [v, c], ⟨p1, p2, _⟩ =>
      subst p2
      exact ⟨v, .ref D, .type (tyName d), .ref D, false, rfl, .own D, tyx_of (dm p1 m.ex), O.ki d, q _ _ _ _ (Ex.refl _) m ⟨rfl, rfl⟩⟩
theorem ev_cmpX {α : Type} {pre : α → Hp → Mem → List V → Prop} {post : α → Mem → Post} {E' : XK} {p dx : Addr} {fs : List (Str × V)} (xx : V → α) (O : DataOut K C) (h1 : Ev ta σ G M (isV (.ref p) M1)) (h2 : Ev tb σ G M1 (isD K d M2)) (ha : At G M2 p (.ins C dx fs)) (hp : ∀ v G1, Ex G G1 → Dp K G1 v d → pre (xx v) G1 M2 [.ref p, v]) (hq : ∀ v G1 w M3, Ex G G1 → post (xx v) M2 G1 w M3 → R G1 w M3) :
    Ev (tOp (rCmpX K C (spec pre post) E') ta tb) σ G M R :=
  ev_op h1 h2 fun G1 H F x' y' e m p1 p2 Q k => by
    subst p1
    exact ⟨p, dx, fs, .type (tyName d), rfl, ha G1 H F e m, tyx_of (dm p2 m.ex), O.nf d, xx y', G1, M2, F, m, hp y' G1 e p2, fun v G' M' H' e' m' r' => k v G' M' H' e' m' (hq y' G' v M' (e.trans e') r')⟩
end
/-! what is written -/
def wrF (b l last : V) : List (Str × V) := putF "_last" last (putF "_figures" l (putF "_base" b []))
theorem s_bf : ¬ (("_base" : Str) = "_figures") := by decide +kernel
theorem s_bl : ¬ (("_base" : Str) = "_last") := by decide +kernel
theorem s_fl : ¬ (("_figures" : Str) = "_last") := by decide +kernel
theorem wrF_b {b l last : V} : (wrF b l last).lookup ("_base" : Str) = some b := by
  unfold wrF
  rw [lookup_putF, if_neg s_bl, lookup_putF, if_neg s_bf, lookup_putF, if_pos rfl]
theorem wrF_f {b l last : V} : (wrF b l last).lookup ("_figures" : Str) = some l := by
  unfold wrF
  rw [lookup_putF, if_neg s_fl, lookup_putF, if_pos rfl]
theorem wrF_l {b l last : V} : (wrF b l last).lookup ("_last" : Str) = some last := by
  unfold wrF
  rw [lookup_putF, if_pos rfl]
theorem wrF_no {b r l : V} {m : Str} (h1 : ¬ m = "_base") (h2 : ¬ m = "_figures") (h3 : ¬ m = "_last") : (wrF b l r).lookup m = none := by
  unfold wrF
  rw [lookup_putF, if_neg h3, lookup_putF, if_neg h2, lookup_putF, if_neg h1]
  rfl
/-- a result that stands still -/
def WrG (K : PySem.W.Frag) (C : Addr) (p : Addr) (b : Int) (figs : List Int) (last : Int) (G : Hp) : Prop := ∃ dx l xs, G p = some (.ins C dx (wrF (.int b) (.ref l) (.int last))) ∧ SqL K G l xs ∧ DpAll K G xs (figs.map .int)
theorem WrG.up {K : PySem.W.Frag} {C p : Addr} {b last : Int} {figs : List Int} {G G' : Hp} (h : WrG K C p b figs last G) (e : Ex G G') : WrG K C p b figs last G' := by
  obtain ⟨dx, l, xs, h1, h2, h3⟩ := h
  exact ⟨dx, l, xs, e _ _ h1, ex_l e h2, dma h3 e⟩
def WrFz (K : PySem.W.Frag) (C : Addr) (b : Int) (figs : List Int) (last : Int) (G : Hp) (v : V) : Prop := ∃ p, v = .ref p ∧ WrG K C p b figs last G
instance {K : PySem.W.Frag} {C : Addr} {b last : Int} {figs : List Int} : Mono (WrFz K C b figs last) := ⟨fun G G' v e h => by
  obtain ⟨p, h1, h2⟩ := h
  exact ⟨p, h1, h2.up e⟩⟩
abbrev wrPre (K : PySem.W.Frag) (C : Addr) : (Addr × Int × List Int × Int) → Hp → Mem → List V → Prop := fun x G M vs => vs = [.ref x.1] ∧ WrG K C x.1 x.2.1 x.2.2.1 x.2.2.2 G
abbrev wrGPre (K : PySem.W.Frag) (C : Addr) : (Addr × Int × List Int × Int) → Hp → Mem → List V → Prop := fun x G M vs => wrPre K C x G M vs ∧ (-(2 ^ 64) < x.2.1 ∧ x.2.1 < 2 ^ 64)
/-- made: x = (p, dx, base, figures, last); the figures may be owned -/
abbrev mkWrPre (K : PySem.W.Frag) (C : Addr) : (Addr × Addr × Int × List Int × Int) → Hp → Mem → List V → Prop := fun x G M vs => ∃ v M0, vs = [.ref x.1, .int x.2.2.1, v, .int x.2.2.2.2] ∧ M = M0 ++ [(x.1, .ins C x.2.1 [])] ∧ Dt K G M0 v (.list (x.2.2.2.1.map .int))
abbrev mkWrPost (K : PySem.W.Frag) (C : Addr) : (Addr × Addr × Int × List Int × Int) → Mem → Post := fun x M G v M' => v = .non ∧ ∃ l xs M0, M = M0 ++ [(x.1, .ins C x.2.1 [])] ∧ M' = M0 ++ [(x.1, .ins C x.2.1 (wrF (.int x.2.2.1) (.ref l) (.int x.2.2.2.2))), (l, .lst xs)] ∧ DpAll K G xs (x.2.2.2.1.map .int)
theorem ev_mkWr {K : PySem.W.Frag} {σ : L2.St} {G : Hp} {M M1 : Mem} {tA : TA} {E : XK} {C : Addr} {b last : Int} {figs : List Int} {Pv : Hp → V → Prop} (h : EvA tA σ G M [fun _ v => v = .int b, Pv, fun _ v => v = .int last] M1) (hd : ∀ G1 v, Ex G G1 → Pv G1 v → Dt K G1 M1 v (.list (figs.map .int))) :
    Ev (tMake C (spec (mkWrPre K C) (mkWrPost K C)) [] E tA) σ G M (isP (WrFz K C b figs last) M1) := by
  have h0 := ev_make (E := E) (C := C) (pre := mkWrPre K C) (post := mkWrPost K C) (R := fun G1 v M' => ∃ p dx l xs, v = .ref p ∧ M' = M1 ++ [(p, .ins C dx (wrF (.int b) (.ref l) (.int last))), (l, .lst xs)] ∧ DpAll K G1 xs (figs.map .int)) (fun p dx => (p, dx, b, figs, last)) h
    (fun G1 p dx vs e q => by
      obtain ⟨v1, v2, v3, rfl, p1, p2, p3⟩ := allP3 q
      subst p1 p3
      exact ⟨v2, M1, rfl, rfl, hd G1 v2 e p2⟩)
    (fun G1 p dx v M2 e q => by
      obtain ⟨rfl, l, xs, M0, e0, rfl, dd⟩ := q
      have := List.append_cancel_right e0
      subst this
      exact ⟨rfl, p, dx, l, xs, rfl, rfl, dd⟩)
  intro G1 H F e m Q q
  refine h0 G1 H F e m Q fun v G2 M2 H2 e2 m2 r2 => ?_
  obtain ⟨p, dx, l, xs, rfl, rfl, dd⟩ := r2
  have e0 : M1 ++ [(p, HO.ins C dx (wrF (.int b) (.ref l) (.int last))), (l, .lst xs)] = (M1 ++ [(p, HO.ins C dx (wrF (.int b) (.ref l) (.int last)))]) ++ [(l, .lst xs)] := by simp
  rw [e0] at m2
  obtain ⟨m3, e3⟩ := m2.freezeLast
  obtain ⟨m4, e4⟩ := m3.freezeLast
  exact q _ _ M1 H2 ((e2.trans e3).trans e4) m4 ⟨⟨p, rfl, dx, l, xs, upd_same, SqL.of (e4 _ _ upd_same), dma dd (e3.trans e4)⟩, rfl⟩
end SX
namespace SX
open PySem PySem.Spec L2
theorem ev_fldD {K : PySem.W.Frag} {σ : L2.St} {G : Hp} {M M1 : Mem} {ta : TE} {p C dx : Addr} {fs : List (Str × V)} {f : Str} {x : V} {d : PyData} (h1 : Ev ta σ G M (isV (.ref p) M1)) (ha : At G M1 p (.ins C dx fs)) (hc : Cls K C) (hn : NoAttr K C f) (hl : fs.lookup f = some x) (hd : Dp K G x d) : Ev (tFld K ta f) σ G M (isD K d M1) := Ev.toDp (ev_fld h1 ha hc hn hl) hd
abbrev restPre (K : PySem.W.Frag) (C : Addr) : ((Addr × Int × List Int × Int) × Int) → Hp → Mem → List V → Prop := fun x G M vs => vs = [.ref x.1.1, .int x.2] ∧ WrG K C x.1.1 x.1.2.1 x.1.2.2.1 x.1.2.2.2 G ∧ (-(2 ^ 64) < x.1.2.1 ∧ x.1.2.1 < 2 ^ 64) ∧ 0 < x.2
abbrev restPost : ((Addr × Int × List Int × Int) × Int) → Mem → Post := fun x M => isV (.int (horner x.1.2.1 x.1.2.2.1 x.1.2.2.2 % x.2)) M
end SX
namespace SX
open PySem PySem.Spec L2
abbrev wsubPre (K : PySem.W.Frag) (C D : Addr) : ((Addr × Int × List Int × Int) × (Addr × Int × Int × List (List Int))) → Hp → Mem → List V → Prop := fun x G M vs => vs = [.ref x.1.1, .ref x.2.1] ∧ WrG K C x.1.1 x.1.2.1 x.1.2.2.1 x.1.2.2.2 G ∧ ShAt K D G M x.2.1 x.2.2.1 x.2.2.2.1 x.2.2.2.2 ∧ (-(2 ^ 64) < x.1.2.1 ∧ x.1.2.1 < 2 ^ 64) ∧ (-(2 ^ 64) < x.2.2.1 ∧ x.2.2.1 < 2 ^ 64) ∧ x.2.2.2.2.length ≤ 100000
abbrev wsubPost : ((Addr × Int × List Int × Int) × (Addr × Int × Int × List (List Int))) → Mem → Post := fun x M => isV (.int (horner x.1.2.1 x.1.2.2.1 x.1.2.2.2 - valueOf x.2.2.1 x.2.2.2.2)) M
abbrev weqPre (K : PySem.W.Frag) (C : Addr) : ((Addr × Int × List Int × Int) × (Addr × Int × List Int × Int)) → Hp → Mem → List V → Prop := fun x G M vs => vs = [.ref x.1.1, .ref x.2.1] ∧ WrG K C x.1.1 x.1.2.1 x.1.2.2.1 x.1.2.2.2 G ∧ WrG K C x.2.1 x.2.2.1 x.2.2.2.1 x.2.2.2.2 G
abbrev weqPost : ((Addr × Int × List Int × Int) × (Addr × Int × List Int × Int)) → Mem → Post := fun x M => isV (.bl (decide (x.1.2 = x.2.2))) M
abbrev xeqPre (K : PySem.W.Frag) : (Addr × V × PyData) → Hp → Mem → List V → Prop := fun x G M vs => vs = [.ref x.1, x.2.1] ∧ Dp K G x.2.1 x.2.2
abbrev xeqPost : (Addr × V × PyData) → Mem → Post := fun _ M => isV (.bl false) M
section
variable {K : PySem.W.Frag} {σ : L2.St} {G : Hp} {M M1 M2 : Mem} {ta tb : TE} {E : XK} {C D : Addr}
/-- written - sheet -/
theorem ev_wsub {p q : Addr} {b last b' r : Int} {figs : List Int} {cs : List (List Int)} (h1 : Ev ta σ G M (isV (.ref p) M)) (h2 : Ev tb σ G M (isV (.ref q) M)) (hW : WrG K C p b figs last G) (hS : ShAt K D G M q b' r cs) (hb : -(2 ^ 64) < b ∧ b < 2 ^ 64) (hb' : -(2 ^ 64) < b' ∧ b' < 2 ^ 64) (hl : cs.length ≤ 100000) :
    Ev (tOp (rBin2 C D (spec (wsubPre K C D) wsubPost) E) ta tb) σ G M (isV (.int (horner b figs last - valueOf b' cs)) M) :=
  ev_op h1 h2 fun G1 H F x' y' e m p1 p2 Q k => by
    subst p1 p2
    obtain ⟨dx, l, xs, k1, k2, k3⟩ := hW.up e
    obtain ⟨dy, l', ys, j1, j2, j3⟩ := hS.ex e
    exact ⟨p, dx, _, q, dy, _, rfl, rfl, m.ex _ _ k1, j1 G1 H F (Ex.refl _) m, ((p, b, figs, last), (q, b', r, cs)), G1, M, F, m, ⟨rfl, ⟨dx, l, xs, k1, k2, k3⟩, ⟨dy, l', ys, j1, j2, j3⟩, hb, hb', hl⟩, fun v G' M' H' e' m' r' => k v G' M' H' e' m' r'⟩
/-- one == other, both results -/
theorem ev_weq {P1 P2 : Hp → V → Prop} [Mono P1] {b last b' last' : Int} {figs figs' : List Int} (h1 : Ev ta σ G M (isP P1 M1)) (h2 : Ev tb σ G M1 (isP P2 M2)) (c1 : ∀ G1 v, Ex G G1 → P1 G1 v → WrFz K C b figs last G1 v) (c2 : ∀ G1 v, Ex G G1 → P2 G1 v → WrFz K C b' figs' last' G1 v) :
    Ev (tOp (rCmpO C (spec (weqPre K C) weqPost) E) ta tb) σ G M (isV (.bl (decide ((b, figs, last) = (b', figs', last')))) M2) :=
  ev_op h1 h2 fun G1 H F x' y' e m p1 p2 Q k => by
    obtain ⟨p, rfl, dx, l, xs, k1, k2, k3⟩ := c1 G1 _ e p1
    obtain ⟨q, rfl, dy, l', ys, j1, j2, j3⟩ := c2 G1 _ e p2
    exact ⟨p, dx, _, q, dy, _, rfl, rfl, m.ex _ _ k1, m.ex _ _ j1, ((p, b, figs, last), (q, b', figs', last')), G1, M2, F, m, ⟨rfl, ⟨dx, l, xs, k1, k2, k3⟩, ⟨dy, l', ys, j1, j2, j3⟩⟩, fun v G' M' H' e' m' r' => k v G' M' H' e' m' r'⟩
end
end SX
namespace SX
open PySem PySem.Spec L2
section
variable {K : PySem.W.Frag} {σ : L2.St} {G : Hp} {M M1 M2 : Mem} {ta tb : TE} {tA : TA} {E E' : XK} {C D : Addr} {P : Po} {t u : TS} {a b : Bool}
theorem ev_isB (h1 : Ev ta σ G M (isV (.bl a) M1)) (h2 : Ev tb σ G M1 (isV (.bl b) M2)) : Ev (tOp rIsB ta tb) σ G M (isV (.bl (decide (a = b))) M2) := ev_opV h1 h2 fun H Q q => ⟨a, b, rfl, rfl, q⟩
theorem ev_notB (h1 : Ev ta σ G M (isV (.bl a) M1)) (h2 : Ev tb σ G M1 (isV (.bl b) M2)) : Ev (tOp rNotB ta tb) σ G M (isV (.bl (!decide (a = b))) M2) := ev_opV h1 h2 fun H Q q => ⟨a, b, rfl, rfl, q⟩
/-- (a, b, c) of data -/
theorem sv_tg3 {i j k : Nat} {tb : TS} {x : V} {d e f : PyData} (hx : Dp K G x (.tuple [d, e, f])) (h : ∀ p q r, Dp K G p d → Dp K G q e → Dp K G r f → Sv E tb (((σ.set i (some p)).set j (some q)).set k (some r)) G M P) : Sv E (tTgt (gTup K 3 (gCons (gName i) (gCons (gName j) (gCons (gName k) gNil)))) x tb) σ G M P := fun G1 H F D ex m hd => by
  obtain ⟨a, xs, rfl, hs, ha⟩ := dp_tup hx
  cases ha with
  | cons h1 h2 =>
    cases h2 with
    | cons h2 h3 =>
      cases h3 with
      | cons h3 h4 =>
        cases h4
        exact ⟨a, _, rfl, ex_t m.ex (ex_t ex hs), rfl, _, _, rfl, _, _, rfl, _, _, rfl, rfl, h _ _ _ h1 h2 h3 G1 H F D ex m hd⟩
abbrev wrRPre (K : PySem.W.Frag) (C : Addr) : (Addr × Int × List Int × Int) → Hp → Mem → List V → Prop := fun x G M vs => ∃ v, vs = [.ref x.1, .int x.2.1, v, .int x.2.2.2] ∧ WrG K C x.1 x.2.1 x.2.2.1 x.2.2.2 G ∧ Dp K G v (.list (x.2.2.1.map .int)) ∧ x.2.2.1.length ≤ 100000
abbrev wrRPost : (Addr × Int × List Int × Int) → Mem → Post := fun _ M => isV (.bl true) M
theorem ev_wrR {p : Addr} {b last : Int} {figs : List Int} (h : EvA tA σ G M [fun _ v => v = .ref p, fun _ v => v = .int b, fun G v => Dp K G v (.list (figs.map .int)), fun _ v => v = .int last] M1) (hW : WrG K C p b figs last G) (hl : figs.length ≤ 100000) :
    Ev (tCall (spec (wrRPre K C) wrRPost) [] E tA) σ G M (isV (.bl true) M1) :=
  ev_call (p, b, figs, last) h fun G1 vs e q => by
    obtain ⟨v1, v2, v3, v4, rfl, p1, p2, p3, p4⟩ := allP4 q
    subst p1 p2 p4
    exact ⟨v3, rfl, hW.up e, p3, hl⟩
def SmallF (b : Int) (figs : List Int) : Prop := (0 ≤ b ∧ b ≤ 12) ∧ figs.length ≤ 1000 ∧ ∀ f ∈ figs, -(2 ^ 64) < f ∧ f < 2 ^ 64
abbrev wworthPre (K : PySem.W.Frag) : (Int × List Int × Int) → Hp → Mem → List V → Prop := fun x G M vs => ∃ v, vs = [.int x.1, v, .int x.2.2] ∧ Dp K G v (.list (x.2.1.map .int)) ∧ SmallF x.1 x.2.1 ∧ x.2.2.natAbs < 2 ^ 200
abbrev wworthPost : (Int × List Int × Int) → Mem → Post := fun x M => isV (.int (horner x.1 x.2.1 x.2.2)) M
theorem ev_wworth {b last : Int} {figs : List Int} (h : EvA tA σ G M [fun _ v => v = .int b, fun G v => Dp K G v (.list (figs.map .int)), fun _ v => v = .int last] M1) (hs : SmallF b figs) (hl : last.natAbs < 2 ^ 200) :
    Ev (tCall (spec (wworthPre K) wworthPost) [] E tA) σ G M (isV (.int (horner b figs last)) M1) :=
  ev_call (b, figs, last) h fun G1 vs e q => by
    obtain ⟨v1, v2, v3, rfl, p1, p2, p3⟩ := allP3 q
    subst p1 p3
    exact ⟨v2, rfl, p2, hs, hl⟩
structure AskS where
  p : Addr
  b : Int
  figs : List Int
  last : Int
  dv : Int
  q : Addr
  ob : Int
  r : Int
  cs : List (List Int)
abbrev askPre (K : PySem.W.Frag) (C D : Addr) : AskS → Hp → Mem → List V → Prop := fun x G M vs => ∃ v, vs = [.ref x.p, .int x.b, v, .int x.last, .int x.dv, .ref x.q, .int (valueOf x.ob x.cs)] ∧ Dp K G v (.list (x.figs.map .int)) ∧ WrG K C x.p x.b x.figs x.last G ∧ SmallF x.b x.figs ∧ x.last.natAbs < 2 ^ 200 ∧ 0 < x.dv ∧ ShAt K D G M x.q x.ob x.r x.cs ∧ GoodSh x.ob x.r x.cs
abbrev askPost : AskS → Mem → Post := fun _ M => isV (.bl true) M
theorem allP7 {P1 P2 P3 P4 P5 P6 P7 : Hp → V → Prop} : ∀ {vs : List V}, AllP G [P1, P2, P3, P4, P5, P6, P7] vs → ∃ v w u x y z t, vs = [v, w, u, x, y, z, t] ∧ P1 G v ∧ P2 G w ∧ P3 G u ∧ P4 G x ∧ P5 G y ∧ P6 G z ∧ P7 G t
  | [v, w, u, x, y, z, t], ⟨a, b, c, d, e, f, g, _⟩ => ⟨v, w, u, x, y, z, t, rfl, a, b, c, d, e, f, g⟩
theorem ev_ask (x : AskS) (h : EvA tA σ G M [fun _ v => v = .ref x.p, fun _ v => v = .int x.b, fun G v => Dp K G v (.list (x.figs.map .int)), fun _ v => v = .int x.last, fun _ v => v = .int x.dv, fun _ v => v = .ref x.q, fun _ v => v = .int (valueOf x.ob x.cs)] M1) (hW : WrG K C x.p x.b x.figs x.last G) (hs : SmallF x.b x.figs) (hl : x.last.natAbs < 2 ^ 200) (hd : 0 < x.dv) (hS : ShAt K D G M1 x.q x.ob x.r x.cs) (g : GoodSh x.ob x.r x.cs) :
    Ev (tCall (spec (askPre K C D) askPost) [] E tA) σ G M (isV (.bl true) M1) :=
  ev_call x h fun G1 vs e q => by
    obtain ⟨v1, v2, v3, v4, v5, v6, v7, rfl, p1, p2, p3, p4, p5, p6, p7⟩ := allP7 q
    subst p1 p2 p4 p5 p6 p7
    exact ⟨v3, rfl, p3, hW.up e, hs, hl, hd, hS.ex e, g⟩
end
/-- results beside one -/
def besD (x : Int × List Int × Int) : PyData := .tuple [.int x.1, .list (x.2.1.map .int), .int x.2.2]
def othB (b : Int) : Int := b + 1 - 2 * (if decide (b = 12) then 1 else 0)
def besides (b : Int) (figs : List Int) (last : Int) : List (Int × List Int × Int) :=
  [(b, figs, last + 1), (b, figs ++ [0], last)] ++ (if figs.all (fun f => decide (f < othB b)) then [(othB b, figs, last)] else []) ++
    (if figs = [] then [] else [(b, figs.dropLast, last * b + figs.getLastD 0), (b, (figs.headD 0 + 1) % b :: figs.tail, last)])
abbrev besPre (K : PySem.W.Frag) : (Int × List Int × Int) → Hp → Mem → List V → Prop := fun x G M vs => ∃ v, vs = [.int x.1, v, .int x.2.2] ∧ Dp K G v (.list (x.2.1.map .int)) ∧ (2 ≤ x.1 ∧ x.1 ≤ 12) ∧ x.2.1.length ≤ 1000 ∧ ∀ f ∈ x.2.1, 0 ≤ f ∧ f < x.1
abbrev besPost (K : PySem.W.Frag) : (Int × List Int × Int) → Mem → Post := fun x M => isD K (.list ((besides x.1 x.2.1 x.2.2).map besD)) M
theorem besides_ne {b last : Int} {figs : List Int} (hb : 2 ≤ b) (hf : ∀ f ∈ figs, 0 ≤ f ∧ f < b) : ∀ x ∈ besides b figs last, x ≠ (b, figs, last) := by
  intro x hx e
  subst e
  have hob : othB b ≠ b := by
    unfold othB
    split <;> omega
  unfold besides at hx
  rcases List.mem_append.mp hx with hx | hx
  · rcases List.mem_append.mp hx with hx | hx
    · rcases List.mem_cons.mp hx with h | hx
      · have : last = last + 1 := congrArg (fun t => t.2.2) h
        omega
      · have h := List.mem_singleton.mp hx
        have : figs = figs ++ [0] := congrArg (fun t => t.2.1) h
        have := congrArg List.length this
        simp at this
    · split at hx
      · have h := List.mem_singleton.mp hx
        exact hob (congrArg (fun t => t.1) h).symm
      · cases hx
  · split at hx
    · cases hx
    · rename_i hne
      obtain ⟨f, fs, rfl⟩ := List.exists_cons_of_ne_nil hne
      rcases List.mem_cons.mp hx with h | hx
      · have : f :: fs = (f :: fs).dropLast := congrArg (fun t => t.2.1) h
        have := congrArg List.length this
        simp at this
      · have h := List.mem_singleton.mp hx
        have : f :: fs = (f + 1) % b :: fs := congrArg (fun t => t.2.1) h
        have h1 : f = (f + 1) % b := (List.cons.inj this).1
        obtain ⟨f0, f1⟩ := hf f List.mem_cons_self
        by_cases e : f + 1 = b
        · rw [e, Int.emod_self] at h1
          omega
        · rw [Int.emod_eq_of_lt (by omega) (by omega)] at h1
          omega
theorem besides_len {b last : Int} {figs : List Int} : ∀ x ∈ besides b figs last, x.2.1.length ≤ figs.length + 1 := by
  intro x hx
  unfold besides at hx
  rcases List.mem_append.mp hx with hx | hx
  · rcases List.mem_append.mp hx with hx | hx
    · rcases List.mem_cons.mp hx with rfl | hx
      · exact Nat.le_succ _
      · cases List.mem_singleton.mp hx
        simp
    · split at hx
      · cases List.mem_singleton.mp hx
        exact Nat.le_succ _
      · cases hx
  · split at hx
    · cases hx
    · rename_i hne
      obtain ⟨f, fs, rfl⟩ := List.exists_cons_of_ne_nil hne
      rcases List.mem_cons.mp hx with rfl | hx
      · simp
        omega
      · cases List.mem_singleton.mp hx
        simp
abbrev weqRPre (K : PySem.W.Frag) (C : Addr) : (Addr × Int × List Int × Int) → Hp → Mem → List V → Prop := fun x G M vs => ∃ v, vs = [.ref x.1, .int x.2.1, v, .int x.2.2.2] ∧ WrG K C x.1 x.2.1 x.2.2.1 x.2.2.2 G ∧ Dp K G v (.list (x.2.2.1.map .int)) ∧ (2 ≤ x.2.1 ∧ x.2.1 ≤ 12) ∧ x.2.2.1.length ≤ 1000 ∧ ∀ f ∈ x.2.2.1, 0 ≤ f ∧ f < x.2.1
end SX
namespace SX
open PySem PySem.Spec L2
theorem cutD_init {ds : List PyData} : cutD ds none (some (-1)) = ds.dropLast := by
  unfold cutD
  rw [HT.sIx_none, Nat.sub_zero, List.drop_zero, List.dropLast_eq_take]
  congr 1
  show (if (-1 : Int) < 0 then ((-1 : Int) + (ds.length : Int)).toNat else min (-1 : Int).toNat ds.length) = ds.length - 1
  rw [if_pos (by decide)]
  omega
theorem atI_last {α : Type} {xs : List α} {x : α} (h : xs.getLast? = some x) : atI xs (-1) = some x := by
  rw [List.getLast?_eq_getElem?] at h
  have hl : xs.length - 1 < xs.length := (List.getElem?_eq_some_iff.mp h).1
  unfold atI ixN
  rw [if_neg (by decide), if_pos (by omega)]
  show xs[((-1 : Int) + xs.length).toNat]? = some x
  rw [show ((-1 : Int) + xs.length).toNat = xs.length - 1 by omega]
  exact h
section
variable {K : PySem.W.Frag} {σ : L2.St} {G : Hp} {M M1 : Mem} {tA : TA} {E : XK} {C : Addr}
theorem ev_bes {b last : Int} {figs : List Int} (h : EvA tA σ G M [fun _ v => v = .int b, fun G v => Dp K G v (.list (figs.map .int)), fun _ v => v = .int last] M1) (hb : 2 ≤ b ∧ b ≤ 12) (hl : figs.length ≤ 1000) (hf : ∀ f ∈ figs, 0 ≤ f ∧ f < b) :
    Ev (tCall (spec (besPre K) (besPost K)) [] E tA) σ G M (isD K (.list ((besides b figs last).map besD)) M1) :=
  ev_call (b, figs, last) h fun G1 vs e q => by
    obtain ⟨v1, v2, v3, rfl, p1, p2, p3⟩ := allP3 q
    subst p1 p3
    exact ⟨v2, rfl, p2, hb, hl, hf⟩
theorem ev_weqR {p : Addr} {b last : Int} {figs : List Int} (h : EvA tA σ G M [fun _ v => v = .ref p, fun _ v => v = .int b, fun G v => Dp K G v (.list (figs.map .int)), fun _ v => v = .int last] M1) (hW : WrG K C p b figs last G) (hb : 2 ≤ b ∧ b ≤ 12) (hl : figs.length ≤ 1000) (hf : ∀ f ∈ figs, 0 ≤ f ∧ f < b) :
    Ev (tCall (spec (weqRPre K C) wrRPost) [] E tA) σ G M (isV (.bl true) M1) :=
  ev_call (p, b, figs, last) h fun G1 vs e q => by
    obtain ⟨v1, v2, v3, v4, rfl, p1, p2, p3, p4⟩ := allP4 q
    subst p1 p2 p4
    exact ⟨v3, rfl, hW.up e, p3, hb, hl, hf⟩
end
end SX

set_option Elab.async false
set_option linter.all false
set_option maxRecDepth 100000
/-! SXn: the order of data; of sheets. -/
namespace SX
open PySem PySem.Spec L2
def rOrdD (K : PySem.W.Frag) (f : PyData → PyData → Bool) : R2 := fun x y H Q => ∃ d e, Dp K H x d ∧ Dp K H y e ∧ PySem.W.alike d e = true ∧ d ≠ .none ∧ PyData.depth d ≤ 64 ∧ Q (.bl (f d e)) H
section
variable {X : Cx} {K : PySem.W.Frag}
theorem room_min {u a b : Nat} (h : a ≤ 64) (hu : u + 64 < cLine) : u + min a b < cLine := by omega
theorem op_ltD (hu : X.A.units + 64 < cLine) : OpR X (compareOp .Lt) (rOrdD X.K fun d e => PySem.W.dataLt d e) := by
  intro pins s σ H x y v u Q I rx ry h
  obtain ⟨d, e, hd, he, al, hn, dp, q⟩ := h
  obtain ⟨as, r1⟩ := Dp.reads I d x v hd rx
  obtain ⟨bs, r2⟩ := Dp.reads I e y u he ry
  exact PySem.W.lt_data r1 r2 al hn (room_min dp hu) ⟨.bl _, H, I, rfl, q⟩
theorem op_gtD (hu : X.A.units + 64 < cLine) : OpR X (compareOp .Gt) (rOrdD X.K fun d e => PySem.W.dataLt e d) := by
  intro pins s σ H x y v u Q I rx ry h
  obtain ⟨d, e, hd, he, al, hn, dp, q⟩ := h
  obtain ⟨as, r1⟩ := Dp.reads I d x v hd rx
  obtain ⟨bs, r2⟩ := Dp.reads I e y u he ry
  exact PySem.W.gt_data r1 r2 al hn (room_min dp hu) ⟨.bl _, H, I, rfl, q⟩
theorem op_leD (hu : X.A.units + 64 < cLine) : OpR X (compareOp .LtE) (rOrdD X.K fun d e => !PySem.W.dataLt e d) := by
  intro pins s σ H x y v u Q I rx ry h
  obtain ⟨d, e, hd, he, al, hn, dp, q⟩ := h
  obtain ⟨as, r1⟩ := Dp.reads I d x v hd rx
  obtain ⟨bs, r2⟩ := Dp.reads I e y u he ry
  exact PySem.W.le_data r1 r2 al hn (room_min dp hu) ⟨.bl _, H, I, rfl, q⟩
theorem op_geD (hu : X.A.units + 64 < cLine) : OpR X (compareOp .GtE) (rOrdD X.K fun d e => !PySem.W.dataLt d e) := by
  intro pins s σ H x y v u Q I rx ry h
  obtain ⟨d, e, hd, he, al, hn, dp, q⟩ := h
  obtain ⟨as, r1⟩ := Dp.reads I d x v hd rx
  obtain ⟨bs, r2⟩ := Dp.reads I e y u he ry
  exact PySem.W.ge_data r1 r2 al hn (room_min dp hu) ⟨.bl _, H, I, rfl, q⟩
theorem k_ltD (hK : X.K = K) (hu : X.A.units + 64 < cLine) : OpR X (compareOp .Lt) (rOrdD K fun d e => PySem.W.dataLt d e) := hK ▸ op_ltD hu
theorem k_gtD (hK : X.K = K) (hu : X.A.units + 64 < cLine) : OpR X (compareOp .Gt) (rOrdD K fun d e => PySem.W.dataLt e d) := hK ▸ op_gtD hu
theorem k_leD (hK : X.K = K) (hu : X.A.units + 64 < cLine) : OpR X (compareOp .LtE) (rOrdD K fun d e => !PySem.W.dataLt e d) := hK ▸ op_leD hu
theorem k_geD (hK : X.K = K) (hu : X.A.units + 64 < cLine) : OpR X (compareOp .GtE) (rOrdD K fun d e => !PySem.W.dataLt d e) := hK ▸ op_geD hu
end
theorem ev_ordD {K : PySem.W.Frag} {σ : L2.St} {G : Hp} {M M1 M2 : Mem} {ta tb : TE} {f : PyData → PyData → Bool} {d e : PyData} (h1 : Ev ta σ G M (isD K d M1)) (h2 : Ev tb σ G M1 (isD K e M2)) (al : PySem.W.alike d e = true) (hn : d ≠ .none) (dp : PyData.depth d ≤ 64) : Ev (tOp (rOrdD K f) ta tb) σ G M (isV (.bl (f d e)) M2) :=
  ev_op h1 h2 fun G1 H F x' y' ex m p1 p2 Q q => ⟨d, e, dm p1 m.ex, dm p2 m.ex, al, hn, dp, q _ G1 _ H (Ex.refl _) m ⟨rfl, rfl⟩⟩
/-- the first difference decides -/
def lexI : List Int → List Int → Bool
  | [], [] => false
  | [], _ :: _ => true
  | _ :: _, [] => false
  | x :: xs, y :: ys => if x = y then lexI xs ys else decide (x < y)
def lexC : List (List Int) → List (List Int) → Bool
  | [], [] => false
  | [], _ :: _ => true
  | _ :: _, [] => false
  | x :: xs, y :: ys => if x = y then lexC xs ys else lexI x y
theorem alike_ints : ∀ (a b : List Int), PySem.W.alikeAll (a.map PyData.int) (b.map PyData.int) = true
  | [], _ => by rw [List.map_nil, PySem.W.alikeAll]
  | _ :: _, [] => by rw [List.map_nil, List.map_cons, PySem.W.alikeAll]
  | x :: xs, y :: ys => by
    rw [List.map_cons, List.map_cons, PySem.W.alikeAll, alike_ints xs ys]
    rfl
theorem lex_ints : ∀ (xs ys : List Int), PyProof.Rows.lexLt PyProof.Rows.itemOrd (PySem.W.keyToksAll (xs.map PyData.int)) (PySem.W.keyToksAll (ys.map PyData.int)) = lexI xs ys
  | [], [] => PyProof.Rows.lex_irrefl _
  | [], y :: ys => by
    rw [List.map_nil, List.map_cons, PySem.W.toks_all_cons]
    simp only [PySem.W.keyToksAll]
    rw [PyProof.Rows.lex_diff (O := PyProof.Rows.itemOrd) (by simp)]
    rfl
  | x :: xs, [] => by
    rw [List.map_nil, List.map_cons, PySem.W.toks_all_cons]
    simp only [PySem.W.keyToksAll]
    rw [PyProof.Rows.lex_diff (O := PyProof.Rows.itemOrd) (by simp)]
    rfl
  | x :: xs, y :: ys => by
    rw [List.map_cons, List.map_cons, lexI]
    by_cases h : x = y
    · rw [if_pos h, PySem.W.dataLt_all_yes rfl (by subst h; simp [PyData.eqv]), lex_ints xs ys]
    · rw [if_neg h, PySem.W.dataLt_all_no rfl (by simp [PyData.eqv, h])]
      exact PySem.W.dataLt_int x y
theorem alike_col (a b : List Int) : PySem.W.alike (colD a) (colD b) = true := by
  unfold colD
  rw [PySem.W.alike]
  exact alike_ints a b
theorem alike_cols : ∀ (a b : List (List Int)), PySem.W.alikeAll (a.map colD) (b.map colD) = true
  | [], _ => by rw [List.map_nil, PySem.W.alikeAll]
  | _ :: _, [] => by rw [List.map_nil, List.map_cons, PySem.W.alikeAll]
  | x :: xs, y :: ys => by
    rw [List.map_cons, List.map_cons, PySem.W.alikeAll, alike_cols xs ys, alike_col]
    rfl
theorem lt_col (a b : List Int) : PySem.W.dataLt (colD a) (colD b) = lexI a b := by
  unfold colD
  rw [PySem.W.dataLt_tuple, lex_ints]
theorem lex_cols : ∀ (xs ys : List (List Int)), PyProof.Rows.lexLt PyProof.Rows.itemOrd (PySem.W.keyToksAll (xs.map colD)) (PySem.W.keyToksAll (ys.map colD)) = lexC xs ys
  | [], [] => PyProof.Rows.lex_irrefl _
  | [], y :: ys => by
    rw [List.map_nil, List.map_cons, PySem.W.toks_all_cons]
    simp only [PySem.W.keyToksAll]
    rw [PyProof.Rows.lex_diff (O := PyProof.Rows.itemOrd) (by simp)]
    rfl
  | x :: xs, [] => by
    rw [List.map_nil, List.map_cons, PySem.W.toks_all_cons]
    simp only [PySem.W.keyToksAll]
    rw [PyProof.Rows.lex_diff (O := PyProof.Rows.itemOrd) (by simp)]
    rfl
  | x :: xs, y :: ys => by
    rw [List.map_cons, List.map_cons, lexC]
    by_cases h : x = y
    · rw [if_pos h, PySem.W.dataLt_all_yes (alike_col x y) (by rw [eqv_col, decide_eq_true_eq]; exact h), lex_cols xs ys]
    · rw [if_neg h, PySem.W.dataLt_all_no (alike_col x y) (by rw [eqv_col, decide_eq_false_iff_not]; exact h)]
      exact lt_col x y
/-- where a sheet stands in the order -/
def placeD (b r : Int) (cs : List (List Int)) : PyData := .tuple [.int b, .int r, .int (cs.length : Int), .list (cs.map colD)]
def ltS (cs ds : List (List Int)) : Bool := if cs.length = ds.length then lexC cs ds else decide (cs.length < ds.length)
theorem alike_place (b r b' r' : Int) (cs ds : List (List Int)) : PySem.W.alike (placeD b r cs) (placeD b' r' ds) = true := by
  unfold placeD
  simp only [PySem.W.alike, PySem.W.alikeAll, Bool.true_and, Bool.and_true]
  exact alike_cols cs ds
theorem lt_place (b r : Int) (cs ds : List (List Int)) : PySem.W.dataLt (placeD b r cs) (placeD b r ds) = ltS cs ds := by
  unfold placeD ltS
  rw [PySem.W.dataLt_tuple, PySem.W.dataLt_all_yes rfl (by simp [PyData.eqv]), PySem.W.dataLt_all_yes rfl (by simp [PyData.eqv])]
  by_cases h : cs.length = ds.length
  · rw [if_pos h, PySem.W.dataLt_all_yes rfl (by simp [PyData.eqv, h])]
    by_cases e : cs = ds
    · subst e
      rw [PyProof.Rows.lex_irrefl, ← lex_cols, PyProof.Rows.lex_irrefl]
    · rw [PySem.W.dataLt_all_no (by rw [PySem.W.alike]; exact alike_cols cs ds) (by rw [eqv_cols, decide_eq_false_iff_not]; exact e), PySem.W.dataLt_list, lex_cols]
  · rw [if_neg h, PySem.W.dataLt_all_no rfl (by simp [PyData.eqv]; omega), PySem.W.dataLt_int]
    rw [decide_eq_decide]
    omega
end SX
namespace SX
open PySem PySem.Spec L2
section
variable {K : PySem.W.Frag} {σ : L2.St} {G : Hp} {M M1 M2 : Mem} {ta tb : TE} {E : XK} {C : Addr}
/-- what is compared, wherever the columns stand -/
abbrev plPre (K : PySem.W.Frag) (C : Addr) : (Addr × Addr × Addr × List V × Int × Int) → Hp → Mem → List V → Prop := fun x G M vs => vs = [.ref x.1] ∧ At G M x.1 (.ins C x.2.1 (shF (.int x.2.2.2.2.1) (.int x.2.2.2.2.2) (.ref x.2.2.1))) ∧ AtL K G M x.2.2.1 x.2.2.2.1
abbrev plPost : (Addr × Addr × Addr × List V × Int × Int) → Mem → Post := fun x M G v M' => ∃ t, v = .ref t ∧ M' = M ∧ G t = some (.tup [.int x.2.2.2.2.1, .int x.2.2.2.2.2, .int (x.2.2.2.1.length : Int), .ref x.2.2.1])
theorem da_place {t l : Addr} {xs : List V} {b r : Int} {cs : List (List Int)} (ht : G t = some (.tup [.int b, .int r, .int (xs.length : Int), .ref l])) (hA : AtL K G M l xs) (hd : DpAll K G xs (cs.map colD)) : Da K G M (.ref t) (placeD b r cs) := fun G1 H F e m => by
  have hl : xs.length = cs.length := by rw [dpa_len hd, List.length_map]
  rw [hl] at ht
  exact .tup (SqT.of (m.ex _ _ (e _ _ ht))) (.cons (.int b) (.cons (.int r) (.cons (.int _) (.cons (.lst (hA G1 H F e m) (dma hd (e.trans m.ex))) .nil))))
theorem sh_place (b r : Int) (cs : List (List Int)) : SeqAt.shaped (placeD b r cs) = true := (sh_tup (n := 2) fun d hd => by
  rcases List.mem_cons.mp hd with rfl | hd
  · exact sh_int _
  · rcases List.mem_cons.mp hd with rfl | hd
    · exact sh_int _
    · rcases List.mem_cons.mp hd with rfl | hd
      · exact sh_int _
      · cases List.mem_singleton.mp hd
        exact sh_cols cs).ok
theorem dep_place (b r : Int) (cs : List (List Int)) : PyData.depth (placeD b r cs) ≤ 64 := by
  have := sh_place b r cs
  unfold SeqAt.shaped at this
  simp only [Bool.and_eq_true, decide_eq_true_eq] at this
  exact this.2
theorem eqv_place (b r b' r' : Int) (cs ds : List (List Int)) : PyData.eqv (placeD b r cs) (placeD b' r' ds) = decide ((b, r, cs) = (b', r', ds)) := by
  unfold placeD
  simp only [PyData.eqv, PyData.eqvAll, Bool.and_true]
  have := eqv_cols cs ds
  simp only [PyData.eqv] at this
  rw [this, Bool.eq_iff_iff]
  simp only [Bool.and_eq_true, decide_eq_true_eq, beq_iff_eq, Prod.mk.injEq]
  constructor
  · rintro ⟨h1, h2, h3, h4⟩
    exact ⟨h1, h2, h4⟩
  · rintro ⟨h1, h2, h4⟩
    exact ⟨h1, h2, by rw [h4], h4⟩
theorem ev_ordX {f : PyData → PyData → Bool} {d e : PyData} {P1 P2 : Hp → V → Prop} [Mono P1] (h1 : Ev ta σ G M (isP P1 M1)) (h2 : Ev tb σ G M1 (isP P2 M2)) (c1 : ∀ G1 v, Ex G G1 → P1 G1 v → Da K G1 M2 v d) (c2 : ∀ G1 v, Ex G G1 → P2 G1 v → Da K G1 M2 v e) (al : PySem.W.alike d e = true) (hn : d ≠ .none) (dp : PyData.depth d ≤ 64) : Ev (tOp (rOrdD K f) ta tb) σ G M (isV (.bl (f d e)) M2) :=
  ev_op h1 h2 fun G1 H F x' y' ex m p1 p2 Q q => ⟨d, e, c1 G1 x' ex p1 G1 H F (Ex.refl _) m, c2 G1 y' ex p2 G1 H F (Ex.refl _) m, al, hn, dp, q _ G1 _ H (Ex.refl _) m ⟨rfl, rfl⟩⟩
theorem ev_eqX {d e : PyData} {P1 P2 : Hp → V → Prop} [Mono P1] (h1 : Ev ta σ G M (isP P1 M1)) (h2 : Ev tb σ G M1 (isP P2 M2)) (c1 : ∀ G1 v, Ex G G1 → P1 G1 v → Da K G1 M2 v d) (c2 : ∀ G1 v, Ex G G1 → P2 G1 v → Da K G1 M2 v e) (s1 : SeqAt.shaped d = true) (s2 : SeqAt.shaped e = true) : Ev (tOp (rEqD K) ta tb) σ G M (isV (.bl (PyData.eqv d e)) M2) :=
  ev_op h1 h2 fun G1 H F x' y' ex m p1 p2 Q q => ⟨d, e, c1 G1 x' ex p1 G1 H F (Ex.refl _) m, c2 G1 y' ex p2 G1 H F (Ex.refl _) m, s1, s2, q _ G1 _ H (Ex.refl _) m ⟨rfl, rfl⟩⟩
/-- the tuple that is compared -/
def PlF (l : Addr) (n : Nat) (b r : Int) (G : Hp) (v : V) : Prop := ∃ t, v = .ref t ∧ G t = some (.tup [.int b, .int r, .int (n : Int), .ref l])
instance {l : Addr} {n : Nat} {b r : Int} : Mono (PlF l n b r) := ⟨fun G G' v e h => by
  obtain ⟨t, h1, h2⟩ := h
  exact ⟨t, h1, e _ _ h2⟩⟩
theorem ev_placeO {p dx l : Addr} {xs : List V} {b r : Int} (h : Ev ta σ G M (isV (.ref p) M)) (hp : At G M p (.ins C dx (shF (.int b) (.int r) (.ref l)))) (hA : AtL K G M l xs) (h1 : ¬ (("_place" : Str) = "_base") := by decide +kernel) (h2 : ¬ (("_place" : Str) = "_rows") := by decide +kernel) (h3 : ¬ (("_place" : Str) = "_columns") := by decide +kernel) :
    Ev (tMeth C "_place" (spec (plPre K C) plPost) [] E ta tNil) σ G M (isP (PlF l xs.length b r) M) :=
  (ev_meth (pre := plPre K C) (post := plPost) (p, dx, l, xs, b, r) h hp (shF_no h1 h2 h3) ea_nil fun G1 vs e a => by
    match vs, a with
    | [], _ => exact ⟨rfl, hp.ex e, hA.ex e⟩).imp fun G1 v M1 e z => by
      obtain ⟨t, h1, h2, h3⟩ := z
      exact ⟨⟨t, h1, h3⟩, h2⟩
/-- two sheets compared -/
abbrev cmpPre (K : PySem.W.Frag) (C : Addr) : ((Addr × Int × Int × List (List Int)) × (Addr × Int × Int × List (List Int))) → Hp → Mem → List V → Prop := fun x G M vs => vs = [.ref x.1.1, .ref x.2.1] ∧ ShAt K C G M x.1.1 x.1.2.1 x.1.2.2.1 x.1.2.2.2 ∧ ShAt K C G M x.2.1 x.2.2.1 x.2.2.2.1 x.2.2.2.2
abbrev cmpPost (f : PyData → PyData → Bool) : ((Addr × Int × Int × List (List Int)) × (Addr × Int × Int × List (List Int))) → Mem → Post := fun x M => isV (.bl (f (placeD x.1.2.1 x.1.2.2.1 x.1.2.2.2) (placeD x.2.2.1 x.2.2.2.1 x.2.2.2.2))) M
/-- one op other by the own comparison -/
theorem ev_cmpS {f : PyData → PyData → Bool} {P1 P2 : Hp → V → Prop} [Mono P1] {b r b' r' : Int} {cs ds : List (List Int)} (h1 : Ev ta σ G M (isP P1 M1)) (h2 : Ev tb σ G M1 (isP P2 M2)) (c1 : ∀ G1 v, Ex G G1 → P1 G1 v → ∃ p, v = .ref p ∧ ShAt K C G1 M2 p b r cs) (c2 : ∀ G1 v, Ex G G1 → P2 G1 v → ∃ p, v = .ref p ∧ ShAt K C G1 M2 p b' r' ds) :
    Ev (tOp (rCmpO C (spec (cmpPre K C) (cmpPost f)) E) ta tb) σ G M (isV (.bl (f (placeD b r cs) (placeD b' r' ds))) M2) :=
  ev_op h1 h2 fun G1 H F x' y' e m p1 p2 Q k => by
    obtain ⟨p, rfl, dx, l, xs, k1, k2, k3⟩ := c1 G1 _ e p1
    obtain ⟨q, rfl, dy, l', ys, j1, j2, j3⟩ := c2 G1 _ e p2
    exact ⟨p, dx, _, q, dy, _, rfl, rfl, k1 G1 H F (Ex.refl _) m, j1 G1 H F (Ex.refl _) m, ((p, b, r, cs), (q, b', r', ds)), G1, M2, F, m, ⟨rfl, ⟨dx, l, xs, k1, k2, k3⟩, ⟨dy, l', ys, j1, j2, j3⟩⟩, fun v G' M' H' e' m' r' => k v G' M' H' e' m' r'⟩
end
end SX
namespace SX
open PySem PySem.Spec L2
/-- what the law's order says -/
def ordV (cs ds : List (List Int)) : Int := if cs = ds then 0 else if ltS cs ds then -1 else 1
theorem lexI_tri : ∀ (a b : List Int), a.length = b.length → a ≠ b → lexI b a = !lexI a b
  | [], [], _, h => absurd rfl h
  | [], _ :: _, h, _ => by simp at h
  | _ :: _, [], h, _ => by simp at h
  | x :: xs, y :: ys, h, hn => by
    unfold lexI
    by_cases e : x = y
    · subst e
      rw [if_pos rfl, if_pos rfl]
      exact lexI_tri xs ys (by simpa using h) (fun z => hn (by rw [z]))
    · rw [if_neg e, if_neg (fun z => e z.symm), ← decide_not, decide_eq_decide]
      omega
theorem lexC_tri {n : Nat} : ∀ (a b : List (List Int)), (∀ c ∈ a, c.length = n) → (∀ c ∈ b, c.length = n) → a.length = b.length → a ≠ b → lexC b a = !lexC a b
  | [], [], _, _, _, h => absurd rfl h
  | [], _ :: _, _, _, h, _ => by simp at h
  | _ :: _, [], _, _, h, _ => by simp at h
  | x :: xs, y :: ys, ha, hb, h, hn => by
    unfold lexC
    by_cases e : x = y
    · subst e
      rw [if_pos rfl, if_pos rfl]
      exact lexC_tri xs ys (fun c hc => ha c (List.mem_cons_of_mem _ hc)) (fun c hc => hb c (List.mem_cons_of_mem _ hc)) (by simpa using h) (fun z => hn (by rw [z]))
    · rw [if_neg e, if_neg (fun z => e z.symm)]
      exact lexI_tri x y ((ha x List.mem_cons_self).trans (hb y List.mem_cons_self).symm) e
theorem ltS_self (a : List (List Int)) : ltS a a = false := by
  unfold ltS
  rw [if_pos rfl, ← lex_cols, PyProof.Rows.lex_irrefl]
theorem ltS_tri {n : Nat} {a b : List (List Int)} (ha : ∀ c ∈ a, c.length = n) (hb : ∀ c ∈ b, c.length = n) (h : a ≠ b) : ltS b a = !ltS a b := by
  unfold ltS
  by_cases e : a.length = b.length
  · rw [if_pos e, if_pos e.symm]
    exact lexC_tri a b ha hb e h
  · rw [if_neg e, if_neg (fun z => e z.symm), ← decide_not, decide_eq_decide]
    omega
theorem lexI_at : ∀ {a b : List Int} {j : Nat} {x y : Int}, a.take j = b.take j → a[j]? = some x → b[j]? = some y → x ≠ y → lexI a b = decide (x < y)
  | [], _, _, _, _, _, h, _, _ => by simp at h
  | _ :: _, [], _, _, _, _, _, h, _ => by simp at h
  | p :: ps, q :: qs, 0, x, y, _, h1, h2, hn => by
    cases h1
    cases h2
    unfold lexI
    rw [if_neg hn]
  | p :: ps, q :: qs, j + 1, x, y, ht, h1, h2, hn => by
    rw [List.take_succ_cons, List.take_succ_cons] at ht
    obtain ⟨e, ht2⟩ := List.cons.inj ht
    subst e
    unfold lexI
    rw [if_pos rfl]
    exact lexI_at ht2 h1 h2 hn
theorem lexC_at : ∀ {a b : List (List Int)} {j : Nat} {x y : List Int}, a.take j = b.take j → a[j]? = some x → b[j]? = some y → x ≠ y → lexC a b = lexI x y
  | [], _, _, _, _, _, h, _, _ => by simp at h
  | _ :: _, [], _, _, _, _, _, h, _ => by simp at h
  | p :: ps, q :: qs, 0, x, y, _, h1, h2, hn => by
    cases h1
    cases h2
    unfold lexC
    rw [if_neg hn]
  | p :: ps, q :: qs, j + 1, x, y, ht, h1, h2, hn => by
    rw [List.take_succ_cons, List.take_succ_cons] at ht
    obtain ⟨e, ht2⟩ := List.cons.inj ht
    subst e
    unfold lexC
    rw [if_pos rfl]
    exact lexC_at ht2 h1 h2 hn
section
variable {K : PySem.W.Frag} {σ : L2.St} {G : Hp} {M M1 : Mem} {ta te : TE} {p : Addr} {R : Post}
/-- append of what leaves an unnamed memory -/
theorem ev_appendE {xs : List V} {n : Nat} (h : Ev te σ G M (isV (.ref p) M)) (h2 : Ev ta σ G M R) (hl : ∀ G1 v M1, R G1 v M1 → M1[n]? = some (p, .lst xs)) (hl0 : ∃ (k : Nat) (ys : List V), M[k]? = some (p, HO.lst ys)) (hz : xs.length ≤ 100000) :
    Ev (tBM K "list" rAppend te (tCons ta tNil)) σ G M (fun G v M' => v = .non ∧ ∃ y M1, R G y M1 ∧ M' = M1.set n (p, .lst (xs ++ [y]))) := fun G1 H F e m Q q =>
  h G1 H F e m _ fun v G2 M2 H2 e2 m2 r => by
    obtain ⟨rfl, rfl⟩ := r
    obtain ⟨k, ys, hk⟩ := hl0
    refine ⟨.inl ⟨rfl, ys, SqL.of (m2.getF hk)⟩, h2 G2 H2 F (e.trans e2) m2 _ fun y G3 M3 H3 e3 m3 r3 => ?_⟩
    have hM := hl G3 y M3 r3
    exact ⟨p, xs, y, rfl, rfl, m3.getF hM, sz_ok hz, q _ G3 _ _ (e2.trans e3) (m3.putF hM) ⟨rfl, y, M3, r3, rfl⟩⟩
end
end SX
namespace SX
open PySem PySem.Spec L2
abbrev orderPre (K : PySem.W.Frag) : (List (List Int) × List (List Int) × Nat) → Hp → Mem → List V → Prop := fun x G M vs => ∃ v u, vs = [v, u] ∧ Dp K G v (.list (x.1.map colD)) ∧ Dp K G u (.list (x.2.1.map colD)) ∧ x.2.2 ≤ 1000 ∧ x.1.length ≤ 1000 ∧ (∀ c ∈ x.1, c.length = x.2.2) ∧ ∀ c ∈ x.2.1, c.length = x.2.2
abbrev orderPost : (List (List Int) × List (List Int) × Nat) → Mem → Post := fun x M => isV (.int (ordV x.1 x.2.1)) M
abbrev twoPre (K : PySem.W.Frag) (C : Addr) : ((Addr × Int × Int × List (List Int)) × (Addr × Int × Int × List (List Int))) → Hp → Mem → List V → Prop := fun x G M vs => vs = [.ref x.1.1, .ref x.2.1, .int (ordV x.1.2.2.2 x.2.2.2.2)] ∧ ShAt K C G M x.1.1 x.1.2.1 x.1.2.2.1 x.1.2.2.2 ∧ ShAt K C G M x.2.1 x.2.2.1 x.2.2.2.1 x.2.2.2.2 ∧ x.1.2.1 = x.2.2.1 ∧ x.1.2.2.1 = x.2.2.2.1 ∧ GoodSh x.1.2.1 x.1.2.2.1 x.1.2.2.2 ∧ GoodSh x.2.2.1 x.2.2.2.1 x.2.2.2.2
abbrev twoPost : ((Addr × Int × Int × List (List Int)) × (Addr × Int × Int × List (List Int))) → Mem → Post := fun _ M => isV (.bl true) M
theorem ordV_self (a : List (List Int)) : ordV a a = 0 := if_pos rfl
theorem eqv_bools (a b : List Bool) : PyData.eqv (.list (a.map PyData.bool)) (.list (b.map PyData.bool)) = decide (a = b) := by
  simp only [PyData.eqv]
  induction a generalizing b with
  | nil => cases b <;> simp [PyData.eqvAll]
  | cons x xs ih =>
    cases b with
    | nil => simp [PyData.eqvAll]
    | cons y ys =>
      simp only [List.map_cons, PyData.eqvAll, PyData.eqv, ih]
      by_cases h : x = y <;> simp [h]
theorem sh_bools {n : Nat} (ns : List Bool) : Sh (n + 1) (.list (ns.map PyData.bool)) := sh_lst fun d hd => by
  obtain ⟨i, _, rfl⟩ := List.mem_map.mp hd
  exact sh_bl i
end SX
namespace SX
open PySem PySem.Spec L2
abbrev turnPre (K : PySem.W.Frag) : (Addr × Nat × Deck × Int × Int × List (List Int)) → Hp → Mem → List V → Prop := fun x G M vs => ∃ v, vs = [.ref x.1, v, .int x.2.2.2.1, .int x.2.2.2.2.1] ∧ Dp K G v (.list (x.2.2.2.2.2.map colD)) ∧ GoodSh x.2.2.2.1 x.2.2.2.2.1 x.2.2.2.2.2 ∧ x.2.2.2.2.2.length ≤ 20 ∧ M[x.2.1]? = some (x.1, x.2.2.1.ho)
abbrev turnPost (K : PySem.W.Frag) : (Addr × Nat × Deck × Int × Int × List (List Int)) → Mem → Post := fun x M G v M' => ∃ cs D', Dp K G v (.list (cs.map colD)) ∧ M' = M.set x.2.1 (x.1, Deck.ho D') ∧ GoodSh x.2.2.2.1 x.2.2.2.2.1 cs ∧ cs.length ≤ 20
abbrev stranPre (K : PySem.W.Frag) (C : Addr) : (Addr × Nat × Deck × Addr × Int × Int × List (List Int)) → Hp → Mem → List V → Prop := fun x G M vs => ∃ v, vs = [.ref x.1, .ref x.2.2.2.1, .int x.2.2.2.2.1, .int x.2.2.2.2.2.1, v] ∧ Dp K G v (.list (x.2.2.2.2.2.2.map colD)) ∧ (∀ M', ShAt K C G M' x.2.2.2.1 x.2.2.2.2.1 x.2.2.2.2.2.1 x.2.2.2.2.2.2) ∧ GoodSh x.2.2.2.2.1 x.2.2.2.2.2.1 x.2.2.2.2.2.2 ∧ x.2.2.2.2.2.2.length ≤ 20 ∧ M[x.2.1]? = some (x.1, x.2.2.1.ho)
abbrev stranPost : (Addr × Nat × Deck × Addr × Int × Int × List (List Int)) → Mem → Post := fun x M => isV (.bl true) (M.set x.2.1 (x.1, (dn x.2.2.1 5).ho))
section
variable {K : PySem.W.Frag} {σ : L2.St} {G : Hp} {M M1 : Mem} {tl te : TE} {own' : List Nat} {k : Nat} {p : Addr} {xs : List V} {ds : List PyData}
/-- [e for x in l], values of any kind -/
theorem ev_mapP (Pi : Nat → Hp → V → Prop) (hPi : ∀ i G G' v, Ex G G' → Pi i G v → Pi i G' v) (hs : Ev tl σ G M (isV (.ref p) M1)) (hA : AtL K G M1 p xs) (hd : DpAll K G xs ds) (hn : ds.length ≤ 100000)
    (he : ∀ (i : Nat) d x G', ds[i]? = some d → Ex G G' → Dp K G' x d → Ev te ((wipe σ own').set k (some x)) G' M1 (isP (Pi i) M1)) (hw : ∀ x, wipe ((wipe σ own').set k (some x)) own' = wipe σ own') :
    Ev (tLc (iList K tl) (gName k) tYes te own') σ G M (isP (fun G v => ∃ q vs, v = .ref q ∧ G q = some (.lst vs) ∧ vs.length = ds.length ∧ ∀ (i : Nat) y, vs[i]? = some y → Pi i G y) M1) := fun G1 H F e m Q q =>
  hs G1 H F e m _ fun v G2 M2 H2 e2 m2 r2 => by
    obtain ⟨rfl, rfl⟩ := r2
    have hln := dpa_len hd
    refine ⟨p, rfl, ⟨xs, hA _ _ _ (e.trans e2) m2⟩, fun D hD => lc_list (K := K) (a := p) (xs := xs) (fun i H' => ∃ G' vs, Ex G2 G' ∧ Me G' (M2 ++ (D, .lst vs) :: F) H' ∧ vs.length = i ∧ ∀ (j : Nat) y, vs[j]? = some y → Pi j G' y) ?_ ?_ ?_ ?_⟩
    · exact ⟨G2, [], Ex.refl _, by rw [mem_mid]; exact m2.newMid hD, rfl, fun j y h => by simp at h⟩
    · rintro i H' _ ⟨G', vs, e', m', _⟩
      exact hA _ _ _ ((e.trans e2).trans e') m'
    · rintro i x H' hx ⟨G', vs, e', m', hl, hv⟩
      obtain ⟨d, hd', dx⟩ := dpa_atV hd hx
      have hi : i < xs.length := (List.getElem?_eq_some_iff.mp hx).1
      refine ⟨hw x, (et_yes : EvT tYes ((wipe σ own').set k (some x)) G' M2 true M2) G' H' _ (Ex.refl _) m' _ fun G3 H3 e3 m3 => ?_⟩
      rw [if_pos rfl]
      have e03 := ((e.trans e2).trans e').trans e3
      refine he i d x G3 hd' e03 (dm dx e03) G3 H3 _ (Ex.refl _) m3 _ fun y G4 M4 H4 e4 m4 r4 => ?_
      obtain ⟨py, rfl⟩ := r4
      have hm : (M4 ++ (D, HO.lst vs) :: F)[M4.length]? = some (D, .lst vs) := by
        rw [List.getElem?_append_right (Nat.le_refl _), Nat.sub_self]
        rfl
      refine ⟨vs, m4.get hm, by rw [hl]; exact sz_ok (by omega), G4, vs ++ [y], (e'.trans e3).trans e4, ?_, by simp [hl], fun j z hz => ?_⟩
      · have := m4.put (o' := .lst (vs ++ [y])) hm
        rw [List.set_append_right _ _ (Nat.le_refl _), Nat.sub_self] at this
        exact this
      · rw [List.getElem?_append] at hz
        split at hz
        · exact hPi _ _ _ _ (e3.trans e4) (hv j z hz)
        · rename_i hj
          have hji : j = i := by
            have := (List.getElem?_eq_some_iff.mp hz).1
            simp at this
            omega
          subst hji
          rw [hl, Nat.sub_self] at hz
          cases hz
          exact py
    · rintro H' ⟨G', vs, e', m', hl, hv⟩
      rw [mem_mid] at m'
      obtain ⟨m3, e3⟩ := m'.freezeLast
      exact q _ _ M2 H' ((e2.trans e').trans e3) m3 ⟨⟨D, vs, rfl, upd_same, by rw [hl, hln], fun i y hy => hPi _ _ _ _ e3 (hv i y hy)⟩, rfl⟩
end
end SX
namespace SX
open PySem PySem.Spec L2
/-- what is owned and not needed is forgotten behind a statement -/
theorem sv_behind {E : XK} {t : TS} {σ : L2.St} {G : Hp} {M : Mem} {P : Po} (h : Sv E t σ G M { P with nx := fun G2 σ2 M2 => ∃ M0 Mx, M2 = M0 ++ Mx ∧ P.nx G2 σ2 M0 }) : Sv E t σ G M P := fun G1 H F D e m hd =>
  h G1 H F D e m ⟨fun σ2 G2 M2 H2 e2 m2 n => by
    obtain ⟨M0, Mx, rfl, n'⟩ := n
    exact hd.nx σ2 G2 M0 H2 e2 m2.dropLast n', hd.rt, hd.bk, hd.ct, hd.ex⟩
end SX

set_option Elab.async false
set_option linter.all false
set_option maxRecDepth 100000
/-! SXp: sets of values that are compared by what they hold (tuples of numbers and texts): how many there are. -/
namespace SX
open PySem PySem.Spec L2 PyProof.Rows

/-- what a set asks of what it may take -/
structure Elem (P : Program) (w : World) (κ : Type) [DecidableEq κ] where
  is : Heap → κ → Addr → Prop
  code : κ → Int
  toks : κ → Nat
  eqB : ∀ {A : Around} {E : Value → Shared → Prop} {s : Shared} {x y : κ} {a b : Addr} {Q : Bool → Shared → Prop}, A.units < cLine → is s.heap x a → is s.heap y b → Q (decide (x = y)) s → wpAny (model P w) A (eqBool (.ref a) (.ref b)) Q E s
  hash : ∀ {A : Around} {E : Value → Shared → Prop} {s : Shared} {x : κ} {a : Addr} {Q : Int → Shared → Prop}, A.units < cLine → is s.heap x a → Q (code x) { s with toks := s.toks + toks x } → wpAny (model P w) A (pyHash (.ref a)) Q E s
  quiet : ∀ {A : Around} {E : Value → Shared → Prop} {s : Shared} {x : κ} {a : Addr} {Q : Bool → Shared → Prop}, is s.heap x a → Q true s → wpAny (model P w) A (eqIsQuiet 8 (.ref a)) Q E s
  noCls : ∀ {A : Around} {E : Value → Shared → Prop} {s : Shared} {x : κ} {a : Addr} {Q : Bool → Shared → Prop}, is s.heap x a → Q false s → wpAny (model P w) A (ofAClassStatement 8 (.ref a)) Q E s
  byVal : ∀ {A : Around} {E : Value → Shared → Prop} {s : Shared} {x : κ} {a : Addr} {Q : Bool → Shared → Prop}, is s.heap x a → (∀ b, Q b s) → wpAny (model P w) A (hashByValue 8 (.ref a)) Q E s
  but : ∀ {h h' : Heap} {x : κ} {b a : Addr} {o : Obj} {es : Array (Int × Value)} {ep : Nat} {t : SetTable}, is h x b → h.get? a = some o → o.data = .set es ep t → Heap.SameBut a h h' → is h' x b
  keep : ∀ {h h' : Heap} {x : κ} {b : Addr}, is h x b → (∀ c o, h.get? c = some o → h'.get? c = some o) → is h' x b

section
variable {P : Program} {w : World} {κ : Type} [DecidableEq κ] (e : Elem P w κ) {A : Around} {E : Value → Shared → Prop} {s : Shared} {a : Addr} {L : List (Addr × κ)} {es : Array (Int × Value)} {ep : Nat} {t : SetTable}
def codes (L : List (Addr × κ)) : List Int := L.map fun p => e.code p.2
def entries (L : List (Addr × κ)) : List (Int × Value) := L.map fun p => (e.code p.2, Value.ref p.1)
/-- at a: a set that has just these -/
structure SetE (h : Heap) (a : Addr) (L : List (Addr × κ)) (es : Array (Int × Value)) (ep : Nat) (t : SetTable) : Prop where
  obj : ∃ o, h.get? a = some o ∧ o.ExactSet ∧ o.data = .set es ep t
  ent : es.toList = entries e L
  tab : TabOk t (codes e L)
  dif : (L.map (·.2)).Nodup
  mem : ∀ p ∈ L, e.is h p.2 p.1
  led : w.params.followText "set-order" = true ∨ t.led = true
  gap : 5 * L.length < 3 * t.mask
  few : L.length ≤ 60
variable {e}
theorem SetE.esz (R : SetE e s.heap a L es ep t) : es.size = L.length := by
  rw [← Array.length_toList, R.ent, entries, List.length_map]
theorem SetE.psz (R : SetE e s.heap a L es ep t) : t.place.size = L.length := by
  rw [R.tab.sz, codes, List.length_map]
theorem SetE.fit (R : SetE e s.heap a L es ep t) : t.fits es.size = true := by
  have h1 := R.psz
  have h2 := R.esz
  have h3 := R.gap
  simp only [SetTable.fits, SetTable.fill, R.tab.dm, Bool.and_eq_true, beq_iff_eq, decide_eq_true_eq]
  exact ⟨by omega, by simp only [List.size_toArray, List.length_nil]; omega⟩
theorem SetE.row (R : SetE e s.heap a L es ep t) {i : Nat} {p : Addr × κ} (h : L[i]? = some p) : es[i]? = some (e.code p.2, Value.ref p.1) := by
  have h2 : es.toList[i]? = some (e.code p.2, Value.ref p.1) := by rw [R.ent, entries, List.getElem?_map, h]; rfl
  simpa using h2
theorem SetE.code_at (R : SetE e s.heap a L es ep t) {i : Nat} {p : Addr × κ} (h : L[i]? = some p) : (es[i]?.map (·.1)).getD 0 = e.code p.2 := by
  rw [R.row h]
  rfl
theorem no_dummy (m : Nat) : ∀ (n : Nat) (p : SetTable.Probe), p.dummy = none → (nth m p n).dummy = none
  | 0, _, h => h
  | n + 1, p, h => no_dummy m n (adv m p) (by unfold adv; split <;> exact h)
abbrev startP (m : Nat) (c : Int) : SetTable.Probe := runAt m (SetTable.bits c % (m + 1)) (SetTable.bits c)
/-- asked of a list of such values, a search shows nothing -/
theorem unseen {k : κ} {b : Addr} (hk : e.is s.heap k b) {ys : List Value} (hy : ∀ y ∈ ys, ∃ k' c, y = Value.ref c ∧ e.is s.heap k' c) {Q : Bool → Shared → Prop} (h : Q false s) : wpAny (model P w) A (searchCouldBeSeen (.ref b) ys) Q E s := by
  unfold searchCouldBeSeen
  apply wpAny_bind
  refine wpAny_forIn_list _ (fun left r s' => (r.1 = none ∧ s' = s) ∧ ∀ y ∈ left, ∃ k' c, y = Value.ref c ∧ e.is s.heap k' c) _ ?_ ?_ _ _ ⟨⟨rfl, rfl⟩, hy⟩
  · rintro v left r s' ⟨⟨hr, rfl⟩, hall⟩
    obtain ⟨k', c, rfl, hc⟩ := hall v List.mem_cons_self
    have next := fun y (h' : y ∈ left) => hall y (List.mem_cons_of_mem _ h')
    dsimp only
    split
    · exact wpAny_pure ⟨⟨rfl, rfl⟩, next⟩
    · apply wpAny_bind
      apply e.quiet hk
      simp only [Bool.not_true, Bool.false_eq_true, if_false]
      apply wpAny_bind
      apply e.quiet hc
      simp only [Bool.not_true, Bool.false_eq_true, if_false]
      apply wpAny_bind
      apply e.noCls hk
      simp only [Bool.false_eq_true, if_false]
      apply wpAny_bind
      apply e.noCls hc
      simp only [Bool.false_eq_true, if_false]
      exact wpAny_pure ⟨⟨rfl, rfl⟩, next⟩
  · rintro ⟨r1, r2⟩ s' ⟨⟨hr, rfl⟩, _⟩
    cases (show r1 = none from hr)
    exact wpAny_pure h
/-- the search, from its c-th step on: what is sought is there, or a free place is found -/
theorem SetE.look (R : SetE e s.heap a L es ep t) {x : Addr} {k : κ} (hx : e.is s.heap k x) (hu : A.units < cLine) {m : Nat} (hm : t.mask = m) {K : Nat} (hKf : K < 10 * SetTable.turns m) (hK : way m (e.code k) K ∉ t.place.toList) (hKb : ∀ c, c < K → way m (e.code k) c ∈ t.place.toList)
    {Q : SetFound → Shared → Prop} (yes : k ∈ L.map (·.2) → Q (.there none) s) (no : k ∉ L.map (·.2) → Q (.free (way m (e.code k) K) false) s) :
    ∀ (f c : Nat) (st : Option SetTable.Probe), st.getD (t.probeStart (e.code k)) = nth m (startP m (e.code k)) c → c ≤ K → K < f + c → (∀ (i : Nat) (p : Addr × κ), L[i]? = some p → p.2 = k → ∃ c', (c ≤ c' ∧ c' < K) ∧ t.place.toList[i]? = some (way m (e.code k) c')) →
      wpAny (model P w) A (setSearchFrom a (.ref x) (e.code k) true f st) Q E s := by
  subst hm
  obtain ⟨o, ho, hex, hd⟩ := R.obj
  intro f
  induction f with
  | zero => intro c st _ h1 h2; omega
  | succ f ih =>
    intro c st hst hc hf hre
    have hnd := no_dummy t.mask c (startP t.mask (e.code k)) rfl
    have hj : ∀ q, (nth t.mask (nth t.mask (startP t.mask (e.code k)) c) q).j = way t.mask (e.code k) (c + q) := fun q => by rw [← nth_add]
    have spec := go_spec t R.tab.ris R.tab.dm (fun i => (es[i]?.map (·.1)).getD 0) (e.code k) (10 * SetTable.turns t.mask) (K - c) _ hnd (by omega) (fun q hq => by rw [hj]; exact hKb _ (by omega)) (by rw [hj, Nat.add_sub_cancel' hc]; exact hK)
    rw [setSearchFrom_succ]
    apply wpAny_bind
    refine wpAny_setState_of ho hd R.fit ?_
    dsimp only
    refine wp_if_neg (by unfold SetTable.gaveWay; rw [mask_odd R.tab.mok]; decide) ?_
    try apply wpAny_bind; apply wpAny_pure
    rcases spec with ⟨q, i, hq, hi, hh, hfst, hpr⟩ | ⟨hnone, hpr⟩
    · -- a place with the same code
      have hpr2 : t.probe (fun i => (es[i]?.map (·.1)).getD 0) (e.code k) (st.getD (t.probeStart (e.code k))) = some (.candidate (way t.mask (e.code k) (c + q)) i (nth t.mask (startP t.mask (e.code k)) (c + (q + 1)))) := by
        rw [hst, ← hj q, nth_add t.mask c _ (q + 1)]
        exact hpr
      rw [hpr2]
      dsimp only
      rw [hj] at hi
      have hiL : i < L.length := by
        have := (List.getElem?_eq_some_iff.mp hi).1
        rw [Array.length_toList, R.psz] at this
        exact this
      obtain ⟨p, hp⟩ : ∃ p, L[i]? = some p := ⟨_, List.getElem?_eq_getElem hiL⟩
      have hpL := List.mem_of_getElem? hp
      have live := slot_live R.tab.ris hi
      have body : wpAny (model P w) A (searchRest a (.ref x) (e.code k) true f es t (way t.mask (e.code k) (c + q)) i (nth t.mask (startP t.mask (e.code k)) (c + (q + 1)))) Q E s := by
        unfold searchRest
        rw [R.row hp]
        dsimp only
        apply wpAny_bind
        apply wpAny_holding
        apply e.eqB hu (R.mem p hpL) hx
        apply wpAny_bind
        refine wpAny_setState_of ho hd R.fit ?_
        dsimp only
        by_cases hkk : p.2 = k
        · rw [decide_eq_true hkk]
          exact wp_if_pos rfl (wpAny_pure (yes (List.mem_map.mpr ⟨p, hpL, hkk⟩)))
        · rw [decide_eq_false hkk]
          refine wp_if_neg (by decide) ?_
          try apply wpAny_bind; apply wpAny_pure
          have hsm : t.sameMemory t.moves t.mask = some true := by simp [SetTable.sameMemory]
          rw [hsm]
          simp only [if_true, live, R.row hp]
          apply wpAny_bind
          apply wpAny_isSame_ref_self
          apply wpAny_bind
          apply wpAny_pure
          simp only [if_true]
          refine wp_if_neg (by decide) ?_
          refine ih (c + (q + 1)) _ rfl (by omega) (by omega) fun i0 p0 h0 hk0 => ?_
          obtain ⟨c', ⟨b1, b2⟩, b3⟩ := hre i0 p0 h0 hk0
          refine ⟨c', ⟨?_, b2⟩, b3⟩
          rcases Nat.lt_trichotomy c' (c + q) with z | z | z
          · refine absurd ((R.code_at h0).trans (by rw [hk0])) (hfst (c' - c) i0 (by omega) ?_)
            rw [hj, Nat.add_sub_cancel' b1]
            exact b3
          · exfalso
            subst z
            have l2 := slot_live R.tab.ris b3
            rw [live] at l2
            cases l2
            rw [hp] at h0
            cases h0
            exact hkk hk0
          · omega
      by_cases hl : t.led = true
      · refine wp_if_neg (by rw [hl]; decide) ?_
        try apply wpAny_bind; apply wpAny_pure
        exact body
      · refine wp_if_pos (by simpa using hl) ?_
        apply wpAny_bind
        refine unseen hx (fun y hy => ?_) ?_
        · simp only [List.mem_map, Array.mem_toList_iff, Array.mem_filter] at hy
          obtain ⟨en, ⟨hen, _⟩, rfl⟩ := hy
          have hen : en ∈ es.toList := by simpa using hen
          rw [R.ent, entries, List.mem_map] at hen
          obtain ⟨p2, h2, rfl⟩ := hen
          exact ⟨p2.2, p2.1, rfl, R.mem p2 h2⟩
        · refine wp_if_neg (by decide) ?_
          try apply wpAny_bind; apply wpAny_pure
          exact body
    · -- a free place
      have hpr2 : t.probe (fun i => (es[i]?.map (·.1)).getD 0) (e.code k) (st.getD (t.probeStart (e.code k))) = some (.empty (way t.mask (e.code k) K) none) := by
        rw [hst, show way t.mask (e.code k) K = way t.mask (e.code k) (c + (K - c)) by rw [Nat.add_sub_cancel' hc], ← hj]
        exact hpr
      rw [hpr2]
      dsimp only
      refine wpAny_pure (no fun hm => ?_)
      obtain ⟨p0, h0, hk0⟩ := List.mem_map.mp hm
      obtain ⟨i0, h00⟩ := List.mem_iff_getElem?.mp h0
      obtain ⟨c', ⟨b1, b2⟩, b3⟩ := hre i0 p0 h00 hk0
      refine absurd ((R.code_at h00).trans (by rw [hk0])) (hnone (c' - c) i0 (by omega) ?_)
      rw [hj, Nat.add_sub_cancel' b1]
      exact b3
end
end SX
namespace SX
open PySem PySem.Spec L2 PyProof.Rows
section
variable {P : Program} {w : World} {κ : Type} [DecidableEq κ] {e : Elem P w κ} {A : Around} {E : Value → Shared → Prop} {s : Shared} {a : Addr} {L : List (Addr × κ)} {es : Array (Int × Value)} {ep : Nat} {t : SetTable}
theorem entries_len (L : List (Addr × κ)) : (entries e L).length = L.length := List.length_map _
theorem perm_at {α : Type} (L : List α) (n : Nat) (x : α) : (L.take n ++ x :: L.drop n).Perm (x :: L) := by
  conv => rhs; rw [← List.take_append_drop n L]
  exact List.perm_middle
/-- entries picked in an order -/
theorem picked {L : List (Addr × κ)} {es : Array (Int × Value)} (hr : es.toList = entries e L) : ∀ l : List Nat, (∀ i ∈ l, i < L.length) →
    l.filterMap (fun i => es[i]?) = entries e (l.filterMap fun i => L[i]?) ∧ codes e (l.filterMap fun i => L[i]?) = l.map fun i => (es.map (·.1)).getD i 0
  | [], _ => ⟨rfl, rfl⟩
  | i :: l, h => by
    obtain ⟨h1, h2⟩ := picked hr l fun j hj => h j (List.mem_cons_of_mem _ hj)
    have hi := h i List.mem_cons_self
    have hL : L[i]? = some L[i] := List.getElem?_eq_getElem hi
    have hE : es[i]? = some (e.code (L[i]).2, Value.ref (L[i]).1) := by
      have : es.toList[i]? = some (e.code (L[i]).2, Value.ref (L[i]).1) := by rw [hr, entries, List.getElem?_map, hL]; rfl
      simpa using this
    refine ⟨?_, ?_⟩
    · rw [List.filterMap_cons_some hE, List.filterMap_cons_some hL, h1]
      rfl
    · rw [List.filterMap_cons_some hL, List.map_cons, ← h2]
      have : (es.map (·.1)).getD i 0 = e.code (L[i]).2 := by
        have h3 : (es.map (·.1))[i]? = some (e.code (L[i]).2) := by simp [hE]
        simp [Array.getD_eq_getD_getElem?, h3]
      rw [this]
      rfl
theorem all_picked {α : Type} (L : List α) : (List.range L.length).filterMap (fun i => L[i]?) = L := by
  have : ∀ n, n ≤ L.length → (List.range n).filterMap (fun i => L[i]?) = L.take n := fun n => by
    induction n with
    | zero => intro _; rfl
    | succ n ih =>
      intro hn
      rw [List.range_succ, List.filterMap_append, ih (by omega), List.take_add_one, List.getElem?_eq_getElem (show n < L.length by omega)]
      simp [List.getElem?_eq_getElem (show n < L.length by omega)]
  rw [this _ (Nat.le_refl _), List.take_length]
/-- a larger table -/
theorem relay_e {o : Obj} (ho : s.heap.get? a = some o) (hex : o.ExactSet) (hd : o.data = .set es ep t) (hent : es.toList = entries e L) (hT : TabOk t (codes e L)) (hfl : L.length ≤ t.mask) (dif : (L.map (·.2)).Nodup) (mem : ∀ p ∈ L, e.is s.heap p.2 p.1)
    (ld : w.params.followText "set-order" = true ∨ t.led = true) (few : L.length ≤ 60) {wanted M : Nat} (hw : SetTable.sizeAbove wanted - 1 = M) (hM : MaskOk M) (hw2 : SetTable.sizeAbove wanted ≤ 128) (hn : 5 * L.length < 3 * M) {Q : Unit → Shared → Prop}
    (hQ : ∀ h' L' es' ep' t', Heap.SameBut a s.heap h' → SetE e h' a L' es' ep' t' → L'.Perm L → Q () { s with heap := h' }) : wpAny (model P w) A (setRelay a wanted) Q E s := by
  have hsz : es.size = L.length := by rw [← Array.length_toList, hent, entries_len]
  have hpz : t.place.size = L.length := by rw [hT.sz, codes, List.length_map]
  have hfit : t.fits es.size = true := by
    simp only [SetTable.fits, SetTable.fill, hT.dm, Bool.and_eq_true, beq_iff_eq, decide_eq_true_eq]
    exact ⟨by omega, by simp only [List.size_toArray, List.length_nil]; omega⟩
  obtain ⟨t', order, e1, hperm, T, em, el, epl, ed⟩ := relaid_ok t (hs := es.map (·.1)) (wanted := wanted) hw hM (by rw [Array.size_map, hsz]; omega)
  rw [Array.size_map, hsz] at hperm
  obtain ⟨h1, h2⟩ := picked hent order.toList fun i hi => List.mem_range.mp (hperm.mem_iff.mp hi)
  have hLp : (order.toList.filterMap fun i => L[i]?).Perm L := by
    have := hperm.filterMap fun i => L[i]?
    rw [all_picked] at this
    exact this
  generalize (order.toList.filterMap fun i => L[i]?) = L2 at h1 h2 hLp
  rw [← h2] at T
  have h3 : (order.filterMap (es[·]?)).toList = entries e L2 := by rw [Array.toList_filterMap]; exact h1
  have h4 : (order.filterMap (es[·]?)).size = es.size := by rw [← Array.length_toList, h3, entries_len, hLp.length_eq, hsz]
  rw [setRelay_eq]
  apply wpAny_bind
  refine wpAny_setState_of ho hd hfit ?_
  dsimp only
  refine wp_if_neg (by rw [sizeLine_eq]; omega) ?_
  try apply wpAny_bind; apply wpAny_pure
  rw [e1]
  dsimp only
  apply wpAny_bind
  refine wp_if_neg (by rw [h4]; simp) ?_
  try apply wpAny_bind; apply wpAny_pure
  apply wpAny_pure
  dsimp only
  have sb : Heap.SameBut a s.heap (s.heap.update a (Obj.putSet (order.filterMap (es[·]?)) t')) := Heap.SameBut.update ..
  refine wpAny_storeSet_of ho hd (hQ _ L2 (order.filterMap (es[·]?)) (ep + 1) t' sb ?_ hLp) (by rw [h4, hsz, sizeLine_eq]; omega)
  exact ⟨⟨_, store_at ho hd, ⟨hex.1, hex.2.1, hex.2.2⟩, rfl⟩, h3, T, (hLp.map (·.2)).nodup_iff.mpr dif, fun p hp => e.but (mem p (hLp.mem_iff.mp hp)) ho hd sb, by rw [el]; exact ld, by rw [hLp.length_eq, em]; exact hn, by rw [hLp.length_eq]; exact few⟩
/-- one is added -/
theorem SetE.add (R : SetE e s.heap a L es ep t) {x : Addr} {k : κ} (hx : e.is s.heap k x) (hu : A.units < cLine) (hfew : L.length + 1 ≤ 60) {Q : Bool → Shared → Prop}
    (hQ : ∀ b h' L' es' ep' t', Heap.SameBut a s.heap h' → SetE e h' a L' es' ep' t' → (k ∈ L.map (·.2) → L' = L) → (k ∉ L.map (·.2) → L'.Perm ((x, k) :: L)) → Q b { s with heap := h' }) :
    wpAny (model P w) A (setAddHashed a (.ref x) (e.code k)) Q E s := by
  obtain ⟨o, ho, hex, hd⟩ := R.obj
  have hgap := R.gap
  obtain ⟨K, hKf, hK, hKb⟩ := R.tab.first (by rw [codes, List.length_map]; omega) (e.code k)
  have hK5 : K < 100000 := by
    have h5 : SetTable.turns t.mask ≤ 1000 := by
      unfold SetTable.turns
      rcases R.tab.mok with h | h | h <;> omega
    omega
  unfold setAddHashed
  apply wpAny_holding
  rw [show (100000 : Nat) = 99999 + 1 from rfl, setAddHashedIn_succ]
  apply wpAny_bind
  refine wpAny_setState_of ho hd R.fit ?_
  dsimp only
  refine wp_if_neg (by simp [byScan, Value.scannable]) ?_
  try apply wpAny_bind; apply wpAny_pure
  apply wpAny_bind
  unfold setSearch
  refine R.look hx hu rfl hKf hK hKb (fun hm => ?_) (fun hm => ?_) 100000 0 none rfl (Nat.zero_le _) (by omega) fun i p hp hk => ?_
  · exact wpAny_pure (hQ false s.heap L es ep t (Heap.SameBut.refl a s.heap) R (fun _ => rfl) fun z => absurd hm z)
  · dsimp only
    apply wpAny_bind
    refine wpAny_setState_of ho hd R.fit ?_
    dsimp only
    obtain ⟨c1, c2, c3, c4, c5, c6, c7, c8, c9⟩ := R.tab.put hK hKb
    generalize t.put (way t.mask (e.code k) K) = tp at c1 c3 c4 c5 c6 c7 c8 c9 ⊢
    obtain ⟨t0, n⟩ := tp
    dsimp only at c1 c3 c4 c5 c6 c7 c8 c9 ⊢
    subst c1
    have hgo : ∀ {C : Bool → Sem Bool}, (∀ b, wpAny (model P w) A (C b) Q E s) → wpAny (model P w) A ((if t0.plain = true then hashByValue 8 (Value.ref x) else pure true) >>= C) Q E s := fun hC => by
      apply wpAny_bind
      split
      · exact e.byVal hx hC
      · exact wpAny_pure (hC true)
    have hgo2 : ∀ {C : Bool → Sem Bool}, (∀ b, wpAny (model P w) A (C b) Q E s) → wpAny (model P w) A (if t0.plain = true then hashByValue 8 (Value.ref x) >>= C else C true) Q E s := fun hC => by
      split
      · exact wpAny_bind (e.byVal hx hC)
      · exact hC true
    first | apply hgo | apply hgo2
    intro bv
    obtain ⟨t1, ht1, d3, d4, d5, d9⟩ : ∃ t1 : SetTable, t1 = (if bv = true then t0 else { t0 with plain := false }) ∧ TabOk t1 ((codes e L).take (SetTable.below t.place (way t.mask (e.code k) K)) ++ e.code k :: (codes e L).drop (SetTable.below t.place (way t.mask (e.code k) K))) ∧ t1.mask = t.mask ∧ t1.led = t.led ∧ t1.fill = (codes e L).length + 1 := by
      cases bv
      · exact ⟨_, rfl, ⟨c3.ris, c3.dm, c3.sz, c3.mok, c3.bd, c3.reach⟩, c4, c5, c9⟩
      · exact ⟨_, rfl, c3, c4, c5, c9⟩
    rw [← ht1]
    clear c3 c4 c5 c6 c7 c8 c9 hgo hgo2 ht1
    generalize SetTable.below t.place (way t.mask (e.code k) K) = n at c2 d3 ⊢
    have hins : (SetTable.insertAt es n (e.code k, Value.ref x)).toList = entries e (L.take n ++ (x, k) :: L.drop n) := by
      rw [SetTable.toList_insertAt, R.ent]
      simp only [entries, List.map_append, List.map_cons, List.map_take, List.map_drop]
    have hco : codes e (L.take n ++ (x, k) :: L.drop n) = (codes e L).take n ++ e.code k :: (codes e L).drop n := by
      simp only [codes, List.map_append, List.map_cons, List.map_take, List.map_drop]
    rw [← hco] at d3
    have pm := perm_at L n (x, k)
    generalize (L.take n ++ (x, k) :: L.drop n) = L1 at hins d3 pm
    have hl1 : L1.length = L.length + 1 := pm.length_eq
    generalize SetTable.insertAt es n (e.code k, Value.ref x) = es1 at hins ⊢
    have hs1 : es1.size = L.length + 1 := by rw [← Array.length_toList, hins, entries_len, hl1]
    have dif1 : (L1.map (·.2)).Nodup := (pm.map (·.2)).nodup_iff.mpr (by rw [List.map_cons]; exact List.nodup_cons.mpr ⟨hm, R.dif⟩)
    apply wpAny_bind
    have sb : Heap.SameBut a s.heap (s.heap.update a (Obj.putSet es1 t1)) := Heap.SameBut.update ..
    have ho1 := store_at (es' := es1) (t' := t1) ho hd
    refine wpAny_storeSet_of ho hd ?_ (by rw [hs1, sizeLine_eq]; omega)
    generalize s.heap.update a (Obj.putSet es1 t1) = h1 at sb ho1 ⊢
    have mem1 : ∀ p ∈ L1, e.is h1 p.2 p.1 := fun p hp => by
      rcases List.mem_cons.mp (pm.mem_iff.mp hp) with h | h
      · rw [h]
        exact e.but hx ho hd sb
      · exact e.but (R.mem p h) ho hd sb
    have ld1 : w.params.followText "set-order" = true ∨ t1.led = true := by rw [d5]; exact R.led
    have hfill : t1.fill = L.length + 1 := by rw [d9, codes, List.length_map]
    have hsz := R.esz
    cases hf : t1.tooFull with
    | true =>
      have hfull : 3 * t1.mask ≤ 5 * (L.length + 1) := by
        unfold SetTable.tooFull at hf
        rw [decide_eq_true_eq, hfill] at hf
        omega
      have two : L.length = 4 ∨ L.length = 18 := by
        rw [d4] at hfull
        rcases R.tab.mok with h | h | h <;> omega
      have go : ∀ {M : Nat}, SetTable.sizeAbove (SetTable.grown (es.size + 1)) - 1 = M → MaskOk M → SetTable.sizeAbove (SetTable.grown (es.size + 1)) ≤ 128 → 5 * (L.length + 1) < 3 * M → wpAny (model P w) A (setRelay a (SetTable.grown (es.size + 1))) (fun _ s' => wpAny (model P w) A (pure true) Q E s') E { s with heap := h1 } := fun h1' h2' h3' h4' =>
        relay_e (s := { s with heap := h1 }) ho1 ⟨hex.1, hex.2.1, hex.2.2⟩ rfl hins d3 (by rw [hl1, d4]; omega) dif1 mem1 ld1 (by rw [hl1]; exact hfew) h1' h2' h3' (by rw [hl1]; exact h4') fun h2 L2 es2 ep2 t2 sb2 R2 pm2 => wpAny_pure (hQ true h2 L2 es2 ep2 t2 (sb.trans sb2) R2 (fun z => absurd z hm) fun _ => pm2.trans pm)
      have key : wpAny (model P w) A (setRelay a (SetTable.grown (es.size + 1))) (fun _ s' => wpAny (model P w) A (pure true) Q E s') E { s with heap := h1 } := by
        rcases two with h | h
        · exact go (M := 31) (by rw [hsz, h, size_20]) (.inr (.inl rfl)) (by rw [hsz, h, size_20]; decide) (by omega)
        · exact go (M := 127) (by rw [hsz, h, size_76]) (.inr (.inr rfl)) (by rw [hsz, h, size_76]; decide) (by omega)
      first
        | (apply wpAny_bind; exact wp_if_pos (by simp) key)
        | exact wp_if_pos (by simp) (wpAny_bind key)
    | false =>
      have hgap1 : 5 * L1.length < 3 * t1.mask := by
        unfold SetTable.tooFull at hf
        rw [decide_eq_false_iff_not, hfill] at hf
        omega
      have fin := wpAny_pure (M := model P w) (A := A) (E := E) (hQ true h1 L1 es1 (ep + 1) t1 sb ⟨⟨_, ho1, ⟨hex.1, hex.2.1, hex.2.2⟩, rfl⟩, hins, d3, dif1, mem1, ld1, hgap1, by rw [hl1]; exact hfew⟩ (fun z => absurd z hm) fun _ => pm)
      first
        | exact wp_if_neg (by simp) fin
        | (apply wpAny_bind; exact wp_if_neg (by simp) (wpAny_pure fin))
  · have hi : (codes e L)[i]? = some (e.code k) := by rw [codes, List.getElem?_map, hp, ← hk]; rfl
    have hil : i < t.place.toList.length := by
      rw [Array.length_toList, R.psz]
      exact (List.getElem?_eq_some_iff.mp hp).1
    have hj := List.getElem?_eq_getElem hil
    obtain ⟨c, hc, e1⟩ := R.tab.before hK hi hj
    exact ⟨c, ⟨Nat.zero_le _, hc⟩, by rw [hj, e1]⟩
end
end SX
namespace SX
open PySem PySem.Spec L2 PyProof.Rows
/-- each once -/
def uniq {κ : Type} [DecidableEq κ] : List κ → List κ
  | [] => []
  | x :: xs => if x ∈ xs then uniq xs else x :: uniq xs
section
variable {κ : Type} [DecidableEq κ]
theorem mem_uniq {y : κ} : ∀ {xs : List κ}, y ∈ uniq xs ↔ y ∈ xs
  | [] => Iff.rfl
  | x :: xs => by
    unfold uniq
    split
    · rename_i h
      rw [mem_uniq, List.mem_cons]
      exact ⟨.inr, fun z => z.elim (fun z => by rw [z]; exact h) id⟩
    · rw [List.mem_cons, List.mem_cons, mem_uniq]
theorem nodup_uniq : ∀ xs : List κ, (uniq xs).Nodup
  | [] => List.nodup_nil
  | x :: xs => by
    unfold uniq
    split
    · exact nodup_uniq xs
    · rename_i h
      exact List.nodup_cons.mpr ⟨fun z => h (mem_uniq.mp z), nodup_uniq xs⟩
theorem uniq_le : ∀ xs : List κ, (uniq xs).length ≤ xs.length
  | [] => Nat.le_refl _
  | x :: xs => by
    have := uniq_le xs
    unfold uniq
    split <;> simp only [List.length_cons] <;> omega
theorem uniq_len {xs : List κ} : (uniq xs).length = xs.length ↔ xs.Nodup := by
  induction xs with
  | nil => exact ⟨fun _ => List.nodup_nil, fun _ => rfl⟩
  | cons x xs ih =>
    have := uniq_le xs
    unfold uniq
    rw [List.nodup_cons]
    split
    · rename_i h
      simp only [List.length_cons]
      exact ⟨fun z => by omega, fun z => absurd h z.1⟩
    · rename_i h
      simp only [List.length_cons, Nat.add_right_cancel_iff, ih]
      exact ⟨fun z => ⟨h, z⟩, fun z => z.2⟩
end
section
variable {P : Program} {w : World} {κ : Type} [DecidableEq κ] {e : Elem P w κ} {A : Around} {E : Value → Shared → Prop} {s : Shared}
/-- what is taken of the first i -/
def Tkn (ks : List (Addr × κ)) (i : Nat) (L : List (Addr × κ)) : Prop := (∀ p ∈ L, p ∈ ks.take i) ∧ (∀ p ∈ ks.take i, p.2 ∈ L.map (·.2)) ∧ L.length ≤ i
theorem Tkn.start (ks : List (Addr × κ)) : Tkn ks 0 [] := And.intro (fun _ h => by cases h) (And.intro (fun _ h => by rw [List.take_zero] at h; cases h) (Nat.le_refl _))
theorem Tkn.snoc {ks L L' : List (Addr × κ)} {i : Nat} {q : Addr × κ} (g : Tkn ks i L) (h : ks[i]? = some q) (h1 : q.2 ∈ L.map (·.2) → L' = L) (h2 : q.2 ∉ L.map (·.2) → L'.Perm (q :: L)) : Tkn ks (i + 1) L' := by
  obtain ⟨g1, g2, g3⟩ := g
  have ht : ks.take (i + 1) = ks.take i ++ [q] := by rw [List.take_add_one, h]; rfl
  by_cases hq : q.2 ∈ L.map (·.2)
  · rw [h1 hq]
    refine ⟨fun p hp => by rw [ht]; exact List.mem_append_left _ (g1 p hp), fun p hp => ?_, by omega⟩
    rw [ht, List.mem_append, List.mem_singleton] at hp
    rcases hp with hp | rfl
    · exact g2 p hp
    · exact hq
  · have pm := h2 hq
    refine ⟨fun p hp => ?_, fun p hp => ?_, by rw [pm.length_eq, List.length_cons]; omega⟩
    · rw [ht, List.mem_append, List.mem_singleton]
      rcases List.mem_cons.mp (pm.mem_iff.mp hp) with z | z
      · exact .inr z
      · exact .inl (g1 p z)
    · rw [(pm.map (·.2)).mem_iff, List.map_cons, List.mem_cons]
      rw [ht, List.mem_append, List.mem_singleton] at hp
      rcases hp with hp | rfl
      · exact .inr (g2 p hp)
      · exact .inl rfl
theorem Tkn.count {ks L : List (Addr × κ)} (g : Tkn ks ks.length L) (hd : (L.map (·.2)).Nodup) : L.length = (uniq (ks.map (·.2))).length := by
  obtain ⟨g1, g2, _⟩ := g
  rw [List.take_length] at g1 g2
  have : (L.map (·.2)).Perm (uniq (ks.map (·.2))) := (List.perm_ext_iff_of_nodup hd (nodup_uniq _)).mpr fun y => by
    rw [mem_uniq, List.mem_map, List.mem_map]
    constructor
    · rintro ⟨p, hp, rfl⟩
      exact ⟨p, g1 p hp, rfl⟩
    · rintro ⟨p, hp, rfl⟩
      exact List.mem_map.mp (g2 p hp)
  have := this.length_eq
  rwa [List.length_map] at this
theorem SetE.stay {h h' : Heap} {a : Addr} {L : List (Addr × κ)} {es : Array (Int × Value)} {ep : Nat} {t : SetTable} (R : SetE e h a L es ep t) (ha : ∀ o, h.get? a = some o → h'.get? a = some o) (hm : ∀ p ∈ L, e.is h' p.2 p.1) : SetE e h' a L es ep t := by
  obtain ⟨⟨o, ho, r⟩, h2, h3, h4, _, h7, h8, h9⟩ := R
  exact ⟨⟨o, ha o ho, r⟩, h2, h3, h4, hm, h7, h8, h9⟩
theorem setE_new {h : Heap} {a : Addr} (ho : h.get? a = some { cls := .type "set", dict := none, data := .set #[] 0 (.fresh 0 0 (!w.params.followText "set-order")) }) : SetE e h a [] #[] 0 (.fresh 0 0 (!w.params.followText "set-order")) := by
  refine ⟨⟨_, ho, ⟨rfl, rfl, rfl⟩, rfl⟩, rfl, ⟨List.Pairwise.nil, rfl, rfl, .inl rfl, fun _ h => (by cases h), fun i _ _ hi => (by simp [codes] at hi)⟩, List.nodup_nil, fun _ h => (by cases h), ?_, by show 5 * 0 < 3 * 7; decide, by show 0 ≤ 60; decide⟩
  cases h : w.params.followText "set-order"
  · exact .inr rfl
  · exact .inl rfl
/-- the items of a walk are taken one by one -/
theorem take_all {I : Addr} {fp wr : List Addr} {G : Array GenState → Array GenState → Prop} {n : Nat} {Pv : Nat → Value → Prop} {St : Nat → Shared → Prop} {R : Result → Shared → Prop} (W : WalksS P w A.in1 I fp wr G n Pv St) (S : Addr) (hS : S ∉ fp) (ks : List (Addr × κ)) (hn : n = ks.length) (few : ks.length ≤ 60)
    (hv : ∀ i v, Pv i v → ∃ p, ks[i]? = some p ∧ v = .ref p.1) (h0 : Heap) (hk : ∀ p ∈ ks, e.is h0 p.2 p.1) (hS0 : h0.get? S = none) (hw0 : ∀ b ∈ wr, h0.get? b = none) (hu : A.in1.units < cLine) :
    ∀ (k i : Nat) (s : Shared), n - i = k → i ≤ n → St i s → (∀ b o, h0.get? b = some o → s.heap.get? b = some o) → (∃ L es ep t, SetE e s.heap S L es ep t ∧ Tkn ks i L) →
      (∀ s' L es ep t, Moved (S :: wr) G s s' → SetE e s'.heap S L es ep t → Tkn ks n L → (∀ b o, h0.get? b = some o → s'.heap.get? b = some o) → R (.ok (.ret .none)) s') →
      codeAny (model P w) A (.builtin "set.update.loop" ⟨[.ref S, .ref I], []⟩) R s := by
  have hSw : S ∉ wr := fun h => hS (W.sub _ h)
  have hsub : ∀ b ∈ wr, b ∈ S :: wr := fun b hb => List.mem_cons_of_mem _ hb
  have still : ∀ {s s' : Shared}, Moved wr G s s' → (∀ b o, h0.get? b = some o → s.heap.get? b = some o) → ∀ b o, h0.get? b = some o → s'.heap.get? b = some o := fun hm q b o z =>
    hm.heap b o (fun hb => by rw [hw0 b hb] at z; cases z) (q b o z)
  intro k
  induction k with
  | zero =>
    rintro i s hk0 hi hst hq ⟨L, es, ep, t, hE, g⟩ hR
    obtain rfl : i = n := by omega
    apply codeAny_builtin F.entry_set_update_loop
    rw [Around.under_plainId F.plain_set_update_loop _]
    show wpAny _ A.in1 (pyNext (.ref I) >>= _) _ _ s
    apply wpAny_bind
    refine W.done s _ _ hst fun s' hm => ?_
    show wpAny _ A.in1 (ret Value.none) _ _ s'
    have hq' := still hm hq
    exact wpAny_pure (hR s' L es ep t (hm.mono hsub) (hE.stay (fun o z => hm.heap S o hSw z) fun p hp => e.keep (hk p (List.mem_of_mem_take (g.1 p hp))) hq') g hq')
  | succ k ih =>
    rintro i s hk0 hi hst hq ⟨L, es, ep, t, hE, g⟩ hR
    have hlt : i < n := by omega
    apply codeAny_builtin F.entry_set_update_loop
    rw [Around.under_plainId F.plain_set_update_loop _]
    show wpAny _ A.in1 (pyNext (.ref I) >>= _) _ _ s
    apply wpAny_bind
    refine W.item i s _ _ hlt hst fun v s' hP hst' hm => ?_
    obtain ⟨p, hp, rfl⟩ := hv i v hP
    have hq' := still hm hq
    have hE' : SetE e s'.heap S L es ep t := hE.stay (fun o z => hm.heap S o hSw z) fun p hp => e.keep (hk p (List.mem_of_mem_take (g.1 p hp))) hq'
    have hx : e.is s'.heap p.2 p.1 := e.keep (hk p (List.mem_of_getElem? hp)) hq'
    have hlen := g.2.2
    show wpAny _ A.in1 (holding [Value.ref p.1] (setAdd S (.ref p.1)) >>= _) _ _ s'
    apply wpAny_bind
    apply wpAny_holding
    unfold setAdd
    apply wpAny_holding
    apply wpAny_bind
    apply e.hash hu hx
    refine SetE.add (s := { s' with toks := s'.toks + e.toks p.2 }) hE' hx hu (by omega) fun b h' L' es' ep' t' sb hE2 c1 c2 => ?_
    have hq2 : ∀ b o, h0.get? b = some o → h'.get? b = some o := fun b o z => (sb.2 b (fun y => by rw [y, hS0] at z; cases z)).trans (hq' b o z)
    refine wpAny_pure ⟨plainId_quiet F.plain_set_update_loop _, ih (i + 1) _ (by omega) hlt (W.frame _ s' _ _ hst' (Nat.le_add_right _ _) fun b hb o z => ?_) hq2 ⟨L', es', ep', t', hE2, g.snoc hp c1 c2⟩ fun s2 L2 es2 ep2 t2 hm2 hE3 g3 hq3 => ?_⟩
    · rw [sb.2 b fun y => hS (y ▸ hb)]
      exact z
    · refine hR s2 L2 es2 ep2 t2 (Moved.trans W.gtrans ((hm.mono hsub).then_heap (Nat.le_add_right _ _) fun b o hb z => ?_) hm2) hE3 g3 hq3
      rw [sb.2 b fun y => hb (by rw [y]; exact List.mem_cons_self)]
      exact z
end
end SX
namespace SX
open PySem PySem.Spec L2 PyProof.Rows
/-- an empty set, as it is made -/
abbrev emptySet (w : World) : Obj := { cls := .type "set", dict := none, data := .set #[] 0 (.fresh 0 0 (!w.params.followText "set-order")) }
section
variable {P : Program} {w : World} {κ : Type} [DecidableEq κ] {e : Elem P w κ} {A : Around} {E : Value → Shared → Prop} {s : Shared}
set_option maxRecDepth 100000 in
set_option maxHeartbeats 3200000 in
/-- set(a list) -/
theorem call_setE {l : Addr} {items : Array Value} (ks : List (Addr × κ)) {Q : Value → Shared → Prop} (hh : A.handled = none) (hl : s.heap.IsList l items) (hit : items.toList = ks.map fun p => Value.ref p.1) (hk : ∀ p ∈ ks, e.is s.heap p.2 p.1) (few : ks.length ≤ 60) (hu : A.units + 3 < cLine)
    (h : ∀ (h' : Heap) (tk : Nat) L es ep t, SetE e h' s.heap.objs.size L es ep t → Tkn ks ks.length L → (∀ b o, s.heap.get? b = some o → h'.get? b = some o) → Q (.ref s.heap.objs.size) { s with heap := h', toks := tk }) :
    wpAny (model P w) A (call (.type "set") [.ref l]) Q E s := by
  have hsz : items.size = ks.length := by rw [← Array.length_toList, hit, List.length_map]
  have hfresh : ∀ b, s.heap.objs.size ≤ b → s.heap.get? b = none := fun b hb => by
    cases q : s.heap.get? b with
    | none => rfl
    | some o => exact absurd (Nat.lt_of_lt_of_le (Heap.lt_size q) hb) (Nat.lt_irrefl _)
  obtain ⟨c, tl, hmro⟩ := F.called_set.mro
  have m1 := F.called_set.made
  have m2 := F.called_set.sub
  have m3 := F.called_set.notType
  have m4 := F.called_set.canCreate
  have m5 := F.typeCall_set_1 (.ref l)
  refine wpAny_call (codeAny_of_tree ?_)
  show wpAny _ _ (callAny (.type "set") _) _ _ _
  apply wpAny_pure
  refine ⟨Code.quiet_builtin _ (by decide +kernel), codeAny_builtin F.entry_type_call ?_⟩
  rw [Around.under_plain (weight_type_call_type "set" [.ref l] []) rfl]
  repeat (any_goals (first | assumption | wp_step))
  refine codeAny_mono (code_set_led1 (.ref l) (E := E) (Q₁ := fun obj s₁ => obj = .ref s.heap.objs.size ∧ s₁ = { s with heap := s.heap.push (emptySet w) }) ⟨rfl, rfl⟩) fun r s₁ hr => ?_
  match r, hr with
  | .error _, hr => exact hr
  | .ok (.next), hr => exact hr.elim
  | .ok (.brk), hr => exact hr.elim
  | .ok (.cont), hr => exact hr.elim
  | .ok (.ret obj), hr =>
  obtain ⟨rfl, rfl⟩ := hr
  have hS : (s.heap.push (emptySet w)).get? s.heap.objs.size = some (emptySet w) := Heap.get?_push_size _ rfl
  have hT : Shared.TypeIs { s with heap := s.heap.push (emptySet w) } (.ref s.heap.objs.size) "set" := ⟨_, hS, rfl⟩
  have hli := F.called_set.init.lookup
  have hbi := F.called_set.init.bind (.ref s.heap.objs.size)
  repeat (any_goals (first | assumption | wp_step))
  refine codeAny_mono (codeAny_call_builtin (R := wants (fun r s₂ => r = .none ∧ ∃ h' tk L es ep t, s₂ = { s with heap := h', toks := tk } ∧ SetE e h' s.heap.objs.size L es ep t ∧ Tkn ks ks.length L ∧ (∀ b o, s.heap.get? b = some o → h'.get? b = some o)) E) F.called_set.init.plain F.entry_set_init (check_set_init_1 hT ?_)) fun r₂ s₂ hr₂ => ?_
  · obtain ⟨⟨oc, od, oda, os⟩, hol, hcl, nl, hdl⟩ := hl
    simp only at hcl hdl
    subst hcl hdl
    have k1 := F.sub_list_set
    have k2 := F.sub_list_frozenset
    have k3 : (Value.type "list" == Value.type "dict") = false := by decide
    have hol' : (s.heap.push (emptySet w)).get? l = some { cls := .type "list", dict := od, data := .seq items nl, slots := os } := Heap.get?_push_of_some _ hol
    have hl1 : (s.heap.push (emptySet w)).IsList l items := ⟨_, hol', rfl, nl, rfl⟩
    have hlS : l < s.heap.objs.size := Heap.lt_size hol
    unfold Builtin.«set.__init__» noKeywords Builtin.Frozenset.updateFrom
    generalize hPI : pyIter = PI
    wp_walk
    subst hPI
    refine wpAny_pyIter_list hl1 ?_
    apply wpAny_bind
    apply wpAny_runValue
    have hh3 : A.in1.in1.in1.handled = none := by simp [hh]
    have hz : (s.heap.push (emptySet w)).objs.size = s.heap.objs.size + 1 := Heap.size_push ..
    refine take_all (e := e) ((Walks.list hh3 _ l (by rw [hz]; exact Nat.ne_of_lt (Nat.lt_succ_of_lt hlS)) items).toS) s.heap.objs.size (by rw [hz]; simp only [List.mem_cons, List.not_mem_nil, or_false, not_or]; exact ⟨Nat.ne_of_lt (Nat.lt_succ_self _), Nat.ne_of_gt hlS⟩) ks hsz few (fun i v hv => ?_) s.heap hk (hfresh _ (Nat.le_refl _))
      (fun b hb => hfresh b (by rw [List.mem_singleton.mp hb, hz]; exact Nat.le_succ _)) hu (items.size - 0) 0 _ rfl (Nat.zero_le _) ⟨⟨_, Heap.get?_push_size _ rfl, rfl, rfl⟩, hl1.push _⟩ (fun b o z => Heap.get?_push_of_some _ (Heap.get?_push_of_some _ z)) ?_ ?_
    · have q : items.toList[i]? = some v := by rw [Array.getElem?_toList]; exact hv
      rw [hit, List.getElem?_map] at q
      obtain ⟨p, hp, rfl⟩ := Option.map_eq_some_iff.mp q
      exact ⟨p, hp, rfl⟩
    · exact ⟨[], #[], 0, _, setE_new (Heap.get?_push_of_some _ hS), Tkn.start ks⟩
    · rintro ⟨h', g2, d', tk', os'⟩ L es ep t hm hE g hq
      obtain rfl : g2 = s.gens := hm.gens
      obtain rfl : d' = s.drawn := hm.drawn
      obtain rfl : os' = s.os := hm.os
      rw [hsz] at g
      show wpAny _ _ _ _ _ _
      apply wpAny_pure
      show wpAny _ _ (ret Value.none) _ _ _
      exact wpAny_pure ⟨rfl, h', tk', L, es, ep, t, rfl, hE, g, hq⟩
  · match r₂, hr₂ with
    | .error _, hr₂ => exact hr₂
    | .ok (.next), hr₂ => exact hr₂.elim
    | .ok (.brk), hr₂ => exact hr₂.elim
    | .ok (.cont), hr₂ => exact hr₂.elim
    | .ok (.ret r), hr₂ =>
    obtain ⟨rfl, h', tk, L, es, ep, t, rfl, hE, g, hq⟩ := hr₂
    repeat (any_goals (first | assumption | wp_step))
    exact h _ _ _ _ _ _ hE g hq
end
end SX

set_option Elab.async false
set_option linter.all false
set_option maxRecDepth 100000
/-! SXq: sets of tuples of numbers and texts; len(set(xs)). -/
namespace SX
open PySem PySem.Spec L2 PyProof.Rows
section
variable {P : Program} {w : World}
theorem key_cases {k : Key} {v : Value} (h : (mixKind P w).is k v = true) : (∃ i t, v = .int i t) ∨ (∃ x t, v = .str x t) := by
  rcases keyIs_shape h with ⟨i, t, _, rfl⟩ | ⟨x, t, _, rfl⟩
  · exact .inl ⟨i, t, rfl⟩
  · exact .inr ⟨x, t, rfl⟩
theorem keys_cases {ks : List Key} {vs : List Value} (h : ItemsAre (mixKind P w) ks vs) : ∀ v ∈ vs, (∃ i t, v = Value.int i t) ∨ (∃ x t, v = Value.str x t) := by
  induction h with
  | nil => intro v hv; cases hv
  | cons h1 _ ih =>
    intro v hv
    rcases List.mem_cons.mp hv with rfl | hv
    · exact key_cases h1
    · exact ih v hv
theorem leaf_cls (n : Nat) {v : Value} (h : (∃ i t, v = Value.int i t) ∨ (∃ x t, v = Value.str x t)) : ofAClassStatement n v = pure false := by
  rcases h with ⟨i, t, rfl⟩ | ⟨x, t, rfl⟩ <;> cases n <;> rfl
theorem leaf_hash (n : Nat) {v : Value} (h : (∃ i t, v = Value.int i t) ∨ (∃ x t, v = Value.str x t)) : ∃ b, hashByValue n v = pure b := by
  rcases h with ⟨i, t, rfl⟩ | ⟨x, t, rfl⟩ <;> cases n <;> exact ⟨_, rfl⟩
def tupE (P : Program) (w : World) : Elem P w (List Key) where
  is := IsTupleKey (mixKind P w)
  code := tupleKeyHash (mixKind P w)
  toks := fun k => k.length + 1
  eqB := fun hu h1 h2 q => wpAny_eqBool_tuple hu h1 h2 q
  hash := fun hu h q => wpAny_pyHash_tuple hu h q
  quiet := fun h q => wpAny_eqIsQuiet_tuple h q
  noCls := fun {A E s x a Q} hk q => by
    have hT := hk.typeIs
    obtain ⟨o, items, n, ho, _, hd, hi⟩ := hk
    unfold ofAClassStatement
    apply wpAny_bind
    apply wpAny_typeOf hT
    dsimp only
    rw [if_pos (by decide)]
    apply wpAny_bind
    apply wpAny_pure
    rw [if_neg (by decide)]
    try (apply wpAny_bind; apply wpAny_pure)
    apply wpAny_bind
    apply wpAny_seqItems ho hd
    dsimp only
    apply wpAny_bind
    rw [← Array.forIn_toList]
    refine wpAny_forIn_list _ (fun left r s' => (r.1 = none ∧ s' = s) ∧ ∀ v ∈ left, (∃ i t, v = Value.int i t) ∨ (∃ x t, v = Value.str x t)) _ ?_ ?_ _ _ ⟨⟨rfl, rfl⟩, keys_cases hi⟩
    · rintro v left r s' ⟨⟨hr, rfl⟩, hall⟩
      rw [leaf_cls _ (hall v List.mem_cons_self)]
      apply wpAny_bind
      apply wpAny_pure
      rw [if_neg (by decide)]
      exact wpAny_pure ⟨⟨rfl, rfl⟩, fun u hu => hall u (List.mem_cons_of_mem _ hu)⟩
    · rintro ⟨r1, r2⟩ s' ⟨⟨hr, rfl⟩, _⟩
      cases (show r1 = none from hr)
      exact wpAny_pure q
  byVal := fun {A E s x a Q} hk q => by
    have hT := hk.typeIs
    obtain ⟨o, items, n, ho, _, hd, hi⟩ := hk
    unfold hashByValue
    apply wpAny_bind
    apply wpAny_specialOf hT F.slot_tuple_hash.lookup
    show wpAny _ _ (seqItems? (.ref a) >>= _) _ _ s
    apply wpAny_bind
    apply wpAny_seqItems ho hd
    apply wpAny_bind
    show wpAny _ _ (forIn items _ _) _ _ s
    rw [← Array.forIn_toList]
    refine wpAny_forIn_list _ (fun left r s' => (∀ b, r.1 = some b → left = []) ∧ s' = s ∧ ∀ v ∈ left, (∃ i t, v = Value.int i t) ∨ (∃ x t, v = Value.str x t)) _ ?_ ?_ _ _ ⟨fun b hb => (by cases hb), rfl, keys_cases hi⟩
    · rintro v left r s' ⟨hr, rfl, hall⟩
      obtain ⟨b, hb⟩ := leaf_hash 7 (hall v List.mem_cons_self)
      rw [hb]
      apply wpAny_bind
      apply wpAny_pure
      cases b
      · rw [if_pos (show (!false) = true from rfl)]
        exact wpAny_pure (wpAny_pure (q false))
      · rw [if_neg (show ¬ (!true) = true by decide)]
        exact wpAny_pure ⟨fun b hb => (by cases hb), rfl, fun u hu => hall u (List.mem_cons_of_mem _ hu)⟩
    · rintro ⟨r1, r2⟩ s' ⟨hr, rfl, _⟩
      cases r1 with
      | none => exact wpAny_pure (q true)
      | some b => exact wpAny_pure (q b)
  but := fun {h h' x b a o es ep t} hk ho hd hs => by
    obtain ⟨o2, items, n, ho2, h3, h4, h5⟩ := hk
    have hne : b ≠ a := fun z => by
      subst z
      rw [ho] at ho2
      cases ho2
      rw [hd] at h4
      cases h4
    exact ⟨o2, items, n, by rw [hs.2 b hne]; exact ho2, h3, h4, h5⟩
  keep := fun hk hs => by
    obtain ⟨o2, items, n, ho2, h3⟩ := hk
    exact ⟨o2, items, n, hs _ _ ho2, h3⟩
end
def keyV : Key → V
  | .inl i => .int i
  | .inr x => .str x
theorem items_keys {P : Program} {w : World} : ∀ {k : List Key} {us : List Value}, Vals (k.map keyV) us → ItemsAre (mixKind P w) k us
  | [], _, .nil => .nil
  | .inl i :: k, _, .cons r t => by
    obtain ⟨tk, rfl⟩ := (show ∃ t, _ = Value.int i t from r)
    exact .cons (mixKind_int P w i tk) (items_keys t)
  | .inr x :: k, _, .cons r t => by
    obtain ⟨tk, rfl⟩ := (show ∃ t, _ = Value.str x t from r)
    exact .cons (mixKind_str P w x tk) (items_keys t)
theorem refs_vals {κ : Type} : ∀ {ks : List (Addr × κ)} {us : List Value}, Vals (ks.map fun p => V.ref p.1) us → us = ks.map fun p => Value.ref p.1
  | [], _, .nil => rfl
  | p :: ks, _, .cons r t => by
    have r : _ = Value.ref p.1 := r
    rw [r, refs_vals t]
    rfl
def tLenSetE (K : PySem.W.Frag) (ta : TE) : TE := fun σ H Q => ta σ H fun x H1 => ∃ (l : Addr) (ks : List (Addr × List Key)), x = .ref l ∧ SqL K H1 l (ks.map fun p => V.ref p.1) ∧ (∀ p ∈ ks, SqT K H1 p.1 (p.2.map keyV)) ∧ ks.length ≤ 60 ∧ Q (.int ((uniq (ks.map (·.2))).length : Nat)) H1
theorem pe_lenSetE {X : Cx} {K : PySem.W.Frag} (hK : X.K = K) {a : Expr} {ta : TE} {p p2 q pos : Pos} (hu : X.A.units + 65 < cLine) (hg : Gl X "len") (hm : X.mg "len" = none) (hg2 : Gl X "set") (hm2 : X.mg "set" = none) (ha : PE X a ta) (hc : X.calm = true := by rfl)
    (na : starEach [a] X.env = (false, eval a X.env) :: starEach [] X.env := by rfl) : PE X (.Call (.Name "len" p) [.Call (.Name "set" p2) [a] [] q] [] pos) (tLenSetE K ta) := by
  subst hK
  constructor
  intro pins s σ H Q I h
  apply Call_ (ld_blt I hg hm boot_len ?_)
  refine callWith_builtin1 (args_cons ?_ rfl) rfl rfl
  apply Call_ (ld_blt I hg2 hm2 boot_set ?_)
  refine callWith_type1 (args_cons (thn (ha.run pins s σ H _ I h) fun v s1 z => args_nil ?_) na) na rfl
  obtain ⟨x, H1, I1, r1, l, ks, rfl, hl, hk, few, hq⟩ := z
  cases r1
  obtain ⟨its, rv, pl, hz⟩ := I1.list hl
  refine call_setE (e := tupE X.prog X.w) ks (I1.ok.hd hc) pl.isList (by simpa using refs_vals rv) (fun p hp => ?_) few (by omega) fun h' tk L es ep t R g keep => ?_
  · obtain ⟨its2, r2, ⟨o, ho, hcl, n, hd⟩, _⟩ := I1.tuple (hk p hp)
    exact ⟨o, its2.toArray, n, ho, hcl, hd, by simpa using items_keys r2⟩
  · apply args_nil
    obtain ⟨o, ho, hex, hd⟩ := R.obj
    have hsz := R.esz (s := { s1 with heap := h', toks := tk })
    have hfit := R.fit (s := { s1 with heap := h', toks := tk })
    have I2 : Inv X pins σ H1 { s1 with heap := h', toks := tk } := I1.kept fun b o z => keep b o z
    have hcnt := g.count R.dif
    have hle := uniq_le (ks.map (·.2))
    rw [List.length_map] at hle
    refine call_len_set ho hex hd hfit (by rw [hsz, hcnt]; omega) ⟨.int _, H1, I2.tok _, ⟨_, rfl⟩, ?_⟩
    rw [hsz, hcnt]
    exact hq
end SX

set_option Elab.async false
set_option linter.all false
set_option maxRecDepth 100000
/-! SXr: zip of a list and a tuple. -/
namespace SX
open PySem PySem.Spec PyProof.Rows L2
/-- what walks over a list or a tuple, place by place -/
structure Trod (i l : Addr) (its : Array Value) where
  At : Nat → Heap → Prop
  keep : ∀ {k : Nat} {p q : Heap}, At k p → (∀ o, p.get? i = some o → q.get? i = some o) → (∀ o, p.get? l = some o → q.get? l = some o) → At k q
  live : ∀ {k : Nat} {p : Heap}, At k p → i < p.objs.size
  next : ∀ {prog : Program} {w : World} {A : Around} {E : Value → Shared → Prop} {s : Shared} {k : Nat} {x : Value} {Q : Value → Shared → Prop}, At k s.heap → its[k]? = some x → (∀ p, At (k + 1) p → Heap.SameBut i s.heap p → Q x { s with heap := p }) → wpAny (model prog w) A (Builtin.SmallTypes.nextOf (.ref i)) Q E s
  over : ∀ {prog : Program} {w : World} {A : Around} {E : Value → Shared → Prop} {s : Shared} {k : Nat} {Q : Value → Shared → Prop}, A.handled = none → At k s.heap → its[k]? = none → (∀ p e, Heap.ExtBut i s.heap p → (∃ o, p.get? e = some o ∧ o.cls = .type "StopIteration") → E (.ref e) { s with heap := p }) → wpAny (model prog w) A (Builtin.SmallTypes.nextOf (.ref i)) Q E s
def trodL {i l : Addr} {its : Array Value} (ne : l ≠ i) : Trod i l its where
  At := fun k p => p.IsListIter i l k ∧ p.IsList l its
  keep := fun h a b => ⟨h.1.at a, h.2.at b⟩
  live := fun h => by
    obtain ⟨_, e, _⟩ := h.1
    exact Heap.lt_size e
  next := fun h hx q => wpAny_nextOf_list_item h.1 h.2 hx fun p a b => q p ⟨a, h.2.extBut b.extBut ne⟩ b
  over := fun hh h hx q => wpAny_nextOf_list_end hh h.1 h.2 hx q
def trodT {i l : Addr} {its : Array Value} (ne : l ≠ i) : Trod i l its where
  At := fun k p => p.IsTupleIter i l k ∧ p.IsTuple l its
  keep := fun h a b => ⟨h.1.at a, let ⟨o, e, r⟩ := h.2; ⟨o, b _ e, r⟩⟩
  live := fun h => by
    obtain ⟨_, e, _⟩ := h.1
    exact Heap.lt_size e
  next := fun h hx q => RZ.nextOf_tuple_item h.1 h.2 hx fun p a b => q p ⟨a, h.2.extBut b.extBut ne⟩ b
  over := fun hh h hx q => RZ.nextOf_tuple_end hh h.1 h.2 hx q
section
variable {prog : Program} {w : World} {A : Around} {E : Value → Shared → Prop} {s : Shared} {u v r i j l m : Addr} {xs ys : Array Value} {k : Nat} {x y c d : Value}
/-- what the addresses of a zip are to each other -/
abbrev Asunder (u v r i j l m : Addr) : Prop := ZipApart u v r i j l m
theorem mixed_next (S : Trod i l xs) (R : Trod j m ys) {Q : Value → Shared → Prop} (D : Asunder u v r i j l m) (hu : IsZip s.heap u v r .none) (hv : IsPair s.heap v (.ref i) (.ref j)) (hr : IsPair s.heap r c d) (h1 : S.At k s.heap) (h2 : R.At k s.heap) (hx : xs[k]? = some x) (hy : ys[k]? = some y)
    (q : ∀ p, IsZip p u v r (rawInt s.heap.objs.size) → IsPair p r x y → S.At (k + 1) p → R.At (k + 1) p → IsPair p s.heap.objs.size x y → p.objs.size = s.heap.objs.size + 1 → (∀ b o, b ≠ u → b ≠ r → b ≠ i → b ≠ j → s.heap.get? b = some o → p.get? b = some o) → Q (.ref s.heap.objs.size) { s with heap := p }) :
    wpAny (model prog w) A (Builtin.«zip.__next__» ⟨[.ref u], []⟩) (fun f s' => ∃ b, f = .done (.ret b) ∧ Q b s') E s := by
  show wpAny _ _ (field (.ref u) 2 >>= _) _ _ _
  refine wpAny_bind (wpAny_field hu rfl (x := .bool false) rfl ?_); show wpAny _ _ (field (.ref u) 3 >>= _) _ _ _
  refine wpAny_bind (wpAny_field hu rfl (x := .ref v) rfl ?_)
  refine wpAny_bind (wpAny_seqItems hv rfl ?_); show wpAny _ _ (Builtin.SmallTypes.ownedTupleIsFree (.ref u) >>= _) _ _ _
  refine wpAny_bind ?_; unfold Builtin.SmallTypes.ownedTupleIsFree
  refine wpAny_bind (wpAny_field hu rfl (x := .none) rfl (wpAny_pure ?_)); simp only [if_true]
  refine wpAny_bind (wpAny_rule (wpAny_bind (wpAny_field hu rfl (x := .ref r) rfl (wpAny_bind (wpAny_setField_rec hu (by simp) fun p1 u1 b1 => ?_)))))
  replace u1 : IsZip p1 u v r .ellipsis := u1
  refine wpAny_bind ?_; simp only [List.forIn_cons, List.zipIdx_cons, List.forIn_nil, List.zipIdx_nil]
  refine wpAny_bind (wpAny_bind (wpAny_onRaise ?_)); show wpAny _ _ (Builtin.SmallTypes.nextOf (.ref i) >>= _) _ _ _
  refine wpAny_bind (S.next (S.keep h1 (fun o e => b1.extBut _ _ D.i1z e) fun o e => b1.extBut _ _ D.l1z e) hx fun p2 t2 b2 => wpAny_pure ?_)
  have r2 : IsPair p2 r c d := b2.extBut _ _ D.TOi1 (b1.extBut _ _ D.TOz hr)
  refine wpAny_bind (wpAny_seqItems r2 rfl (wpAny_bind (wpAny_updateSeq_pair r2 fun p3 r3 b3 => ?_)))
  replace r3 : IsPair p3 r x d := r3
  refine wpAny_bind (wpAny_letGo (wpAny_pure (wpAny_bind (wpAny_bind (wpAny_onRaise ?_))))); show wpAny _ _ (Builtin.SmallTypes.nextOf (.ref j) >>= _) _ _ _
  have g2 : R.At k p3 := R.keep h2 (fun o e => b3.extBut _ _ D.TOi2.symm (b2.extBut _ _ D.i12.symm (b1.extBut _ _ D.i2z e))) fun o e => b3.extBut _ _ D.l2TO (b2.extBut _ _ D.l2i1 (b1.extBut _ _ D.l2z e))
  refine wpAny_bind (R.next g2 hy fun p4 t4 b4 => wpAny_pure ?_)
  have r4 : IsPair p4 r x d := b4.extBut _ _ D.TOi2 r3
  refine wpAny_bind (wpAny_seqItems r4 rfl (wpAny_bind (wpAny_updateSeq_pair r4 fun p5 r5 b5 => ?_)))
  replace r5 : IsPair p5 r x y := r5
  refine wpAny_bind (wpAny_letGo (wpAny_pure (wpAny_pure (wpAny_bind (wpAny_seqItems r5 rfl (wpAny_bind (wpAny_newTuple ?_)))))))
  have n5 : p5.objs.size = s.heap.objs.size := b5.1.trans (b4.1.trans (b3.1.trans (b2.1.trans b1.1)))
  have u5 : IsZip p5 u v r .ellipsis := b5.extBut u _ D.TOz.symm (b4.extBut u _ D.i2z.symm (b3.extBut u _ D.TOz.symm (b2.extBut u _ D.i1z.symm u1)))
  have k5 : ∀ b o, b ≠ u → b ≠ r → b ≠ i → b ≠ j → s.heap.get? b = some o → p5.get? b = some o := fun b o n1 n2 n3 n4 e => b5.extBut b o n2 (b4.extBut b o n4 (b3.extBut b o n2 (b2.extBut b o n3 (b1.extBut b o n1 e))))
  have s5 : S.At (k + 1) p5 := S.keep t2 (fun o e => b5.extBut i o D.TOi1.symm (b4.extBut i o D.i12 (b3.extBut i o D.TOi1.symm e))) fun o e => b5.extBut l o D.l1TO (b4.extBut l o D.l1i2 (b3.extBut l o D.l1TO e))
  have t5 : R.At (k + 1) p5 := R.keep t4 (fun o e => b5.extBut j o D.TOi2.symm e) fun o e => b5.extBut m o D.l2TO e
  show wpAny _ _ (Builtin.SmallTypes.ownedTupleHandOut (.ref u) (.ref p5.objs.size) >>= _) _ _ _
  refine wpAny_bind ?_; unfold Builtin.SmallTypes.ownedTupleHandOut
  have u6 : IsZip (p5.push { cls := .type "tuple", data := .seq #[x, y] }) u v r .ellipsis := Heap.get?_push_of_some (h := p5) (o := _) u5
  refine wpAny_bind (wpAny_setField_rec u6 (by simp) fun p7 u7 b7 => ?_)
  replace u7 : IsZip p7 u v r (rawInt p5.objs.size) := u7
  refine wpAny_setField_rec u7 (by simp) fun p8 u8 b8 => ?_
  replace u8 : IsZip p8 u v r (rawInt p5.objs.size) := u8
  have lift : ∀ b o, b ≠ u → p5.get? b = some o → p8.get? b = some o := fun b o n e => b8.extBut b o n (b7.extBut b o n (Heap.get?_push_of_some _ e))
  have lu : u < p5.objs.size := Heap.lt_size u5
  have new8 : IsPair p8 p5.objs.size x y := b8.extBut _ _ (Nat.ne_of_gt lu) (b7.extBut _ _ (Nat.ne_of_gt lu) (Heap.get?_push_size _ rfl))
  have n8 : p8.objs.size = p5.objs.size + 1 := by rw [b8.1, b7.1, Heap.size_push]
  rw [n5] at u8 new8 n8
  refine wpAny_pure ⟨_, rfl, ?_⟩
  show Q (.ref p5.objs.size) _
  rw [n5]
  exact q p8 u8 (lift r _ D.TOz r5) (S.keep s5 (fun o e => lift i o D.i1z e) fun o e => lift l o D.l1z e) (R.keep t5 (fun o e => lift j o D.i2z e) fun o e => lift m o D.l2z e) new8 n8 fun b o n1 n2 n3 n4 e => lift b o n1 (k5 b o n1 n2 n3 n4 e)
theorem mixed_over (S : Trod i l xs) (R : Trod j m ys) {Q : Fin → Shared → Prop} (hh : A.handled = none) (D : Asunder u v r i j l m) (hu : IsZip s.heap u v r .none) (hv : IsPair s.heap v (.ref i) (.ref j)) (hr : IsPair s.heap r c d) (h1 : S.At k s.heap) (h2 : R.At k s.heap) (he : xs[k]? = none ∨ ys[k]? = none)
    (q : ∀ p e, (∀ b o, b ≠ u → b ≠ r → b ≠ i → b ≠ j → s.heap.get? b = some o → p.get? b = some o) → (∃ o, p.get? e = some o ∧ o.cls = .type "StopIteration") → E (.ref e) { s with heap := p }) : wpAny (model prog w) A (Builtin.«zip.__next__» ⟨[.ref u], []⟩) Q E s := by
  show wpAny _ _ (field (.ref u) 2 >>= _) _ _ _
  refine wpAny_bind (wpAny_field hu rfl (x := .bool false) rfl ?_); show wpAny _ _ (field (.ref u) 3 >>= _) _ _ _
  refine wpAny_bind (wpAny_field hu rfl (x := .ref v) rfl ?_)
  refine wpAny_bind (wpAny_seqItems hv rfl ?_); show wpAny _ _ (Builtin.SmallTypes.ownedTupleIsFree (.ref u) >>= _) _ _ _
  refine wpAny_bind ?_; unfold Builtin.SmallTypes.ownedTupleIsFree
  refine wpAny_bind (wpAny_field hu rfl (x := .none) rfl (wpAny_pure ?_)); simp only [if_true]
  refine wpAny_bind (wpAny_rule (wpAny_bind (wpAny_field hu rfl (x := .ref r) rfl (wpAny_bind (wpAny_setField_rec hu (by simp) fun p1 u1 b1 => ?_)))))
  replace u1 : IsZip p1 u v r .ellipsis := u1
  refine wpAny_bind ?_; simp only [List.forIn_cons, List.zipIdx_cons, List.forIn_nil, List.zipIdx_nil]
  refine wpAny_bind (wpAny_bind (wpAny_onRaise ?_)); show wpAny _ _ (Builtin.SmallTypes.nextOf (.ref i) >>= _) _ _ _
  have s1 := S.keep h1 (fun o e => b1.extBut _ _ D.i1z e) fun o e => b1.extBut _ _ D.l1z e
  cases hx : xs[k]? with
  | none =>
    refine wpAny_bind (S.over hh s1 hx fun p2 e b2 ⟨oe, ge, ce⟩ => ?_)
    have u2 : IsZip p2 u v r .ellipsis := b2 u _ D.i1z.symm u1
    have ne : e ≠ u := by
      rintro rfl
      rw [u2] at ge
      cases ge
      simp at ce
    exact wpAny_setField_rec u2 (by simp) fun p3 _ b3 => q p3 e (fun b o n1 _ n3 _ g => b3.extBut b o n1 (b2 b o n3 (b1.extBut b o n1 g))) ⟨oe, b3.extBut e oe ne ge, ce⟩
  | some x =>
    have hy : ys[k]? = none := by
      rcases he with z | z
      · rw [hx] at z
        cases z
      · exact z
    refine wpAny_bind (S.next s1 hx fun p2 t2 b2 => wpAny_pure ?_)
    have r2 : IsPair p2 r c d := b2.extBut _ _ D.TOi1 (b1.extBut _ _ D.TOz hr)
    refine wpAny_bind (wpAny_seqItems r2 rfl (wpAny_bind (wpAny_updateSeq_pair r2 fun p3 r3 b3 => ?_)))
    refine wpAny_bind (wpAny_letGo (wpAny_pure (wpAny_bind (wpAny_bind (wpAny_onRaise ?_))))); show wpAny _ _ (Builtin.SmallTypes.nextOf (.ref j) >>= _) _ _ _
    have g2 : R.At k p3 := R.keep h2 (fun o e => b3.extBut _ _ D.TOi2.symm (b2.extBut _ _ D.i12.symm (b1.extBut _ _ D.i2z e))) fun o e => b3.extBut _ _ D.l2TO (b2.extBut _ _ D.l2i1 (b1.extBut _ _ D.l2z e))
    refine wpAny_bind (R.over hh g2 hy fun p4 e b4 ⟨oe, ge, ce⟩ => ?_)
    have u4 : IsZip p4 u v r .ellipsis := b4 u _ D.i2z.symm (b3.extBut u _ D.TOz.symm (b2.extBut u _ D.i1z.symm u1))
    have ne : e ≠ u := by
      rintro rfl
      rw [u4] at ge
      cases ge
      simp at ce
    exact wpAny_setField_rec u4 (by simp) fun p5 _ b5 => q p5 e (fun b o n1 n2 n3 n4 g => b5.extBut b o n1 (b4 b o n4 (b3.extBut b o n2 (b2.extBut b o n3 (b1.extBut b o n1 g))))) ⟨oe, b5.extBut e oe ne ge, ce⟩
theorem mixed_item (S : Trod i l xs) (R : Trod j m ys) {Q : Option Value → Shared → Prop} (D : Asunder u v r i j l m) (hu : IsZip s.heap u v r .none) (hv : IsPair s.heap v (.ref i) (.ref j)) (hr : IsPair s.heap r c d) (h1 : S.At k s.heap) (h2 : R.At k s.heap) (hx : xs[k]? = some x) (hy : ys[k]? = some y)
    (q : ∀ p, IsZip p u v r (rawInt s.heap.objs.size) → IsPair p r x y → S.At (k + 1) p → R.At (k + 1) p → IsPair p s.heap.objs.size x y → p.objs.size = s.heap.objs.size + 1 → (∀ b o, b ≠ u → b ≠ r → b ≠ i → b ≠ j → s.heap.get? b = some o → p.get? b = some o) → Q (some (.ref s.heap.objs.size)) { s with heap := p }) : wpAny (model prog w) A (pyNext (.ref u)) Q E s := by
  have t : s.TypeIs (.ref u) "zip" := ⟨_, hu, rfl⟩
  unfold pyNext
  exact wpAny_bind (wpAny_attempt (wpAny_callSpecial?_slot (name := Str.ofString "__next__") t F.slot_zip_next (wpAny_call_entry F.slot_zip_next t F.entry_zip_next (mixed_next S R D hu hv hr h1 h2 hx hy fun p a1 a2 a3 a4 a5 a6 a7 => wpAny_pure (q p a1 a2 a3 a4 a5 a6 a7)) (F.args_zip_next_1 _))))
theorem mixed_end (S : Trod i l xs) (R : Trod j m ys) {Q : Option Value → Shared → Prop} (hh : A.handled = none) (D : Asunder u v r i j l m) (hu : IsZip s.heap u v r .none) (hv : IsPair s.heap v (.ref i) (.ref j)) (hr : IsPair s.heap r c d) (h1 : S.At k s.heap) (h2 : R.At k s.heap) (he : xs[k]? = none ∨ ys[k]? = none)
    (q : ∀ p, (∀ b o, b ≠ u → b ≠ r → b ≠ i → b ≠ j → s.heap.get? b = some o → p.get? b = some o) → Q none { s with heap := p }) : wpAny (model prog w) A (pyNext (.ref u)) Q E s := by
  have t : s.TypeIs (.ref u) "zip" := ⟨_, hu, rfl⟩
  unfold pyNext
  refine wpAny_bind (wpAny_attempt (wpAny_callSpecial?_slot (name := Str.ofString "__next__") t F.slot_zip_next (wpAny_call_entry F.slot_zip_next t F.entry_zip_next (mixed_over S R hh D hu hv hr h1 h2 he fun p e hk ⟨o, go, co⟩ => ?_) (F.args_zip_next_1 _))))
  exact wpAny_bind (wpAny_isInstance (T := "StopIteration") (b := true) ⟨o, go, co⟩ isSubtype_stop (wpAny_pure (q p hk)))
end
/-! zip(list, tuple) is made -/
abbrev mz1 (h : Heap) (l : Addr) : Heap := h.push { cls := .type "list_iterator", data := .fields #[.ref l, .int 0 0] }
abbrev mz2 (h : Heap) (l m : Addr) : Heap := (mz1 h l).push { cls := .type "tuple_iterator", data := .fields #[.ref m, .int 0 0] }
abbrev mz3 (h : Heap) (l m : Addr) : Heap := (mz2 h l m).push { cls := .type "tuple", data := .seq #[.ref h.objs.size, .ref (mz1 h l).objs.size] }
abbrev mz4 (h : Heap) (l m : Addr) : Heap := (mz3 h l m).push { cls := .type "tuple", data := .seq #[.none, .none] }
abbrev mz5 (h : Heap) (l m : Addr) : Heap := (mz4 h l m).push { cls := .type "zip", data := .fields #[.none, .bool false, .bool false, .ref (mz2 h l m).objs.size, .ref (mz3 h l m).objs.size] }
theorem meets_mixed (l m : Addr) (xs ys : Array Value) : Meets (Builtin.«zip.__new__» ⟨[.type "zip", .ref l, .ref m], []⟩) (fun _ R s => s.heap.IsList l xs ∧ s.heap.IsTuple m ys ∧ R (.ok (.ret (.ref (mz4 s.heap l m).objs.size))) { s with heap := mz5 s.heap l m }) :=
  .of_wp fun prog w A R s h => by
    obtain ⟨p, g, d, tk, os⟩ := s
    obtain ⟨hl, hm, h⟩ := h
    have zz := sub_zip
    have a1 : Heap.IsList (Shared.heap ⟨p, g, d, tk, os⟩) l xs := hl
    have a2 : Heap.IsTuple (Shared.heap ⟨mz1 p l, g, d, tk, os⟩) m ys := Heap.IsTuple.push hm _
    wp_walk using wpAny_pyIter_list a1, wpAny_pyIter_tuple a2
    exact ⟨_, rfl, h⟩
theorem call_mixed {prog : Program} {w : World} {A : Around} {E : Value → Shared → Prop} {s : Shared} {l m : Addr} {xs ys : Array Value} {Q : Value → Shared → Prop} (hl : s.heap.IsList l xs) (hm : s.heap.IsTuple m ys)
    (q : ∀ p, IsZip p (s.heap.objs.size + 4) (s.heap.objs.size + 2) (s.heap.objs.size + 3) .none → IsPair p (s.heap.objs.size + 2) (.ref s.heap.objs.size) (.ref (s.heap.objs.size + 1)) → IsPair p (s.heap.objs.size + 3) .none .none → p.IsListIter s.heap.objs.size l 0 → p.IsTupleIter (s.heap.objs.size + 1) m 0 → p.objs.size = s.heap.objs.size + 5 → (∀ b o, s.heap.get? b = some o → p.get? b = some o) → Q (.ref (s.heap.objs.size + 4)) { s with heap := p }) :
    wpAny (model prog w) A (call (.type "zip") [.ref l, .ref m]) Q E s := by
  refine callType_new F.called_zip (by decide) (F.typeCall_zip_2 _ _) (F.newCall_zip_2 _ _) (fun o => F.args_object_init_3 o _ _) F.entry_zip_new (meets_mixed l m xs ys) ⟨hl, hm, ?_⟩
  have n1 : (mz1 s.heap l).objs.size = s.heap.objs.size + 1 := Heap.size_push ..
  have n2 : (mz2 s.heap l m).objs.size = s.heap.objs.size + 2 := (Heap.size_push ..).trans (congrArg (· + 1) n1)
  have n3 : (mz3 s.heap l m).objs.size = s.heap.objs.size + 3 := (Heap.size_push ..).trans (congrArg (· + 1) n2)
  have n4 : (mz4 s.heap l m).objs.size = s.heap.objs.size + 4 := (Heap.size_push ..).trans (congrArg (· + 1) n3)
  have n5 : (mz5 s.heap l m).objs.size = s.heap.objs.size + 5 := (Heap.size_push ..).trans (congrArg (· + 1) n4)
  have e5 : (mz5 s.heap l m).get? (mz4 s.heap l m).objs.size = some _ := Heap.get?_push_size _ rfl
  have e4 : (mz5 s.heap l m).get? (mz3 s.heap l m).objs.size = some _ := Heap.get?_push_of_some _ (Heap.get?_push_size _ rfl)
  have e3 : (mz5 s.heap l m).get? (mz2 s.heap l m).objs.size = some _ := Heap.get?_push_of_some _ (Heap.get?_push_of_some _ (Heap.get?_push_size _ rfl))
  have up : ∀ b o, (mz2 s.heap l m).get? b = some o → (mz5 s.heap l m).get? b = some o := fun b o e => Heap.get?_push_of_some _ (Heap.get?_push_of_some _ (Heap.get?_push_of_some _ e))
  have e2 : (mz5 s.heap l m).get? (mz1 s.heap l).objs.size = some _ := up _ _ (Heap.get?_push_size _ rfl)
  have e1 : (mz5 s.heap l m).get? s.heap.objs.size = some _ := up _ _ (Heap.get?_push_of_some _ (Heap.get?_push_size _ rfl))
  show _ ∧ _
  rw [n2, n3, n4] at e5
  rw [n1, n2] at e3
  rw [n3] at e4
  rw [n1] at e2
  rw [n4]
  exact ⟨⟨_, e5, rfl⟩, q _ e5 e3 e4 ⟨_, e1, rfl, rfl⟩ ⟨_, e2, rfl, rfl⟩ n5 fun b o z => up b o (Heap.get?_push_of_some _ (Heap.get?_push_of_some _ z))⟩
section
variable {K : PySem.W.Frag} {a b : Addr}
/-- the list at a and the tuple at b as they stand at each turn -/
def ItM (K : PySem.W.Frag) (a b : Addr) : It :=
  ⟨fun i H => ∃ (xs ys : List V) (x y : V), SqL K H a xs ∧ SqT K H b ys ∧ xs[i]? = some x ∧ ys[i]? = some y,
    fun i H v H' => ∃ T x y, v = .ref T ∧ H T = none ∧ H' = upd H T (.tup [x, y]) ∧ (∀ xs, SqL K H a xs → xs[i]? = some x) ∧ ∀ ys, SqT K H b ys → ys[i]? = some y,
    fun i H => ∃ xs ys : List V, (SqL K H a xs ∧ SqT K H b ys) ∧ (xs.length ≤ i ∨ ys.length ≤ i)⟩
theorem five {z v r i j c : Addr} (h : c ∈ [z, v, r, i, j]) : c = z ∨ c = v ∨ c = r ∨ c = i ∨ c = j := by simpa using h
theorem five_no {z v r i j c : Addr} (h : c ∉ [z, v, r, i, j]) : c ≠ z ∧ c ≠ v ∧ c ≠ r ∧ c ≠ i ∧ c ≠ j := by simpa using h
theorem turnM {P : Program} {w : World} {elts : List Expr} {kk : Nat} {tp : Pos} {z v r i j : Addr} (D : Asunder z v r i j a b) :
    Turn P w K (.Tuple elts kk tp) (ItM K a b) [z, v, r, i, j] z (fun k h => IsZip h z v r .none ∧ IsPair h v (.ref i) (.ref j) ∧ (∃ x y, IsPair h r x y) ∧ h.IsListIter i a k ∧ h.IsTupleIter j b k) where
  mem := List.mem_cons_self
  obj := fun k h st c hc => by
    obtain ⟨hz, hv, ⟨x, y, hr⟩, ⟨o1, e1, _, d1⟩, ⟨o2, e2, _, d2⟩⟩ := st
    rcases five hc with rfl | rfl | rfl | rfl | rfl
    · exact ⟨_, hz, fun v q => nomatch q⟩
    · exact ⟨_, hv, fun v q => nomatch q⟩
    · exact ⟨_, hr, fun v q => nomatch q⟩
    · exact ⟨o1, e1, fun v q => by rw [d1] at q; cases q⟩
    · exact ⟨o2, e2, fun v q => by rw [d2] at q; cases q⟩
  keep := fun k h h' st f => by
    obtain ⟨hz, hv, ⟨x, y, hr⟩, h1, h2⟩ := st
    exact ⟨f z (by simp) _ hz, f v (by simp) _ hv, ⟨x, y, f r (by simp) _ hr⟩, h1.at fun o q => f i (by simp) o q, h2.at fun o q => f j (by simp) o q⟩
  item := by
    intro X hP hw hK hc k pins s σ H E I hf st hg
    subst hP hw hK
    obtain ⟨hz, hv, ⟨x0, y0, hr⟩, h1, h2⟩ := st
    obtain ⟨xs, ys, x, y, qx, qy, hx, hy⟩ := hg
    obtain ⟨its, rv, p, _⟩ := I.list qx
    obtain ⟨its2, rv2, p2, _⟩ := I.tuple qy
    obtain ⟨u1, hu1, ru1⟩ := rv.get hx
    obtain ⟨u2, hu2, ru2⟩ := rv2.get hy
    have lz : z < s.heap.objs.size := Heap.lt_size hz
    refine mixed_item (trodL (its := its.toArray) D.l1i1) (trodT (its := its2.toArray) D.l2i2) D hz hv hr ⟨h1, p.isList⟩ ⟨h2, p2⟩ (x := u1) (y := u2) (by simpa using hu1) (by simpa using hu2) fun h' z' r' a1 a2 hT _ f => ?_
    refine ⟨_, rfl, wpAny_letOwnedTupleGo_zip (s := { s with heap := h' }) z' fun h3 z3 sb => ?_⟩
    have away : ∀ c, c ∉ [z, v, r, i, j] → ∀ o, s.heap.get? c = some o → h3.get? c = some o := fun c n o e => (sb.2 c (five_no n).1).trans (f c o (five_no n).1 (five_no n).2.2.1 (five_no n).2.2.2.1 (five_no n).2.2.2.2 e)
    have hT3 : h3.get? s.heap.objs.size = some { cls := .type "tuple", data := .seq #[u1, u2] } := (sb.2 _ (Nat.ne_of_gt lz)).trans hT
    have new : ObjOk X.prog X.w (upd H s.heap.objs.size (.tup [x, y])) h3 s.heap.objs.size (.tup [x, y]) := ⟨by show 2 ≤ sizeLine; decide, [u1, u2], .cons ru1 (.cons ru2 .nil), ⟨_, hT3, rfl, _, rfl⟩⟩
    have I1 : Inv X pins σ (upd H s.heap.objs.size (.tup [x, y])) { s with heap := h3 } := I.turnedNew (t' := s.toks) (ch := [z, v, r, i, j]) (fun c o n e => away c n o e) hf (Nat.le_refl _) new
    refine ⟨.ref s.heap.objs.size, _, I1, rfl, ⟨_, x, y, rfl, I.hok.fresh (Nat.le_refl _), rfl, fun l hl => by rw [I.list_inj hl qx]; exact hx, fun l hl => by rw [I.tuple_inj hl qy]; exact hy⟩, ⟨z3, ?_, ⟨u1, u2, ?_⟩, ?_, ?_⟩, fun c hcm => ?_⟩
    · exact (sb.2 _ D.TIz).trans (f _ _ D.TIz D.TITO D.TIi1 D.TIi2 hv)
    · exact (sb.2 _ D.TOz).trans r'
    · exact a1.1.at fun o q => (sb.2 _ D.i1z).trans q
    · exact a2.1.at fun o q => (sb.2 _ D.i2z).trans q
    · have lt : c < s.heap.objs.size := by
        rcases five hcm with rfl | rfl | rfl | rfl | rfl
        · exact lz
        · exact Heap.lt_size hv
        · exact Heap.lt_size hr
        · exact (trodL (its := its.toArray) D.l1i1).live ⟨h1, p.isList⟩
        · exact (trodT (its := its2.toArray) D.l2i2).live ⟨h2, p2⟩
      rw [upd_ne (Nat.ne_of_lt lt)]
      exact (hf c hcm).1
  done := by
    intro X hP hw hK hc k pins s σ H E I hf st hg
    subst hP hw hK
    obtain ⟨hz, hv, ⟨x0, y0, hr⟩, h1, h2⟩ := st
    obtain ⟨xs, ys, ⟨qx, qy⟩, hend⟩ := hg
    obtain ⟨its, rv, p, _⟩ := I.list qx
    obtain ⟨its2, rv2, p2, _⟩ := I.tuple qy
    have n1 := rv.length
    have n2 := rv2.length
    have he : its.toArray[k]? = none ∨ its2.toArray[k]? = none := hend.imp (fun q => by simp; omega) (fun q => by simp; omega)
    exact mixed_end (trodL (its := its.toArray) D.l1i1) (trodT (its := its2.toArray) D.l2i2) (I.ok.hd hc) D hz hv hr ⟨h1, p.isList⟩ ⟨h2, p2⟩ he fun h' f => ⟨rfl, I.turnedL (t' := s.toks) (ch := [z, v, r, i, j]) (fun c o n e => f c o (five_no n).1 (five_no n).2.2.1 (five_no n).2.2.2.1 (five_no n).2.2.2.2 e) hf⟩
  self := fun A k s Q E st h => wpAny_pyIter_zip st.1 h
def iZipM (K : PySem.W.Frag) (ta : TA) : TI := fun σ H R => ta σ H fun vs H1 => ∃ a b xs ys, vs = [.ref a, .ref b] ∧ (SqL K H1 a xs ∧ SqT K H1 b ys) ∧ R (ItM K a b) H1
theorem pi_zipM {X : Cx} {e e2 : Expr} {ta : TA} {p pos tp : Pos} {elts : List Expr} {kk : Nat} (hg : Gl X "zip") (hm : X.mg "zip" = none) (ha : PA X [e, e2] ta) (hs : starEach [e, e2] X.env = (false, eval e X.env) :: starEach [e2] X.env := by rfl) (hpl : (backTo pos (starEach [e2] X.env)).any (·.1) = false := by rfl) :
    PI X (.Tuple elts kk tp) (.Call (.Name "zip" p) [e, e2] [] pos) (iZipM X.K ta) := by
  refine ⟨fun pins s σ H R I h => Call_ (ld_blt I hg hm PyProof.Rows.boot_zip (PyProof.Rows.callWith_type1 (thn (ha.run pos pins s σ H _ I h) fun us s1 ⟨vs, H1, I1, r1, q1⟩ => ?_) hs hpl))⟩
  obtain ⟨a, b, xs, ys, rfl, ⟨qx, qy⟩, q⟩ := q1
  obtain ⟨u1, u2, rfl, z1, z2⟩ := vals2 r1
  cases (show u1 = Value.ref a from z1)
  cases (show u2 = Value.ref b from z2)
  obtain ⟨its, rv, p1, _⟩ := I1.list qx
  obtain ⟨its2, rv2, p2, _⟩ := I1.tuple qy
  have lb : b < s1.heap.objs.size := by
    obtain ⟨o, e, _⟩ := p2
    exact Heap.lt_size e
  refine call_mixed p1.isList (show s1.heap.IsTuple b its2.toArray from p2) fun h' hz hv hr h1 h2 _ f => wpAny_pyIter_zip hz ?_
  refine ⟨s1.heap.objs.size + 4, [s1.heap.objs.size + 4, s1.heap.objs.size + 2, s1.heap.objs.size + 3, s1.heap.objs.size, s1.heap.objs.size + 1], _, _, H1, rfl, I1.kept (t' := s1.toks) f, turnM (PySem.W.ktu_apart s1.heap.objs.size a b p1.lt lb), ⟨hz, hv, ⟨_, _, hr⟩, h1, h2⟩, fun c hc => ?_, q⟩
  have le : s1.heap.objs.size ≤ c := by rcases five hc with rfl | rfl | rfl | rfl | rfl <;> omega
  exact I1.fpOk le (I1.hok.fresh le)
theorem walkM {xs ys : List V} {n : Nat} (hn : n = min xs.length ys.length) : Walk (ItM K a b) n (fun H => SqL K H a xs ∧ SqT K H b ys) (YPair (fun i => xs[i]?) (fun i => ys[i]?)) := by
  subst hn
  refine ⟨fun i _ hi q => ?_, fun _ q => ⟨xs, ys, q, by omega⟩, fun i H v H' _ q ⟨T, x, z, h1, h2, h3, h4, h5⟩ => ⟨T, x, z, h1, h2, h3, h4 xs q.1, h5 ys q.2⟩⟩
  have l1 : i < xs.length := by omega
  have l2 : i < ys.length := by omega
  exact ⟨xs, ys, xs[i], ys[i], q.1, q.2, List.getElem?_eq_getElem l1, List.getElem?_eq_getElem l2⟩
end
end SX

namespace SX
open PySem PySem.Spec L2
section
variable {X : Cx} {C : Addr} {sp : Sp} {E : XK} {k : Nat} {f : Addr} {fd : FuncData} {ps : List Str} {CX : CXT}
/-- x not in o by the own __contains__ that hands back a bool -/
def rNinO (C : Addr) (sp : Sp) (E : XK) : R2 := fun x y H Q => ∃ a dx fs, y = .ref a ∧ H a = some (.ins C dx fs) ∧ sp [.ref a, x] H (fun v H2 => ∃ b : Bool, v = .bl b ∧ Q (.bl (!b)) H2) E
theorem op_ninO (hm : Meth X.K C "__contains__" f) (F : FnOk X.prog X.w X.K X.mg X.base CX k f fd ps sp) (hr : Room k X.A) (hb : Binds X.K fd ps []) (hx : Passes CX X E) : OpR X (compareOp .NotIn) (rNinO C sp E) := by
  intro pins s σ H x y v u Q I rx ry h
  obtain ⟨a, dx, fs, rfl, ea, q⟩ := h
  cases (show u = Value.ref a from ry)
  obtain ⟨mA, O, _⟩ := ins_get I.hok ea
  obtain ⟨od, J, _⟩ := O.look
  obtain ⟨m, fr⟩ := I.fr
  refine PySem.W.notIn_K fr I.ok.mod.kin J hm.at_ hm.fn (wpAny_mono (run_at F hr hb hx I (.cons (show RelV (.ref a) (.ref a) from rfl) (.cons rx .nil)) q) (fun u s1 h1 => ?_) fun _ _ e => e)
  obtain ⟨v, H2, I2, rv, b, rfl, q2⟩ := h1
  cases (show u = Value.bool b from rv)
  exact wpAny_truthy_bool ⟨.bl (!b), H2, I2, rfl, q2⟩
end
end SX

set_option Elab.async false
set_option linter.all false
set_option maxRecDepth 100000
/-! SYa: values by what is known of them: no heap is named. -/
namespace SY
open PySem PySem.Spec L2 SX

/-- what is known of a value, and stays so -/
structure Pr where
  p : Hp → V → Prop
  m : ∀ G G' v, Ex G G' → p G v → p G' v
/-- what is known of an object that is owned -/
structure Ob where
  p : Hp → HO → Prop
  m : ∀ G G' o, Ex G G' → p G o → p G' o
abbrev Mp := List (Addr × Ob)
abbrev En := List (Option Pr)
def D (K : PySem.W.Frag) (d : PyData) : Pr := ⟨fun G v => Dp K G v d, fun _ _ _ e h => dm h e⟩
def Av (a : Addr) : Pr := ⟨fun _ v => v = .ref a, fun _ _ _ _ h => h⟩
def Cv (x : V) : Pr := ⟨fun _ v => v = x, fun _ _ _ _ h => h⟩
def OL (K : PySem.W.Frag) (ds : List PyData) : Ob := ⟨fun G o => ∃ vs, o = .lst vs ∧ DpAll K G vs ds, fun _ _ _ e h => by obtain ⟨vs, h1, h2⟩ := h; exact ⟨vs, h1, dma h2 e⟩⟩
def DKo (D : Deck) : Ob := ⟨fun _ o => o = D.ho, fun _ _ _ _ h => h⟩

def Sl (G : Hp) (σ : L2.St) (δ : En) : Prop := σ.length = δ.length ∧ ∀ (k : Nat) (P : Pr), δ[k]? = some (some P) → ∃ v, σ[k]? = some (some v) ∧ P.p G v
def Mm (G : Hp) : Mem → Mp → Prop
  | [], [] => True
  | m :: M, q :: μ => (m.1 = q.1 ∧ q.2.p G m.2) ∧ Mm G M μ
  | _, _ => False
abbrev AP (G : Hp) (Ps : List Pr) (vs : List V) : Prop := AllP G (Ps.map Pr.p) vs

section
variable {G G' : Hp} {σ : L2.St} {δ δ' : En} {M M1 M2 : Mem} {μ μ1 μ2 : Mp} {P : Pr} {v : V} {k i : Nat} {Ps : List Pr} {vs : List V}
theorem Sl.mono (h : Sl G σ δ) (e : Ex G G') : Sl G' σ δ := ⟨h.1, fun k P hk => by obtain ⟨v, h1, h2⟩ := h.2 k P hk; exact ⟨v, h1, P.m _ _ _ e h2⟩⟩
theorem Sl.get (h : Sl G σ δ) (hk : δ[k]? = some (some P)) : ∃ v, σ[k]? = some (some v) ∧ P.p G v := h.2 k P hk
theorem Sl.set (h : Sl G σ δ) (hp : P.p G v) : Sl G (σ.set k (some v)) (δ.set k (some P)) := ⟨by simp [h.1], fun j Q hj => by
  rw [List.getElem?_set] at hj ⊢
  split at hj
  · rename_i e
    subst e
    rw [if_pos rfl]
    split at hj
    · rename_i hl
      cases hj
      rw [if_pos (by rw [h.1]; exact hl)]
      exact ⟨v, rfl, hp⟩
    · cases hj
  · rename_i e
    rw [if_neg e]
    exact h.2 j Q hj⟩
theorem Sl.none (h : Sl G σ δ) : Sl G σ (δ.set k Option.none) := ⟨by simp [h.1], fun j Q hj => by
  rw [List.getElem?_set] at hj
  split at hj
  · split at hj <;> cases hj
  · exact h.2 j Q hj⟩
theorem Sl.none2 (h : Sl G σ δ) : Sl G (σ.set k Option.none) (δ.set k Option.none) := ⟨by simp [h.1], fun j Q hj => by
  rw [List.getElem?_set] at hj ⊢
  split at hj
  · split at hj <;> cases hj
  · rename_i e
    rw [if_neg e]
    exact h.2 j Q hj⟩
/-- less is known of the slots -/
def Le (δ δ' : En) : Prop := δ.length = δ'.length ∧ ∀ (k : Nat) (P : Pr), δ'[k]? = some (some P) → ∃ P0 : Pr, δ[k]? = some (some P0) ∧ ∀ G v, P0.p G v → P.p G v
theorem Sl.le (h : Sl G σ δ) (l : Le δ δ') : Sl G σ δ' := ⟨h.1.trans l.1, fun k P hk => by
  obtain ⟨P0, h1, h2⟩ := l.2 k P hk
  obtain ⟨v, h3, h4⟩ := h.2 k P0 h1
  exact ⟨v, h3, h2 _ _ h4⟩⟩
theorem Le.nil : Le [] [] := ⟨rfl, fun k P h => by simp at h⟩
theorem Le.same {p : Option Pr} (l : Le δ δ') : Le (p :: δ) (p :: δ') := ⟨by simp [l.1], fun k P h => by
  cases k with
  | zero => exact ⟨P, h, fun _ _ z => z⟩
  | succ k => exact l.2 k P h⟩
theorem Le.drop {p : Option Pr} (l : Le δ δ') : Le (p :: δ) (Option.none :: δ') := ⟨by simp [l.1], fun k P h => by
  cases k with
  | zero => cases h
  | succ k => exact l.2 k P h⟩
theorem Le.imp {p p' : Pr} (hp : ∀ G v, p.p G v → p'.p G v) (l : Le δ δ') : Le (some p :: δ) (some p' :: δ') := ⟨by simp [l.1], fun k P h => by
  cases k with
  | zero => cases h; exact ⟨p, rfl, hp⟩
  | succ k => exact l.2 k P h⟩
theorem Le.refl : ∀ δ : En, Le δ δ := fun δ => ⟨rfl, fun k P h => ⟨P, h, fun _ _ z => z⟩⟩
def wipeY (δ : En) : List Nat → En
  | [] => δ
  | v :: vs => (wipeY δ vs).set v Option.none
theorem Sl.wipe (h : Sl G σ δ) : ∀ vs : List Nat, Sl G (L2.wipe σ vs) (wipeY δ vs)
  | [] => h
  | _ :: vs => (Sl.wipe h vs).none2
theorem wipe_get {σ : L2.St} {j : Nat} : ∀ {vs : List Nat}, (wipe σ vs)[j]? = if j ∈ vs ∧ j < σ.length then some Option.none else σ[j]?
  | [] => by simp [wipe]
  | v :: vs => by
    unfold wipe
    rw [List.getElem?_set, wipe_get (vs := vs)]
    by_cases h : v = j
    · subst h
      by_cases hl : v < σ.length
      · simp [wipe_length, hl]
      · simp [wipe_length, hl, Nat.not_lt.mp hl]
    · simp [h, Ne.symm h]
/-- slots that differ only at these -/
def Same (σ σ' : L2.St) (vs : List Nat) : Prop := σ'.length = σ.length ∧ ∀ j, j ∉ vs → σ'[j]? = σ[j]?
theorem Same.refl (σ : L2.St) (vs : List Nat) : Same σ σ vs := ⟨rfl, fun _ _ => rfl⟩
theorem Same.trans {σ σ1 σ2 : L2.St} {vs : List Nat} (a : Same σ σ1 vs) (b : Same σ1 σ2 vs) : Same σ σ2 vs := ⟨b.1.trans a.1, fun j h => (b.2 j h).trans (a.2 j h)⟩
theorem Same.set {σ : L2.St} {vs : List Nat} {x : Option V} (h : k ∈ vs) : Same σ (σ.set k x) vs := ⟨by simp, fun j hj => List.getElem?_set_ne fun e => hj (by rw [← e]; exact h)⟩
theorem Same.wipe {σ σ' : L2.St} {vs : List Nat} (h : Same σ σ' vs) : wipe σ' vs = wipe σ vs := by
  apply List.ext_getElem?
  intro j
  rw [wipe_get, wipe_get, h.1]
  by_cases hj : j ∈ vs
  · by_cases hl : j < σ.length
    · simp [hj, hl]
    · have : σ'.length ≤ j := by rw [h.1]; omega
      simp [hj, hl, List.getElem?_eq_none this, List.getElem?_eq_none (Nat.not_lt.mp hl)]
  · simp [hj, h.2 j hj]
theorem wipe_wipe {σ : L2.St} {vs : List Nat} : wipe (wipe σ vs) vs = wipe σ vs := by
  apply List.ext_getElem?
  intro j
  rw [wipe_get, wipe_get, wipe_length]
  split <;> rfl

theorem Mm.mono : ∀ {M : Mem} {μ : Mp}, Mm G M μ → Ex G G' → Mm G' M μ
  | [], [], _, _ => trivial
  | _ :: _, q :: _, h, e => ⟨⟨h.1.1, q.2.m _ _ _ e h.1.2⟩, Mm.mono h.2 e⟩
  | [], _ :: _, h, _ => h.elim
  | _ :: _, [], h, _ => h.elim
theorem Mm.app : ∀ {M1 : Mem} {μ1 : Mp}, Mm G M1 μ1 → Mm G M2 μ2 → Mm G (M1 ++ M2) (μ1 ++ μ2)
  | [], [], _, h => h
  | _ :: _, _ :: _, h, h2 => ⟨h.1, Mm.app h.2 h2⟩
  | [], _ :: _, h, _ => h.elim
  | _ :: _, [], h, _ => h.elim
theorem Mm.cut : ∀ {μ1 : Mp} {M : Mem}, Mm G M (μ1 ++ μ2) → ∃ M1 M2, M = M1 ++ M2 ∧ Mm G M1 μ1 ∧ Mm G M2 μ2
  | [], M, h => ⟨[], M, rfl, trivial, h⟩
  | _ :: _, [], h => h.elim
  | _ :: _, m :: M, h => by
    obtain ⟨M1, M2, rfl, h1, h2⟩ := Mm.cut h.2
    exact ⟨m :: M1, M2, rfl, ⟨h.1, h1⟩, h2⟩
theorem Mm.get {a : Addr} {q : Ob} : ∀ {μ : Mp} {M : Mem} {i : Nat}, Mm G M μ → μ[i]? = some (a, q) → ∃ o, M[i]? = some (a, o) ∧ q.p G o
  | [], [], _, _, h => by simp at h
  | [], _ :: _, _, h, _ => h.elim
  | _ :: _, [], _, h, _ => h.elim
  | _ :: _, m :: _, 0, h, e => by
    cases e
    obtain ⟨b, o⟩ := m
    obtain ⟨⟨rfl, h2⟩, _⟩ := h
    exact ⟨o, rfl, h2⟩
  | _ :: _, _ :: _, i + 1, h, e => Mm.get (i := i) h.2 e
theorem Mm.set {a : Addr} {q q' : Ob} {o : HO} (hq : q'.p G o) : ∀ {μ : Mp} {M : Mem} {i : Nat}, Mm G M μ → μ[i]? = some (a, q) → Mm G (M.set i (a, o)) (μ.set i (a, q'))
  | [], [], _, _, h => by simp at h
  | [], _ :: _, _, h, _ => h.elim
  | _ :: _, [], _, h, _ => h.elim
  | _ :: _, _ :: _, 0, h, _ => ⟨⟨rfl, hq⟩, h.2⟩
  | _ :: _, _ :: _, i + 1, h, e => ⟨h.1, Mm.set hq (i := i) h.2 e⟩
theorem Mm.sub : ∀ {μ' μ : Mp}, μ'.Sublist μ → ∀ {M : Mem}, Mm G M μ → ∃ M', M'.Sublist M ∧ Mm G M' μ'
  | _, _, .slnil, [], h => ⟨[], .slnil, h⟩
  | _, _, .slnil, _ :: _, h => h.elim
  | _, _, .cons _ s, [], h => h.elim
  | _, _, .cons _ s, _ :: _, h => by
    obtain ⟨M', h1, h2⟩ := Mm.sub s h.2
    exact ⟨M', h1.cons _, h2⟩
  | _, _, .cons_cons _ s, [], h => h.elim
  | _, _, .cons_cons _ s, m :: _, h => by
    obtain ⟨M', h1, h2⟩ := Mm.sub s h.2
    exact ⟨m :: M', h1.cons_cons _, h.1, h2⟩
theorem Mm.sing {a : Addr} {q : Ob} (h : Mm G M [(a, q)]) : ∃ o, M = [(a, o)] ∧ q.p G o := by
  match M, h with
  | [(b, o)], h =>
    obtain ⟨⟨rfl, h2⟩, _⟩ := h
    exact ⟨o, rfl, h2⟩
theorem Mm.nil (h : Mm G M []) : M = [] := by
  match M, h with
  | [], _ => rfl
theorem AP.mono : ∀ {Ps : List Pr} {vs : List V}, AP G Ps vs → Ex G G' → AP G' Ps vs
  | [], [], _, _ => trivial
  | P :: _, _ :: _, h, e => ⟨P.m _ _ _ e h.1, AP.mono h.2 e⟩
  | [], _ :: _, h, _ => h.elim
  | _ :: _, [], h, _ => h.elim
theorem AP.len : ∀ {Ps : List Pr} {vs : List V}, AP G Ps vs → vs.length = Ps.length
  | [], [], _ => rfl
  | _ :: _, _ :: _, h => by simp [AP.len h.2]
  | [], _ :: _, h => h.elim
  | _ :: _, [], h => h.elim
theorem AP.get : ∀ {Ps : List Pr} {vs : List V} {i : Nat} {P : Pr}, AP G Ps vs → Ps[i]? = some P → ∃ v, vs[i]? = some v ∧ P.p G v
  | [], _, _, _, _, e => by simp at e
  | _ :: _, [], _, _, h, _ => h.elim
  | _ :: _, v :: _, 0, _, h, e => by cases e; exact ⟨v, rfl, h.1⟩
  | _ :: _, _ :: _, i + 1, _, h, e => AP.get (i := i) h.2 e
theorem AP.dpa {K : PySem.W.Frag} : ∀ {ds : List PyData} {vs : List V}, AP G (ds.map (D K)) vs → DpAll K G vs ds
  | [], [], _ => .nil
  | _ :: _, _ :: _, h => .cons h.1 (AP.dpa h.2)
  | [], _ :: _, h => h.elim
  | _ :: _, [], h => h.elim
end

/-! ### judgements -/
def E1 (te : TE) (δ : En) (μ : Mp) (P : Pr) (μ' : Mp) : Prop := ∀ σ G M, Sl G σ δ → Mm G M μ → Ev te σ G M (fun G' v M' => P.p G' v ∧ Mm G' M' μ')
def EY (te : TE) (δ : En) (μ : Mp) (R : Pr → Mp → Prop) : Prop := ∀ σ G M, Sl G σ δ → Mm G M μ → Ev te σ G M (fun G' v M' => ∃ P μ', R P μ' ∧ P.p G' v ∧ Mm G' M' μ')
def T1 (tt : TT) (δ : En) (μ : Mp) (b : Bool) (μ' : Mp) : Prop := ∀ σ G M, Sl G σ δ → Mm G M μ → ∀ G1 H F, Ex G G1 → Me G1 (M ++ F) H → ∀ Q : Bool → Hp → Prop, (∀ G2 M2 H2, Ex G1 G2 → Me G2 (M2 ++ F) H2 → Mm G2 M2 μ' → Q b H2) → tt σ H Q
def EA (ta : TA) (δ : En) (μ : Mp) (Ps : List Pr) (μ' : Mp) : Prop := ∀ σ G M, Sl G σ δ → Mm G M μ → ∀ G1 H F, Ex G G1 → Me G1 (M ++ F) H → ∀ Q : List V → Hp → Prop, (∀ vs G2 M2 H2, Ex G1 G2 → Me G2 (M2 ++ F) H2 → AP G2 Ps vs → Mm G2 M2 μ' → Q vs H2) → ta σ H Q
/-- a new list, owned -/
def EO (K : PySem.W.Frag) (te : TE) (δ : En) (μ : Mp) (ds : List PyData) (μ' : Mp) : Prop := ∀ σ G M, Sl G σ δ → Mm G M μ → Ev te σ G M (fun G' v M' => ∃ p vs M0, v = .ref p ∧ M' = M0 ++ [(p, .lst vs)] ∧ DpAll K G' vs ds ∧ Mm G' M0 μ')
/-- a list (tuple) that can be read -/
def LR (K : PySem.W.Frag) (P : Pr) (μ : Mp) (ds : List PyData) : Prop := ∀ G v M, P.p G v → Mm G M μ → ∃ a xs, v = .ref a ∧ AtL K G M a xs ∧ DpAll K G xs ds
theorem LR.at {K : PySem.W.Frag} {P : Pr} {μ : Mp} {ds : List PyData} (h : LR K P μ ds) (G : Hp) (v : V) (M F : Mem) (H : Hp) (p : P.p G v) (mm : Mm G M μ) (m : Me G (M ++ F) H) : ∃ a xs, v = .ref a ∧ SqL K H a xs ∧ DpAll K G xs ds := by
  obtain ⟨a, xs, h1, h2, h3⟩ := h G v M p mm
  exact ⟨a, xs, h1, h2 G H F (Ex.refl _) m, h3⟩
def TR (K : PySem.W.Frag) (P : Pr) (ds : List PyData) : Prop := ∀ G v, P.p G v → ∃ a xs, v = .ref a ∧ SqT K G a xs ∧ DpAll K G xs ds
/-- data that can be read -/
def DR (K : PySem.W.Frag) (P : Pr) (μ : Mp) (d : PyData) : Prop := ∀ G v M F H, P.p G v → Mm G M μ → Me G (M ++ F) H → Dp K H v d
section
variable {K : PySem.W.Frag} {te ta tb tc : TE} {tt tu : TT} {tA tr : TA} {δ δ' : En} {μ μ' μ0 μ1 μ2 μ3 : Mp} {P P1 P2 P3 : Pr} {Ps : List Pr} {R : Pr → Mp → Prop} {d e : PyData} {ds es : List PyData} {i j : Int} {a b c : Bool} {k : Nat} {ad : Addr} {s t : Str}
theorem lr_D : LR K (D K (.list ds)) μ ds := fun G v M p _ => by
  obtain ⟨a, xs, rfl, h1, h2⟩ := dp_lst p
  exact ⟨a, xs, rfl, .G h1, h2⟩
theorem lr_O (i : Nat) (h : μ[i]? = some (ad, OL K ds)) : LR K (Av ad) μ ds := fun G v M p mm => by
  obtain ⟨o, h1, vs, rfl, h2⟩ := mm.get h
  exact ⟨ad, vs, p, .M h1, h2⟩
theorem tr_D : TR K (D K (.tuple ds)) ds := fun G v p => dp_tup p
theorem dr_D : DR K (D K d) μ d := fun G v M F H p _ m => dm p m.ex
theorem dr_L (h : LR K P μ ds) : DR K P μ (.list ds) := fun G v M F H p mm m => by
  obtain ⟨a, xs, rfl, h1, h2⟩ := h.at G v M F H p mm m
  exact .lst h1 (dma h2 m.ex)

theorem E1.imp (h : E1 te δ μ P μ') (f : ∀ G v, P.p G v → P1.p G v) : E1 te δ μ P1 μ' := fun σ G M s m => (h σ G M s m).imp fun G1 v M1 _ r => ⟨f _ _ r.1, r.2⟩
theorem E1.le (h : E1 te δ' μ P μ') (l : Le δ δ') : E1 te δ μ P μ' := fun σ G M s m => h σ G M (s.le l) m
theorem E1.y (h : E1 te δ μ P μ') : EY te δ μ (fun Q μ2 => Q = P ∧ μ2 = μ') := fun σ G M s m => (h σ G M s m).imp fun G1 v M1 _ r => ⟨P, μ', ⟨rfl, rfl⟩, r.1, r.2⟩
theorem EY.one (h : EY te δ μ (fun Q μ2 => Q = P ∧ μ2 = μ')) : E1 te δ μ P μ' := fun σ G M s m => (h σ G M s m).imp fun G1 v M1 _ r => by
  obtain ⟨_, _, ⟨rfl, rfl⟩, r1, r2⟩ := r
  exact ⟨r1, r2⟩
theorem EY.imp {R' : Pr → Mp → Prop} (h : EY te δ μ R) (f : ∀ P μ', R P μ' → R' P μ') : EY te δ μ R' := fun σ G M s m => (h σ G M s m).imp fun G1 v M1 _ r => by
  obtain ⟨P, μ', r0, r1, r2⟩ := r
  exact ⟨P, μ', f _ _ r0, r1, r2⟩
theorem EO.own (h : EO K te δ μ ds μ') : EY te δ μ (fun P μ2 => ∃ a, P = Av a ∧ μ2 = μ' ++ [(a, OL K ds)]) := fun σ G M s m => (h σ G M s m).imp fun G1 v M1 _ r => by
  obtain ⟨p, vs, M0, rfl, rfl, r1, r2⟩ := r
  exact ⟨Av p, _, ⟨p, rfl, rfl⟩, rfl, Mm.app r2 ⟨⟨rfl, vs, rfl, r1⟩, trivial⟩⟩
theorem EO.frz (h : EO K te δ μ ds μ') : E1 te δ μ (D K (.list ds)) μ' := fun σ G M s m G1 H F e m1 Q q => (h σ G M s m) G1 H F e m1 Q fun v G2 M2 H2 e2 m2 r => by
  obtain ⟨p, vs, M0, rfl, rfl, r1, r2⟩ := r
  obtain ⟨m3, e3⟩ := m2.freezeLast
  exact q _ _ M0 H2 (e2.trans e3) m3 ⟨.lst (SqL.of upd_same) (dma r1 e3), r2.mono e3⟩

theorem e_var (h : δ[k]? = some (some P)) : E1 (tVar k) δ μ P μ := fun σ G M s m G1 H F e m1 Q q => by
  obtain ⟨v, h1, h2⟩ := s.get h
  exact ⟨v, h1, q v G1 M H (Ex.refl _) m1 ⟨P.m _ _ _ e h2, m.mono e⟩⟩
theorem e_cst {x : V} (h : ∀ G, P.p G x) : E1 (tC x) δ μ P μ := fun σ G M s m G1 H F e m1 Q q => q x G1 M H (Ex.refl _) m1 ⟨h _, m.mono e⟩
theorem e_cI : E1 (tC (.int i)) δ μ (D K (.int i)) μ := e_cst fun _ => .int i
theorem e_cS : E1 (tC (.str s)) δ μ (D K (.str s)) μ := e_cst fun _ => .str s
theorem e_cB : E1 (tC (.bl b)) δ μ (D K (.bool b)) μ := e_cst fun _ => .bl b
theorem e_cN : E1 (tC .non) δ μ (D K .none) μ := e_cst fun _ => .non
/-- one, another, an operation on both -/
theorem e_op {r : R2} (h1 : E1 ta δ μ P1 μ1) (h2 : E1 tb δ μ1 P2 μ2) (hr : ∀ G H F M x y, Me G (M ++ F) H → Mm G M μ2 → P1.p G x → P2.p G y → ∀ Q : VK, (∀ v G2 M2 H2, Ex G G2 → Me G2 (M2 ++ F) H2 → P.p G2 v → Mm G2 M2 μ3 → Q v H2) → r x y H Q) : E1 (tOp r ta tb) δ μ P μ3 := fun σ G M s m G1 H F e m1 Q q =>
  h1 σ G M s m G1 H F e m1 _ fun x G2 M2 H2 e2 m2 r2 => h2 σ G2 M2 (s.mono (e.trans e2)) r2.2 G2 H2 F (Ex.refl _) m2 _ fun y G3 M3 H3 e3 m3 r3 =>
    hr G3 H3 F M3 x y m3 r3.2 (P1.m _ _ _ e3 r2.1) r3.1 Q fun v G4 M4 H4 e4 m4 p4 mm4 => q v G4 M4 H4 ((e2.trans e3).trans e4) m4 ⟨p4, mm4⟩
/-- .. by values -/
theorem e_opD {r : R2} (h1 : E1 ta δ μ (D K d) μ1) (h2 : E1 tb δ μ1 (D K e) μ2) (hr : ∀ G H x y, Dp K G x d → Dp K G y e → ∀ Q : VK, (∀ v, P.p G v → Q v H) → r x y H Q) : E1 (tOp r ta tb) δ μ P μ2 :=
  e_op h1 h2 fun G H F M x y m mm p1 p2 Q q => hr G H x y p1 p2 Q fun v pv => q v G M H (Ex.refl _) m pv mm
theorem e_I {C : Int → Int → Prop} {g : Int → Int → V} (h1 : E1 ta δ μ (D K (.int i)) μ1) (h2 : E1 tb δ μ1 (D K (.int j)) μ2) (hc : C i j) (hg : ∀ G, P.p G (g i j)) : E1 (tOp (rI C g) ta tb) δ μ P μ2 :=
  e_opD h1 h2 fun G H x y p1 p2 Q q => by
    rw [dp_int p1, dp_int p2]
    exact ⟨i, j, rfl, rfl, hc, q _ (hg G)⟩
theorem e_I0 {g : Int → Int → V} (h1 : E1 ta δ μ (D K (.int i)) μ1) (h2 : E1 tb δ μ1 (D K (.int j)) μ2) (hg : ∀ G, P.p G (g i j)) : E1 (tOp (rI0 g) ta tb) δ μ P μ2 :=
  e_opD h1 h2 fun G H x y p1 p2 Q q => by
    rw [dp_int p1, dp_int p2]
    exact ⟨i, j, rfl, rfl, q _ (hg G)⟩
theorem e_add (h1 : E1 ta δ μ (D K (.int i)) μ1) (h2 : E1 tb δ μ1 (D K (.int j)) μ2) : E1 (tOp (rI0 fun i j => .int (i + j)) ta tb) δ μ (D K (.int (i + j))) μ2 := e_I0 h1 h2 fun _ => .int _
theorem e_sub (h1 : E1 ta δ μ (D K (.int i)) μ1) (h2 : E1 tb δ μ1 (D K (.int j)) μ2) : E1 (tOp (rI0 fun i j => .int (i - j)) ta tb) δ μ (D K (.int (i - j))) μ2 := e_I0 h1 h2 fun _ => .int _
theorem e_mul (h1 : E1 ta δ μ (D K (.int i)) μ1) (h2 : E1 tb δ μ1 (D K (.int j)) μ2) (hc : CMul i j) : E1 (tOp (rI CMul fun i j => .int (i * j)) ta tb) δ μ (D K (.int (i * j))) μ2 := e_I h1 h2 hc fun _ => .int _
theorem e_mulW (h1 : E1 ta δ μ (D K (.int i)) μ1) (h2 : E1 tb δ μ1 (D K (.int j)) μ2) (hc : CMulW i j) : E1 (tOp (rI CMulW fun i j => .int (i * j)) ta tb) δ μ (D K (.int (i * j))) μ2 := e_I h1 h2 hc fun _ => .int _
theorem e_mod (h1 : E1 ta δ μ (D K (.int i)) μ1) (h2 : E1 tb δ μ1 (D K (.int j)) μ2) (hc : 0 < j) : E1 (tOp (rI (fun _ j => 0 < j) fun i j => .int (i % j)) ta tb) δ μ (D K (.int (i % j))) μ2 := e_I h1 h2 hc fun _ => .int _
theorem e_div (h1 : E1 ta δ μ (D K (.int i)) μ1) (h2 : E1 tb δ μ1 (D K (.int j)) μ2) (hc : CDivW i j) : E1 (tOp (rI CDivW fun i j => .int (i / j)) ta tb) δ μ (D K (.int (i / j))) μ2 := e_I h1 h2 hc fun _ => .int _
theorem e_pow (h1 : E1 ta δ μ (D K (.int i)) μ1) (h2 : E1 tb δ μ1 (D K (.int j)) μ2) (hc : CPow i j) : E1 (tOp (rI CPow fun i j => .int (i ^ j.toNat)) ta tb) δ μ (D K (.int (i ^ j.toNat))) μ2 := e_I h1 h2 hc fun _ => .int _
theorem e_lt (h1 : E1 ta δ μ (D K (.int i)) μ1) (h2 : E1 tb δ μ1 (D K (.int j)) μ2) : E1 (tOp (rI0 fun i j => .bl (decide (i < j))) ta tb) δ μ (D K (.bool (decide (i < j)))) μ2 := e_I0 h1 h2 fun _ => .bl _
theorem e_le (h1 : E1 ta δ μ (D K (.int i)) μ1) (h2 : E1 tb δ μ1 (D K (.int j)) μ2) : E1 (tOp (rI0 fun i j => .bl (decide (i ≤ j))) ta tb) δ μ (D K (.bool (decide (i ≤ j)))) μ2 := e_I0 h1 h2 fun _ => .bl _
theorem e_gt (h1 : E1 ta δ μ (D K (.int i)) μ1) (h2 : E1 tb δ μ1 (D K (.int j)) μ2) : E1 (tOp (rI0 fun i j => .bl (decide (j < i))) ta tb) δ μ (D K (.bool (decide (j < i)))) μ2 := e_I0 h1 h2 fun _ => .bl _
theorem e_ge (h1 : E1 ta δ μ (D K (.int i)) μ1) (h2 : E1 tb δ μ1 (D K (.int j)) μ2) : E1 (tOp (rI0 fun i j => .bl (decide (j ≤ i))) ta tb) δ μ (D K (.bool (decide (j ≤ i)))) μ2 := e_I0 h1 h2 fun _ => .bl _
theorem e_eqI (h1 : E1 ta δ μ (D K (.int i)) μ1) (h2 : E1 tb δ μ1 (D K (.int j)) μ2) : E1 (tOp rEq ta tb) δ μ (D K (.bool (decide (i = j)))) μ2 :=
  e_opD h1 h2 fun G H x y p1 p2 Q q => by
    rw [dp_int p1, dp_int p2]
    exact ⟨rfl, q _ (by rw [show decide (V.int i = V.int j) = decide (i = j) by rw [decide_eq_decide]; exact ⟨fun h => by cases h; rfl, fun h => by rw [h]⟩]; exact .bl _)⟩
theorem e_neI (h1 : E1 ta δ μ (D K (.int i)) μ1) (h2 : E1 tb δ μ1 (D K (.int j)) μ2) : E1 (tOp rNe ta tb) δ μ (D K (.bool (!decide (i = j)))) μ2 :=
  e_opD h1 h2 fun G H x y p1 p2 Q q => by
    rw [dp_int p1, dp_int p2]
    exact ⟨rfl, q _ (by rw [show decide (V.int i = V.int j) = decide (i = j) by rw [decide_eq_decide]; exact ⟨fun h => by cases h; rfl, fun h => by rw [h]⟩]; exact .bl _)⟩
theorem e_eqS (h1 : E1 ta δ μ (D K (.str s)) μ1) (h2 : E1 tb δ μ1 (D K (.str t)) μ2) : E1 (tOp rEq ta tb) δ μ (D K (.bool (decide (s = t)))) μ2 :=
  e_opD h1 h2 fun G H x y p1 p2 Q q => by
    rw [dp_str p1, dp_str p2]
    exact ⟨rfl, q _ (by rw [show decide (V.str s = V.str t) = decide (s = t) by rw [decide_eq_decide]; exact ⟨fun h => by cases h; rfl, fun h => by rw [h]⟩]; exact .bl _)⟩
theorem e_neS (h1 : E1 ta δ μ (D K (.str s)) μ1) (h2 : E1 tb δ μ1 (D K (.str t)) μ2) : E1 (tOp rNe ta tb) δ μ (D K (.bool (!decide (s = t)))) μ2 :=
  e_opD h1 h2 fun G H x y p1 p2 Q q => by
    rw [dp_str p1, dp_str p2]
    exact ⟨rfl, q _ (by rw [show decide (V.str s = V.str t) = decide (s = t) by rw [decide_eq_decide]; exact ⟨fun h => by cases h; rfl, fun h => by rw [h]⟩]; exact .bl _)⟩
/-- scalars of unlike kinds are unlike -/
theorem e_eqNS (h1 : E1 ta δ μ (D K .none) μ1) (h2 : E1 tb δ μ1 (D K (.str t)) μ2) : E1 (tOp rEq ta tb) δ μ (D K (.bool false)) μ2 :=
  e_opD h1 h2 fun G H x y p1 p2 Q q => by
    rw [dp_non p1, dp_str p2]
    exact ⟨rfl, q _ (.bl _)⟩
theorem e_eqIS (h1 : E1 ta δ μ (D K (.int i)) μ1) (h2 : E1 tb δ μ1 (D K (.str t)) μ2) : E1 (tOp rEq ta tb) δ μ (D K (.bool false)) μ2 :=
  e_opD h1 h2 fun G H x y p1 p2 Q q => by
    rw [dp_int p1, dp_str p2]
    exact ⟨rfl, q _ (.bl _)⟩
theorem e_eqB (h1 : E1 ta δ μ (D K (.bool a)) μ1) (h2 : E1 tb δ μ1 (D K (.bool b)) μ2) : E1 (tOp rEq ta tb) δ μ (D K (.bool (decide (a = b)))) μ2 :=
  e_opD h1 h2 fun G H x y p1 p2 Q q => by
    rw [dp_bl p1, dp_bl p2]
    exact ⟨rfl, q _ (by rw [show decide (V.bl a = V.bl b) = decide (a = b) by rw [decide_eq_decide]; exact ⟨fun h => by cases h; rfl, fun h => by rw [h]⟩]; exact .bl _)⟩
theorem e_eqD (h1 : E1 ta δ μ P1 μ1) (h2 : E1 tb δ μ1 P2 μ2) (r1 : DR K P1 μ2 d) (r2 : DR K P2 μ2 e) (s1 : SeqAt.shaped d = true) (s2 : SeqAt.shaped e = true) (hb : PyData.eqv d e = b) : E1 (tOp (rEqD K) ta tb) δ μ (D K (.bool b)) μ2 :=
  e_op h1 h2 fun G H F M x y m mm p1 p2 Q q => ⟨d, e, r1 G x M F H p1 mm m, r2 G y M F H p2 mm m, s1, s2, by rw [hb]; exact q _ G M H (Ex.refl _) m (.bl _) mm⟩
theorem e_neD (h1 : E1 ta δ μ P1 μ1) (h2 : E1 tb δ μ1 P2 μ2) (r1 : DR K P1 μ2 d) (r2 : DR K P2 μ2 e) (s1 : SeqAt.shaped d = true) (s2 : SeqAt.shaped e = true) (hb : PyData.eqv d e = b) : E1 (tOp (rNeD K) ta tb) δ μ (D K (.bool (!b))) μ2 :=
  e_op h1 h2 fun G H F M x y m mm p1 p2 Q q => ⟨d, e, r1 G x M F H p1 mm m, r2 G y M F H p2 mm m, s1, s2, by rw [hb]; exact q _ G M H (Ex.refl _) m (.bl _) mm⟩
theorem e_inD (h1 : E1 ta δ μ P1 μ1) (h2 : E1 tb δ μ1 P2 μ2) (r1 : DR K P1 μ2 d) (r2 : DR K P2 μ2 (.list ds)) (s1 : SeqAt.shaped d = true) (s2 : SeqAt.shaped (.list ds) = true) (hb : (ds.any fun z => PyData.eqv z d) = b) : E1 (tOp (rInD K) ta tb) δ μ (D K (.bool b)) μ2 :=
  e_op h1 h2 fun G H F M x y m mm p1 p2 Q q => ⟨d, ds, r1 G x M F H p1 mm m, r2 G y M F H p2 mm m, s1, s2, by rw [hb]; exact q _ G M H (Ex.refl _) m (.bl _) mm⟩
theorem e_ninD (h1 : E1 ta δ μ P1 μ1) (h2 : E1 tb δ μ1 P2 μ2) (r1 : DR K P1 μ2 d) (r2 : DR K P2 μ2 (.list ds)) (s1 : SeqAt.shaped d = true) (s2 : SeqAt.shaped (.list ds) = true) (hb : (ds.any fun z => PyData.eqv z d) = b) : E1 (tOp (rNotInD K) ta tb) δ μ (D K (.bool (!b))) μ2 :=
  e_op h1 h2 fun G H F M x y m mm p1 p2 Q q => ⟨d, ds, r1 G x M F H p1 mm m, r2 G y M F H p2 mm m, s1, s2, by rw [hb]; exact q _ G M H (Ex.refl _) m (.bl _) mm⟩
def isNon : PyData → Bool
  | .none => true
  | _ => false
theorem dp_isNon {G : Hp} {v : V} (h : Dp K G v d) : decide (v = .non) = isNon d := by cases h <;> rfl
theorem e_un {r : V → Hp → VK → Prop} (h : E1 ta δ μ P1 μ1) (hr : ∀ G H F M x, Me G (M ++ F) H → Mm G M μ1 → P1.p G x → ∀ Q : VK, (∀ v G2 M2 H2, Ex G G2 → Me G2 (M2 ++ F) H2 → P.p G2 v → Mm G2 M2 μ2 → Q v H2) → r x H Q) : E1 (tUn r ta) δ μ P μ2 := fun σ G M s m G1 H F e m1 Q q =>
  h σ G M s m G1 H F e m1 _ fun x G2 M2 H2 e2 m2 r2 => hr G2 H2 F M2 x m2 r2.2 r2.1 Q fun v G4 M4 H4 e4 m4 p4 mm4 => q v G4 M4 H4 (e2.trans e4) m4 ⟨p4, mm4⟩
theorem e_neg (h : E1 ta δ μ (D K (.int i)) μ1) : E1 (tUn (rU fun i => .int (-i)) ta) δ μ (D K (.int (-i))) μ1 := e_un h fun G H F M x m mm p Q q => by
  rw [dp_int p]
  exact ⟨i, rfl, q _ G M H (Ex.refl _) m (.int _) mm⟩
theorem e_isN (h : E1 ta δ μ (D K d) μ1) : E1 (tIsN ta) δ μ (D K (.bool (isNon d))) μ1 := fun σ G M s m G1 H F e m1 Q q => h σ G M s m G1 H F e m1 _ fun x G2 M2 H2 e2 m2 r2 => q _ G2 M2 H2 e2 m2 ⟨by rw [dp_isNon r2.1]; exact .bl _, r2.2⟩
theorem e_notN (h : E1 ta δ μ (D K d) μ1) : E1 (tNotN ta) δ μ (D K (.bool (!isNon d))) μ1 := fun σ G M s m G1 H F e m1 Q q => h σ G M s m G1 H F e m1 _ fun x G2 M2 H2 e2 m2 r2 => q _ G2 M2 H2 e2 m2 ⟨by rw [dp_isNon r2.1]; exact .bl _, r2.2⟩
theorem e_isNP (h : E1 ta δ μ P μ1) (hn : ∀ G v, P.p G v → v ≠ .non) : E1 (tIsN ta) δ μ (D K (.bool false)) μ1 := fun σ G M s m G1 H F e m1 Q q => h σ G M s m G1 H F e m1 _ fun x G2 M2 H2 e2 m2 r2 => q _ G2 M2 H2 e2 m2 ⟨by rw [decide_eq_false (hn _ _ r2.1)]; exact .bl _, r2.2⟩
theorem e_notNP (h : E1 ta δ μ P μ1) (hn : ∀ G v, P.p G v → v ≠ .non) : E1 (tNotN ta) δ μ (D K (.bool true)) μ1 := fun σ G M s m G1 H F e m1 Q q => h σ G M s m G1 H F e m1 _ fun x G2 M2 H2 e2 m2 r2 => q _ G2 M2 H2 e2 m2 ⟨by rw [decide_eq_false (hn _ _ r2.1)]; exact .bl _, r2.2⟩
theorem e_and (h1 : E1 ta δ μ (D K (.bool a)) μ1) (h2 : a = true → E1 tb δ μ1 (D K (.bool b)) μ1) : E1 (tAndV ta tb) δ μ (D K (.bool (a && b))) μ1 := fun σ G M s m G1 H F e m1 Q q => h1 σ G M s m G1 H F e m1 _ fun x G2 M2 H2 e2 m2 r2 => by
  rw [dp_bl r2.1]
  refine ⟨a, rfl, ?_⟩
  cases a with
  | true =>
    rw [if_pos rfl]
    exact h2 rfl σ G2 M2 (s.mono (e.trans e2)) r2.2 G2 H2 F (Ex.refl _) m2 Q fun v G3 M3 H3 e3 m3 r3 => q v G3 M3 H3 (e2.trans e3) m3 r3
  | false =>
    rw [if_neg Bool.false_ne_true]
    exact q _ G2 M2 H2 e2 m2 ⟨.bl false, r2.2⟩
theorem e_or (h1 : E1 ta δ μ (D K (.bool a)) μ1) (h2 : a = false → E1 tb δ μ1 (D K (.bool b)) μ1) : E1 (tOrV ta tb) δ μ (D K (.bool (a || b))) μ1 := fun σ G M s m G1 H F e m1 Q q => h1 σ G M s m G1 H F e m1 _ fun x G2 M2 H2 e2 m2 r2 => by
  rw [dp_bl r2.1]
  refine ⟨a, rfl, ?_⟩
  cases a with
  | true =>
    rw [if_pos rfl]
    exact q _ G2 M2 H2 e2 m2 ⟨.bl true, r2.2⟩
  | false =>
    rw [if_neg Bool.false_ne_true]
    exact h2 rfl σ G2 M2 (s.mono (e.trans e2)) r2.2 G2 H2 F (Ex.refl _) m2 Q fun v G3 M3 H3 e3 m3 r3 => q v G3 M3 H3 (e2.trans e3) m3 r3
theorem e_not (h1 : E1 ta δ μ (D K (.bool a)) μ1) : E1 (tNotV ta) δ μ (D K (.bool (!a))) μ1 := fun σ G M s m G1 H F e m1 Q q => h1 σ G M s m G1 H F e m1 _ fun x G2 M2 H2 e2 m2 r2 => by
  rw [dp_bl r2.1]
  exact ⟨a, rfl, q _ G2 M2 H2 e2 m2 ⟨.bl _, r2.2⟩⟩
/-! tests -/
theorem t_B (h : E1 te δ μ (D K (.bool a)) μ1) : T1 (tB te) δ μ a μ1 := fun σ G M s m G1 H F e m1 Q q => h σ G M s m G1 H F e m1 _ fun x G2 M2 H2 e2 m2 r2 => by
  rw [dp_bl r2.1]
  exact ⟨a, rfl, q G2 M2 H2 e2 m2 r2.2⟩
theorem t_test (h : E1 te δ μ (D K (.bool a)) μ1) : T1 (tTest te) δ μ a μ1 := fun σ G M s m G1 H F e m1 Q q => h σ G M s m G1 H F e m1 _ fun x G2 M2 H2 e2 m2 r2 => by
  rw [dp_bl r2.1]
  exact ⟨a, rfl, q G2 M2 H2 e2 m2 r2.2⟩
theorem t_yes : T1 tYes δ μ true μ := fun σ G M s m G1 H F e m1 Q q => q G1 M H (Ex.refl _) m1 (m.mono e)
theorem t_not (h : T1 tt δ μ a μ1) : T1 (tNot tt) δ μ (!a) μ1 := fun σ G M s m G1 H F e m1 Q q => h σ G M s m G1 H F e m1 _ fun G2 M2 H2 e2 m2 r2 => q G2 M2 H2 e2 m2 r2
theorem t_and (h1 : T1 tt δ μ a μ1) (h2 : a = true → T1 tu δ μ1 b μ1) : T1 (tAnd tt tu) δ μ (a && b) μ1 := fun σ G M s m G1 H F e m1 Q q => h1 σ G M s m G1 H F e m1 _ fun G2 M2 H2 e2 m2 r2 => by
  cases a with
  | true =>
    show (if true = true then _ else _)
    rw [if_pos rfl]
    exact h2 rfl σ G2 M2 (s.mono (e.trans e2)) r2 G2 H2 F (Ex.refl _) m2 Q fun G3 M3 H3 e3 m3 r3 => q G3 M3 H3 (e2.trans e3) m3 r3
  | false =>
    show (if false = true then _ else _)
    rw [if_neg Bool.false_ne_true]
    exact q G2 M2 H2 e2 m2 r2
theorem t_or (h1 : T1 tt δ μ a μ1) (h2 : a = false → T1 tu δ μ1 b μ1) : T1 (tOr tt tu) δ μ (a || b) μ1 := fun σ G M s m G1 H F e m1 Q q => h1 σ G M s m G1 H F e m1 _ fun G2 M2 H2 e2 m2 r2 => by
  cases a with
  | true =>
    show (if true = true then _ else _)
    rw [if_pos rfl]
    exact q G2 M2 H2 e2 m2 r2
  | false =>
    show (if false = true then _ else _)
    rw [if_neg Bool.false_ne_true]
    exact h2 rfl σ G2 M2 (s.mono (e.trans e2)) r2 G2 H2 F (Ex.refl _) m2 Q fun G3 M3 H3 e3 m3 r3 => q G3 M3 H3 (e2.trans e3) m3 r3
/-- the first is true (false), the second may change what is owned -/
theorem t_andM (h1 : T1 tt δ μ a μ1) (h2 : a = true → T1 tu δ μ1 b μ2) : T1 (tAnd tt tu) δ μ (a && b) (bif a then μ2 else μ1) := fun σ G M s m G1 H F e m1 Q q => h1 σ G M s m G1 H F e m1 _ fun G2 M2 H2 e2 m2 r2 => by
  cases a with
  | true =>
    show (if true = true then _ else _)
    rw [if_pos rfl]
    exact h2 rfl σ G2 M2 (s.mono (e.trans e2)) r2 G2 H2 F (Ex.refl _) m2 Q fun G3 M3 H3 e3 m3 r3 => q G3 M3 H3 (e2.trans e3) m3 r3
  | false =>
    show (if false = true then _ else _)
    rw [if_neg Bool.false_ne_true]
    exact q G2 M2 H2 e2 m2 r2
theorem t_orM (h1 : T1 tt δ μ a μ1) (h2 : a = false → T1 tu δ μ1 b μ2) : T1 (tOr tt tu) δ μ (a || b) (bif a then μ1 else μ2) := fun σ G M s m G1 H F e m1 Q q => h1 σ G M s m G1 H F e m1 _ fun G2 M2 H2 e2 m2 r2 => by
  cases a with
  | true =>
    show (if true = true then _ else _)
    rw [if_pos rfl]
    exact q G2 M2 H2 e2 m2 r2
  | false =>
    show (if false = true then _ else _)
    rw [if_neg Bool.false_ne_true]
    exact h2 rfl σ G2 M2 (s.mono (e.trans e2)) r2 G2 H2 F (Ex.refl _) m2 Q fun G3 M3 H3 e3 m3 r3 => q G3 M3 H3 (e2.trans e3) m3 r3
/-- a if t else b -/
theorem e_if (h : T1 tt δ μ a μ1) (h1 : a = true → E1 ta δ μ1 P μ2) (h2 : a = false → E1 tb δ μ1 P μ2) : E1 (tIf tt ta tb) δ μ P μ2 := fun σ G M s m G1 H F e m1 Q q => h σ G M s m G1 H F e m1 _ fun G2 M2 H2 e2 m2 r2 => by
  cases a with
  | true =>
    show (if true = true then _ else _)
    rw [if_pos rfl]
    exact h1 rfl σ G2 M2 (s.mono (e.trans e2)) r2 G2 H2 F (Ex.refl _) m2 Q fun v G3 M3 H3 e3 m3 r3 => q v G3 M3 H3 (e2.trans e3) m3 r3
  | false =>
    show (if false = true then _ else _)
    rw [if_neg Bool.false_ne_true]
    exact h2 rfl σ G2 M2 (s.mono (e.trans e2)) r2 G2 H2 F (Ex.refl _) m2 Q fun v G3 M3 H3 e3 m3 r3 => q v G3 M3 H3 (e2.trans e3) m3 r3
theorem e_ifI (h : T1 tt δ μ a μ1) (h1 : a = true → E1 ta δ μ1 (D K (.int i)) μ2) (h2 : a = false → E1 tb δ μ1 (D K (.int j)) μ2) : E1 (tIf tt ta tb) δ μ (D K (.int (if a = true then i else j))) μ2 :=
  e_if h (fun z => by rw [if_pos z]; exact h1 z) (fun z => by rw [if_neg (by rw [z]; exact Bool.false_ne_true)]; exact h2 z)
theorem e_ifD (h : T1 tt δ μ a μ1) (h1 : a = true → E1 ta δ μ1 (D K d) μ2) (h2 : a = false → E1 tb δ μ1 (D K e) μ2) : E1 (tIf tt ta tb) δ μ (D K (if a = true then d else e)) μ2 :=
  e_if h (fun z => by rw [if_pos z]; exact h1 z) (fun z => by rw [if_neg (by rw [z]; exact Bool.false_ne_true)]; exact h2 z)
theorem e_ifP (h : T1 tt δ μ a μ1) (h1 : a = true → E1 ta δ μ1 P μ2) (h2 : a = false → E1 tb δ μ1 P1 μ2) : E1 (tIf tt ta tb) δ μ (if a = true then P else P1) μ2 :=
  e_if h (fun z => by rw [if_pos z]; exact h1 z) (fun z => by rw [if_neg (by rw [z]; exact Bool.false_ne_true)]; exact h2 z)
theorem e_ifTr (h : T1 tt δ μ a μ1) (ha : a = true) (h1 : E1 ta δ μ1 P μ2) : E1 (tIf tt ta tb) δ μ P μ2 := e_if h (fun _ => h1) fun z => by rw [ha] at z; cases z
theorem e_ifFa (h : T1 tt δ μ a μ1) (ha : a = false) (h1 : E1 tb δ μ1 P μ2) : E1 (tIf tt ta tb) δ μ P μ2 := e_if h (fun z => by rw [ha] at z; cases z) fun _ => h1
theorem e_chain {r r' : R2} {p p' : Int → Int → Bool} {x y z : Int} (h1 : E1 ta δ μ (D K (.int x)) μ1) (h2 : E1 tb δ μ1 (D K (.int y)) μ2) (h3 : E1 tc δ μ2 (D K (.int z)) μ2)
    (hr : ∀ H (Q : VK), Q (.bl (p x y)) H → r (.int x) (.int y) H Q) (hr' : ∀ H (Q : VK), Q (.bl (p' y z)) H → r' (.int y) (.int z) H Q) : E1 (tChain r r' ta tb tc) δ μ (D K (.bool (p x y && p' y z))) μ2 := fun σ G M s m G1 H F e m1 Q q =>
  h1 σ G M s m G1 H F e m1 _ fun v G2 M2 H2 e2 m2 r2 => by
    rw [dp_int r2.1]
    refine h2 σ G2 M2 (s.mono (e.trans e2)) r2.2 G2 H2 F (Ex.refl _) m2 _ fun v G3 M3 H3 e3 m3 r3 => ?_
    rw [dp_int r3.1]
    refine hr _ _ ⟨_, rfl, ?_⟩
    generalize p x y = pij at q ⊢
    cases pij with
    | true =>
      show (if true = true then _ else _)
      rw [if_pos rfl]
      refine h3 σ G3 M3 (s.mono ((e.trans e2).trans e3)) r3.2 G3 H3 F (Ex.refl _) m3 _ fun v G4 M4 H4 e4 m4 r4 => ?_
      rw [dp_int r4.1]
      exact hr' _ _ (q _ G4 _ H4 ((e2.trans e3).trans e4) m4 ⟨by rw [Bool.true_and]; exact .bl _, r4.2⟩)
    | false =>
      show (if false = true then _ else _)
      rw [if_neg Bool.false_ne_true]
      exact q _ G3 _ H3 (e2.trans e3) m3 ⟨by rw [Bool.false_and]; exact .bl _, r3.2⟩
theorem e_chLeLe {x y z : Int} (h1 : E1 ta δ μ (D K (.int x)) μ1) (h2 : E1 tb δ μ1 (D K (.int y)) μ2) (h3 : E1 tc δ μ2 (D K (.int z)) μ2) : E1 (tChain (rI0 fun i j => .bl (decide (i ≤ j))) (rI0 fun i j => .bl (decide (i ≤ j))) ta tb tc) δ μ (D K (.bool (decide (x ≤ y) && decide (y ≤ z)))) μ2 :=
  e_chain (p := fun i j => decide (i ≤ j)) (p' := fun i j => decide (i ≤ j)) h1 h2 h3 (fun _ _ q => ⟨_, _, rfl, rfl, q⟩) (fun _ _ q => ⟨_, _, rfl, rfl, q⟩)
theorem e_chLeLt {x y z : Int} (h1 : E1 ta δ μ (D K (.int x)) μ1) (h2 : E1 tb δ μ1 (D K (.int y)) μ2) (h3 : E1 tc δ μ2 (D K (.int z)) μ2) : E1 (tChain (rI0 fun i j => .bl (decide (i ≤ j))) (rI0 fun i j => .bl (decide (i < j))) ta tb tc) δ μ (D K (.bool (decide (x ≤ y) && decide (y < z)))) μ2 :=
  e_chain (p := fun i j => decide (i ≤ j)) (p' := fun i j => decide (i < j)) h1 h2 h3 (fun _ _ q => ⟨_, _, rfl, rfl, q⟩) (fun _ _ q => ⟨_, _, rfl, rfl, q⟩)
/-! arguments -/
theorem a_nil : EA tNil δ μ [] μ := fun σ G M s m G1 H F e m1 Q q => q [] G1 M H (Ex.refl _) m1 trivial (m.mono e)
theorem a_cons (h1 : E1 ta δ μ P μ1) (h2 : EA tr δ μ1 Ps μ2) : EA (tCons ta tr) δ μ (P :: Ps) μ2 := fun σ G M s m G1 H F e m1 Q q =>
  h1 σ G M s m G1 H F e m1 _ fun v G2 M2 H2 e2 m2 r2 => h2 σ G2 M2 (s.mono (e.trans e2)) r2.2 G2 H2 F (Ex.refl _) m2 _ fun vs G3 M3 H3 e3 m3 a3 r3 => q (v :: vs) G3 M3 H3 (e2.trans e3) m3 ⟨P.m _ _ _ e3 r2.1, a3⟩ r3
theorem EA.imp {Ps' : List Pr} (h : EA tA δ μ Ps μ') (f : ∀ G vs, AP G Ps vs → AP G Ps' vs) : EA tA δ μ Ps' μ' := fun σ G M s m G1 H F e m1 Q q => h σ G M s m G1 H F e m1 Q fun vs G2 M2 H2 e2 m2 a2 r2 => q vs G2 M2 H2 e2 m2 (f _ _ a2) r2
/-- data alone -/
def ED (K : PySem.W.Frag) (tA : TA) (δ : En) (μ : Mp) (ds : List PyData) (μ' : Mp) : Prop := EA tA δ μ (ds.map (D K)) μ'
theorem d_nil : ED K tNil δ μ [] μ := a_nil
theorem d_cons (h1 : E1 ta δ μ (D K d) μ1) (h2 : ED K tr δ μ1 ds μ2) : ED K (tCons ta tr) δ μ (d :: ds) μ2 := a_cons h1 h2
/-- *xs among the items -/
theorem d_star (h1 : E1 te δ μ P μ1) (hl : LR K P μ1 ds) (h2 : ED K tr δ μ1 es μ1) (hs : δ = δ) : ED K (StX.tStar K te tr) δ μ (ds ++ es) μ1 := fun σ G M s m G1 H F e m1 Q q =>
  h1 σ G M s m G1 H F e m1 _ fun v G2 M2 H2 e2 m2 r2 => by
    obtain ⟨p, xs, rfl, h3, h4⟩ := hl.at G2 v M2 F H2 r2.1 r2.2 m2
    refine ⟨p, xs, rfl, .inr h3, h2 σ G2 M2 (s.mono (e.trans e2)) r2.2 G2 H2 F (Ex.refl _) m2 _ fun vs G3 M3 H3 e3 m3 a3 r3 => q _ G3 M3 H3 (e2.trans e3) m3 ?_ r3⟩
    have := dpa_app (dma h4 e3) (AP.dpa a3)
    clear q h2 h3 a3 m3 r3
    revert this
    generalize xs ++ vs = zs
    generalize ds ++ es = fs
    intro h
    induction fs generalizing zs with
    | nil => cases h; trivial
    | cons f fs ih =>
      cases h with
      | cons x y => exact ⟨x, ih _ y⟩
theorem e_tup (h : ED K tA δ μ ds μ') (hl : ds.length ≤ 1000) : E1 (tTup tA) δ μ (D K (.tuple ds)) μ' := fun σ G M s m G1 H F e m1 Q q =>
  h σ G M s m G1 H F e m1 _ fun vs G2 M2 H2 e2 m2 a2 r2 => ⟨by rw [dpa_len (AP.dpa a2)]; exact Nat.le_of_lt (small1000 hl), fun p hp => by
    have g2 := m2.free hp
    exact q _ _ _ _ (e2.trans (Ex.new g2)) (m2.newF hp) ⟨.tup (SqT.of upd_same) (dma (AP.dpa a2) (Ex.new g2)), r2.mono (Ex.new g2)⟩⟩
theorem o_lst (h : ED K tA δ μ ds μ') (hl : ds.length ≤ 100000) : EO K (tLst tA) δ μ ds μ' := fun σ G M s m G1 H F e m1 Q q =>
  h σ G M s m G1 H F e m1 _ fun vs G2 M2 H2 e2 m2 a2 r2 => ⟨by rw [dpa_len (AP.dpa a2)]; exact Nat.le_of_lt (sz_ok hl), fun p hp =>
    q _ _ _ _ e2 (m2.newMid hp) ⟨p, vs, M2, rfl, rfl, AP.dpa a2, r2⟩⟩
/-- tuples of any values -/
def Tp (Ps : List Pr) : Pr := ⟨fun G v => ∃ a vs, v = .ref a ∧ G a = some (.tup vs) ∧ AP G Ps vs, fun G G' v e h => by obtain ⟨a, vs, h1, h2, h3⟩ := h; exact ⟨a, vs, h1, e _ _ h2, AP.mono h3 e⟩⟩
def Lp (Ps : List Pr) : Pr := ⟨fun G v => ∃ a vs, v = .ref a ∧ G a = some (.lst vs) ∧ AP G Ps vs, fun G G' v e h => by obtain ⟨a, vs, h1, h2, h3⟩ := h; exact ⟨a, vs, h1, e _ _ h2, AP.mono h3 e⟩⟩
theorem e_tupP (h : EA tA δ μ Ps μ') (hl : Ps.length ≤ 1000) : E1 (tTup tA) δ μ (Tp Ps) μ' := fun σ G M s m G1 H F e m1 Q q =>
  h σ G M s m G1 H F e m1 _ fun vs G2 M2 H2 e2 m2 a2 r2 => ⟨by rw [AP.len a2]; exact Nat.le_of_lt (small1000 hl), fun p hp => by
    have g2 := m2.free hp
    exact q _ _ _ _ (e2.trans (Ex.new g2)) (m2.newF hp) ⟨⟨p, vs, rfl, upd_same, AP.mono a2 (Ex.new g2)⟩, r2.mono (Ex.new g2)⟩⟩
theorem e_lstP (h : EA tA δ μ Ps μ') (hl : Ps.length ≤ 1000) : E1 (tLst tA) δ μ (Lp Ps) μ' := fun σ G M s m G1 H F e m1 Q q =>
  h σ G M s m G1 H F e m1 _ fun vs G2 M2 H2 e2 m2 a2 r2 => ⟨by rw [AP.len a2]; exact Nat.le_of_lt (small1000 hl), fun p hp => by
    have g2 := m2.free hp
    exact q _ _ _ _ (e2.trans (Ex.new g2)) (m2.newF hp) ⟨⟨p, vs, rfl, upd_same, AP.mono a2 (Ex.new g2)⟩, r2.mono (Ex.new g2)⟩⟩
theorem ixLp {Ps : List Pr} {i : Int} {vs : List V} {G : Hp} (ha : AP G Ps vs) (hi : atI Ps i = some P) : ∃ v, atI vs i = some v ∧ P.p G v := by
  unfold atI at hi ⊢
  obtain ⟨k, hk, hd⟩ := Option.bind_eq_some_iff.mp hi
  obtain ⟨v, h1, h2⟩ := AP.get ha hd
  exact ⟨v, by rw [AP.len ha, hk]; exact h1, h2⟩
theorem e_ixTp (h1 : E1 ta δ μ (Tp Ps) μ1) (h2 : E1 tb δ μ1 (D K (.int i)) μ2) (hx : atI Ps i = some P) : E1 (tOp (rIxT K) ta tb) δ μ P μ2 :=
  e_op h1 h2 fun G H F M x y m mm p1 p2 Q q => by
    rw [dp_int p2]
    obtain ⟨a, vs, rfl, h3, h4⟩ := p1
    obtain ⟨v, h5, h6⟩ := ixLp h4 hx
    exact ⟨a, vs, i, v, rfl, rfl, SqT.of (m.ex _ _ h3), h5, q _ G M H (Ex.refl _) m h6 mm⟩
theorem e_ixLp (h1 : E1 ta δ μ (Lp Ps) μ1) (h2 : E1 tb δ μ1 (D K (.int i)) μ2) (hx : atI Ps i = some P) : E1 (tOp (rIxL K) ta tb) δ μ P μ2 :=
  e_op h1 h2 fun G H F M x y m mm p1 p2 Q q => by
    rw [dp_int p2]
    obtain ⟨a, vs, rfl, h3, h4⟩ := p1
    obtain ⟨v, h5, h6⟩ := ixLp h4 hx
    exact ⟨a, vs, i, v, rfl, rfl, SqL.of (m.ex _ _ h3), h5, q _ G M H (Ex.refl _) m h6 mm⟩
/-! subscripts -/
theorem dpa_ix {G : Hp} {vs : List V} (ha : DpAll K G vs ds) (hi : atI ds i = some d) : ∃ v, atI vs i = some v ∧ Dp K G v d := by
  unfold atI at hi ⊢
  obtain ⟨k, hk, hd⟩ := Option.bind_eq_some_iff.mp hi
  obtain ⟨v, h1, h2⟩ := dpa_at ha hd
  exact ⟨v, by rw [dpa_len ha, hk]; exact h1, h2⟩
theorem e_ixT (h1 : E1 ta δ μ (D K (.tuple ds)) μ1) (h2 : E1 tb δ μ1 (D K (.int i)) μ2) (hx : atI ds i = some d) : E1 (tOp (rIxT K) ta tb) δ μ (D K d) μ2 :=
  e_op h1 h2 fun G H F M x y m mm p1 p2 Q q => by
    rw [dp_int p2]
    obtain ⟨a, vs, rfl, h3, h4⟩ := dp_tup p1
    obtain ⟨v, h5, h6⟩ := dpa_ix h4 hx
    exact ⟨a, vs, i, v, rfl, rfl, ex_t m.ex h3, h5, q _ G M H (Ex.refl _) m h6 mm⟩
theorem e_ixL (h1 : E1 ta δ μ P1 μ1) (h2 : E1 tb δ μ1 (D K (.int i)) μ2) (hl : LR K P1 μ2 ds) (hx : atI ds i = some d) : E1 (tOp (rIxL K) ta tb) δ μ (D K d) μ2 :=
  e_op h1 h2 fun G H F M x y m mm p1 p2 Q q => by
    rw [dp_int p2]
    obtain ⟨a, vs, rfl, h3, h4⟩ := hl.at G x M F H p1 mm m
    obtain ⟨v, h5, h6⟩ := dpa_ix h4 hx
    exact ⟨a, vs, i, v, rfl, rfl, h3, h5, q _ G M H (Ex.refl _) m h6 mm⟩
theorem atI_map {α : Type} {enc : α → PyData} {xs : List α} {x : α} (h0 : 0 ≤ i) (h1 : i < xs.length) : atI (xs.map enc) i = some (enc (xs.getD i.toNat x)) := by
  unfold atI ixN
  have : i.toNat < xs.length := by omega
  rw [if_pos h0, if_pos (by simpa using h1)]
  simp [this]
theorem e_ixLI {xs : List Int} (h1 : E1 ta δ μ P1 μ1) (h2 : E1 tb δ μ1 (D K (.int i)) μ2) (hl : LR K P1 μ2 (xs.map .int)) (h : 0 ≤ i ∧ i < xs.length) : E1 (tOp (rIxL K) ta tb) δ μ (D K (.int (xs.getD i.toNat 0))) μ2 := e_ixL h1 h2 hl (atI_map h.1 h.2)
theorem e_ixLC {xs : List (List Int)} (h1 : E1 ta δ μ P1 μ1) (h2 : E1 tb δ μ1 (D K (.int i)) μ2) (hl : LR K P1 μ2 (xs.map colD)) (h : 0 ≤ i ∧ i < xs.length) : E1 (tOp (rIxL K) ta tb) δ μ (D K (colD (xs.getD i.toNat []))) μ2 := e_ixL h1 h2 hl (atI_map h.1 h.2)
theorem e_ixTI {xs : List Int} (h1 : E1 ta δ μ (D K (.tuple (xs.map .int))) μ1) (h2 : E1 tb δ μ1 (D K (.int i)) μ2) (h : 0 ≤ i ∧ i < xs.length) : E1 (tOp (rIxT K) ta tb) δ μ (D K (.int (xs.getD i.toNat 0))) μ2 := e_ixT h1 h2 (atI_map h.1 h.2)
theorem e_ixLM {α : Type} {enc : α → PyData} {xs : List α} (x : α) (h1 : E1 ta δ μ P1 μ1) (h2 : E1 tb δ μ1 (D K (.int i)) μ2) (hl : LR K P1 μ2 (xs.map enc)) (h : 0 ≤ i ∧ i < xs.length) : E1 (tOp (rIxL K) ta tb) δ μ (D K (enc (xs.getD i.toNat x))) μ2 := e_ixL h1 h2 hl (atI_map h.1 h.2)
theorem e_ixTM {α : Type} {enc : α → PyData} {xs : List α} (x : α) (h1 : E1 ta δ μ (D K (.tuple (xs.map enc))) μ1) (h2 : E1 tb δ μ1 (D K (.int i)) μ2) (h : 0 ≤ i ∧ i < xs.length) : E1 (tOp (rIxT K) ta tb) δ μ (D K (enc (xs.getD i.toNat x))) μ2 := e_ixT h1 h2 (atI_map h.1 h.2)
/-! built-ins -/
theorem e_CB {r : List V → Hp → VK → Prop} (h : EA tA δ μ Ps μ1) (hr : ∀ G H F M vs, Me G (M ++ F) H → Mm G M μ1 → AP G Ps vs → ∀ Q : VK, (∀ v G2 M2 H2, Ex G G2 → Me G2 (M2 ++ F) H2 → P.p G2 v → Mm G2 M2 μ2 → Q v H2) → r vs H Q) : E1 (tCB r tA) δ μ P μ2 := fun σ G M s m G1 H F e m1 Q q =>
  h σ G M s m G1 H F e m1 _ fun vs G2 M2 H2 e2 m2 a2 r2 => hr G2 H2 F M2 vs m2 r2 a2 Q fun v G3 M3 H3 e3 m3 p3 mm3 => q v G3 M3 H3 (e2.trans e3) m3 ⟨p3, mm3⟩
theorem e_CB1 {r : List V → Hp → VK → Prop} (h : E1 ta δ μ P1 μ1) (hr : ∀ G H F M v, Me G (M ++ F) H → Mm G M μ1 → P1.p G v → ∀ Q : VK, (∀ v G2 M2 H2, Ex G G2 → Me G2 (M2 ++ F) H2 → P.p G2 v → Mm G2 M2 μ2 → Q v H2) → r [v] H Q) : E1 (tCB r (tCons ta tNil)) δ μ P μ2 :=
  e_CB (a_cons h a_nil) fun G H F M vs m mm p Q q => by
    match vs, p with
    | [v], ⟨p1, _⟩ => exact hr G H F M v m mm p1 Q q
theorem e_isi {T : String} (h : E1 ta δ μ (D K d) μ1) (hT : T = "int" ∨ T = "bool" ∨ T = "tuple" ∨ T = "list" ∨ T = "str") : E1 (tCB (rIsi K) (tCons ta (tCons (tC (.ty T)) tNil))) δ μ (D K (.bool (isTy d T))) μ1 :=
  e_CB (a_cons h (a_cons (e_cst (P := Cv (.ty T)) fun _ => rfl) a_nil)) fun G H F M vs m mm p Q q => by
    match vs, p with
    | [v, c], ⟨p1, p2, _⟩ =>
      have p2 : c = .ty T := p2
      subst p2
      have p1 : Dp K G v d := p1
      refine ⟨v, .ty T, .type (tyName d), .type T, isTy d T, rfl, .ty T, tyx_of (dm p1 m.ex), kit_ty ?_, q _ G M H (Ex.refl _) m (.bl _) mm⟩
      unfold isTy
      cases p1 <;> dsimp only [tyName] <;> rcases hT with rfl | rfl | rfl | rfl | rfl <;> decide +kernel
theorem e_len (h : E1 ta δ μ P1 μ1) (hl : LR K P1 μ1 ds) : E1 (tCB (rLenS K) (tCons ta tNil)) δ μ (D K (.int (ds.length : Int))) μ1 :=
  e_CB1 h fun G H F M v m mm p Q q => by
    obtain ⟨a, xs, rfl, h3, h4⟩ := hl.at G v M F H p mm m
    exact ⟨a, xs, rfl, .inl h3, q _ G M H (Ex.refl _) m (by rw [dpa_len h4]; exact .int _) mm⟩
theorem e_lenT (h : E1 ta δ μ (D K (.tuple ds)) μ1) : E1 (tCB (rLenS K) (tCons ta tNil)) δ μ (D K (.int (ds.length : Int))) μ1 :=
  e_CB1 h fun G H F M v m mm p Q q => by
    obtain ⟨a, xs, rfl, h3, h4⟩ := dp_tup p
    exact ⟨a, xs, rfl, .inr (ex_t m.ex h3), q _ G M H (Ex.refl _) m (by rw [dpa_len h4]; exact .int _) mm⟩
theorem o_list (h : E1 ta δ μ P1 μ1) (hl : LR K P1 μ1 ds) : EO K (tCB (rListS K) (tCons ta tNil)) δ μ ds μ1 := fun σ G M s m G1 H F e m1 Q q =>
  h σ G M s m G1 H F e m1 _ fun v G2 M2 H2 e2 m2 r2 => by
    obtain ⟨a, xs, rfl, h3, h4⟩ := hl.at G2 v M2 F H2 r2.1 r2.2 m2
    exact ⟨a, xs, rfl, .inl h3, fun l hl => q _ G2 _ _ e2 (m2.newMid hl) ⟨l, xs, M2, rfl, rfl, h4, r2.2⟩⟩
theorem o_listT (h : E1 ta δ μ (D K (.tuple ds)) μ1) : EO K (tCB (rListS K) (tCons ta tNil)) δ μ ds μ1 := fun σ G M s m G1 H F e m1 Q q =>
  h σ G M s m G1 H F e m1 _ fun v G2 M2 H2 e2 m2 r2 => by
    obtain ⟨a, xs, rfl, h3, h4⟩ := dp_tup r2.1
    exact ⟨a, xs, rfl, .inr (ex_t m2.ex h3), fun l hl => q _ G2 _ _ e2 (m2.newMid hl) ⟨l, xs, M2, rfl, rfl, h4, r2.2⟩⟩
theorem e_tupL (h : E1 ta δ μ P1 μ1) (hl : LR K P1 μ1 ds) : E1 (tCB (rTupS K) (tCons ta tNil)) δ μ (D K (.tuple ds)) μ1 :=
  e_CB1 h fun G H F M v m mm p Q q => by
    obtain ⟨a, xs, rfl, h3, h4⟩ := hl.at G v M F H p mm m
    refine ⟨a, xs, rfl, .inl ⟨h3, fun l hl => ?_⟩⟩
    have g1 := m.free hl
    exact q _ _ M _ (Ex.new g1) (m.newF hl) (.tup (SqT.of upd_same) (dma h4 (Ex.new g1))) (mm.mono (Ex.new g1))
theorem e_tupT (h : E1 ta δ μ (D K (.tuple ds)) μ1) : E1 (tCB (rTupS K) (tCons ta tNil)) δ μ (D K (.tuple ds)) μ1 :=
  e_CB1 h fun G H F M v m mm p Q q => by
    obtain ⟨a, xs, rfl, h3, h4⟩ := dp_tup p
    exact ⟨a, xs, rfl, .inr ⟨ex_t m.ex h3, q _ G M H (Ex.refl _) m p mm⟩⟩
theorem e_int (h : E1 ta δ μ (D K (.int i)) μ1) : E1 (tCB rInt1 (tCons ta tNil)) δ μ (D K (.int i)) μ1 :=
  e_CB1 h fun G H F M v m mm p Q q => .inl ⟨i, by rw [dp_int p], q _ G M H (Ex.refl _) m (.int i) mm⟩
theorem e_intB (h : E1 ta δ μ (D K (.bool a)) μ1) : E1 (tCB rInt1 (tCons ta tNil)) δ μ (D K (.int (if a then 1 else 0))) μ1 :=
  e_CB1 h fun G H F M v m mm p Q q => .inr ⟨a, by rw [dp_bl p], q _ G M H (Ex.refl _) m (.int _) mm⟩
theorem e_sum {ns : List Int} (h : E1 ta δ μ P1 μ1) (hl : LR K P1 μ1 (ns.map .int)) : E1 (tCB (rSum K) (tCons ta tNil)) δ μ (D K (.int ns.sum)) μ1 :=
  e_CB1 h fun G H F M v m mm p Q q => by
    obtain ⟨a, xs, rfl, h3, h4⟩ := hl.at G v M F H p mm m
    rw [dpAll_ints h4] at h3
    exact ⟨a, ns, rfl, h3, q _ G M H (Ex.refl _) m (.int _) mm⟩
theorem e_sumT {ns : List Int} (h : E1 ta δ μ (D K (.tuple (ns.map .int))) μ1) : E1 (tCB (rSumT K) (tCons ta tNil)) δ μ (D K (.int ns.sum)) μ1 :=
  e_CB1 h fun G H F M v m mm p Q q => by
    obtain ⟨a, xs, rfl, h3, h4⟩ := dp_tup p
    rw [dpAll_ints h4] at h3
    exact ⟨a, ns, rfl, ex_t m.ex h3, q _ G M H (Ex.refl _) m (.int _) mm⟩
theorem e_sumC {c : List Int} (h : E1 ta δ μ (D K (colD c)) μ1) : E1 (tCB (rSumT K) (tCons ta tNil)) δ μ (D K (.int c.sum)) μ1 := e_sumT h
theorem e_all {bs : List Bool} (h : E1 ta δ μ (D K (.list (bs.map .bool))) μ1) : E1 (tCB (rAll K) (tCons ta tNil)) δ μ (D K (.bool (bs.all id))) μ1 :=
  e_CB1 h fun G H F M v m mm p Q q => by
    obtain ⟨a, xs, rfl, h3, h4⟩ := dp_lst p
    rw [dpAll_bls h4] at h3
    exact ⟨a, bs, rfl, ex_l m.ex h3, q _ G M H (Ex.refl _) m (.bl _) mm⟩
theorem e_any {bs : List Bool} (h : E1 ta δ μ (D K (.list (bs.map .bool))) μ1) : E1 (tCB (rAny K) (tCons ta tNil)) δ μ (D K (.bool (bs.any id))) μ1 :=
  e_CB1 h fun G H F M v m mm p Q q => by
    obtain ⟨a, xs, rfl, h3, h4⟩ := dp_lst p
    rw [dpAll_bls h4] at h3
    exact ⟨a, bs, rfl, ex_l m.ex h3, q _ G M H (Ex.refl _) m (.bl _) mm⟩
/-! lists cut, joined, turned -/
theorem o_cat (h1 : E1 ta δ μ P1 μ1) (h2 : E1 tb δ μ1 P2 μ2) (l1 : LR K P1 μ2 ds) (l2 : LR K P2 μ2 es) (hl : ds.length + es.length ≤ 100000) : EO K (tOp (rCatS K) ta tb) δ μ (ds ++ es) μ2 := fun σ G M s m G1 H F e m1 Q q =>
  h1 σ G M s m G1 H F e m1 _ fun x G2 M2 H2 e2 m2 r2 => h2 σ G2 M2 (s.mono (e.trans e2)) r2.2 G2 H2 F (Ex.refl _) m2 _ fun y G3 M3 H3 e3 m3 r3 => by
    obtain ⟨a, xs, rfl, h3, h4⟩ := l1.at G3 x M3 F H3 (P1.m _ _ _ e3 r2.1) r3.2 m3
    obtain ⟨b, ys, rfl, h5, h6⟩ := l2.at G3 y M3 F H3 r3.1 r3.2 m3
    refine ⟨a, b, xs, ys, rfl, rfl, h3, h5, ?_, fun p hp => ?_⟩
    · rw [dpa_len h4, dpa_len h6]
      exact Nat.le_of_lt (sz_ok hl)
    · exact q _ G3 _ _ (e2.trans e3) (m3.newMid hp) ⟨p, _, M3, rfl, rfl, dpa_app h4 h6, r3.2⟩
theorem o_catM {α : Type} {enc : α → PyData} {xs ys : List α} (h1 : E1 ta δ μ P1 μ1) (h2 : E1 tb δ μ1 P2 μ2) (l1 : LR K P1 μ2 (xs.map enc)) (l2 : LR K P2 μ2 (ys.map enc)) (hl : xs.length + ys.length ≤ 100000) : EO K (tOp (rCatS K) ta tb) δ μ ((xs ++ ys).map enc) μ2 := by
  rw [List.map_append]
  exact o_cat h1 h2 l1 l2 (by simpa using hl)
theorem e_catT (h1 : E1 ta δ μ (D K (.tuple ds)) μ1) (h2 : E1 tb δ μ1 (D K (.tuple es)) μ2) (hl : ds.length + es.length ≤ 100000) : E1 (tOp (rCatA K) ta tb) δ μ (D K (.tuple (ds ++ es))) μ2 := fun σ G M s m G1 H F e m1 Q q =>
  h1 σ G M s m G1 H F e m1 _ fun x G2 M2 H2 e2 m2 r2 => h2 σ G2 M2 (s.mono (e.trans e2)) r2.2 G2 H2 F (Ex.refl _) m2 _ fun y G3 M3 H3 e3 m3 r3 => by
    refine ev_catT (K := K) (ds := ds) (es := es) (σ := []) (G := G3) (M := M3) (ta := fun _ H Q => Q x H) (tb := fun _ H Q => Q y H) (M1 := M3) (M2 := M3) (fun G1 H F e m Q q => q x G1 _ H (Ex.refl _) m ⟨dm r2.1 (e3.trans e), rfl⟩) (fun G1 H F e m Q q => q y G1 _ H (Ex.refl _) m ⟨dm r3.1 e, rfl⟩) hl G3 H3 F (Ex.refl _) m3 Q fun v G4 M4 H4 e4 m4 r4 => ?_
    obtain ⟨r4, rfl⟩ := r4
    exact q v G4 _ H4 ((e2.trans e3).trans e4) m4 ⟨r4, r3.2.mono e4⟩
def cutG {α : Type} (xs : List α) (lo hi : Option Int) : List α := (xs.drop (HT.sIx xs.length 0 lo)).take (HT.sIx xs.length xs.length hi - HT.sIx xs.length 0 lo)
theorem cutG_map {α β : Type} (f : α → β) (xs : List α) (lo hi : Option Int) : cutG (xs.map f) lo hi = (cutG xs lo hi).map f := by
  unfold cutG
  simp [List.map_drop, List.map_take]
/-- a bound of a slice -/
def OY (to : TO) (δ : En) (μ : Mp) (o : Option Int) : Prop := ∀ σ G M, Sl G σ δ → Mm G M μ → ∀ G1 H F, Ex G G1 → Me G1 (M ++ F) H → ∀ Q : Option Int → Hp → Prop, (∀ G2 M2 H2, Ex G1 G2 → Me G2 (M2 ++ F) H2 → Mm G2 M2 μ → Q o H2) → to σ H Q
theorem y_none : OY tNoPart δ μ none := fun σ G M s m G1 H F e m1 Q q => q G1 M H (Ex.refl _) m1 (m.mono e)
theorem y_some (h : E1 ta δ μ (D K (.int i)) μ) : OY (tPart ta) δ μ (some i) := fun σ G M s m G1 H F e m1 Q q => h σ G M s m G1 H F e m1 _ fun x G2 M2 H2 e2 m2 r2 => by
  rw [dp_int r2.1]
  exact ⟨i, rfl, q G2 M2 H2 e2 m2 r2.2⟩
theorem o_sl {tl th : TO} {lo hi : Option Int} (h : E1 te δ μ P1 μ1) (hl : OY tl δ μ1 lo) (hh : OY th δ μ1 hi) (l : LR K P1 μ1 ds) : EO K (tSl (rSlL K) te tl th) δ μ (cutG ds lo hi) μ1 := fun σ G M s m G1 H F e m1 Q q =>
  h σ G M s m G1 H F e m1 _ fun x G2 M2 H2 e2 m2 r2 => hl σ G2 M2 (s.mono (e.trans e2)) r2.2 G2 H2 F (Ex.refl _) m2 _ fun G3 M3 H3 e3 m3 r3 => hh σ G3 M3 (s.mono ((e.trans e2).trans e3)) r3 G3 H3 F (Ex.refl _) m3 _ fun G4 M4 H4 e4 m4 r4 => by
    obtain ⟨a, xs, rfl, h3, h4⟩ := l.at G4 x M4 F H4 (P1.m _ _ _ (e3.trans e4) r2.1) r4 m4
    exact ⟨a, xs, rfl, h3, fun p hp => q _ G4 _ _ ((e2.trans e3).trans e4) (m4.newMid hp) ⟨p, _, M4, rfl, rfl, dpa_cut h4 lo hi, r4⟩⟩
theorem o_slM {α : Type} {enc : α → PyData} {xs : List α} {tl th : TO} {lo hi : Option Int} (h : E1 te δ μ P1 μ1) (hl : OY tl δ μ1 lo) (hh : OY th δ μ1 hi) (l : LR K P1 μ1 (xs.map enc)) : EO K (tSl (rSlL K) te tl th) δ μ ((cutG xs lo hi).map enc) μ1 := by
  rw [← cutG_map]
  exact o_sl h hl hh l
theorem e_slT {tl th : TO} {lo hi : Option Int} (h : E1 te δ μ (D K (.tuple ds)) μ1) (hl : OY tl δ μ1 lo) (hh : OY th δ μ1 hi) : E1 (tSl (rSlA K) te tl th) δ μ (D K (.tuple (cutG ds lo hi))) μ1 := fun σ G M s m G1 H F e m1 Q q =>
  h σ G M s m G1 H F e m1 _ fun x G2 M2 H2 e2 m2 r2 => hl σ G2 M2 (s.mono (e.trans e2)) r2.2 G2 H2 F (Ex.refl _) m2 _ fun G3 M3 H3 e3 m3 r3 => hh σ G3 M3 (s.mono ((e.trans e2).trans e3)) r3 G3 H3 F (Ex.refl _) m3 _ fun G4 M4 H4 e4 m4 r4 => by
    refine ev_slT (K := K) (ds := ds) (σ := []) (G := G4) (M := M4) (te := fun _ H Q => Q x H) (tl := fun _ H Q => Q lo H) (th := fun _ H Q => Q hi H) (M1 := M4) (fun G1 H F e m Q q => q x G1 _ H (Ex.refl _) m ⟨dm r2.1 ((e3.trans e4).trans e), rfl⟩) (fun G1 H F e m Q q => q G1 H (Ex.refl _) m) (fun G1 H F e m Q q => q G1 H (Ex.refl _) m) G4 H4 F (Ex.refl _) m4 Q fun v G5 M5 H5 e5 m5 r5 => ?_
    obtain ⟨r5, rfl⟩ := r5
    exact q v G5 _ H5 (((e2.trans e3).trans e4).trans e5) m5 ⟨r5, r4.mono e5⟩
theorem o_rev (h : E1 te δ μ P1 μ1) (l : LR K P1 μ1 ds) : EO K (tRevL K te) δ μ ds.reverse μ1 := fun σ G M s m G1 H F e m1 Q q =>
  h σ G M s m G1 H F e m1 _ fun v G2 M2 H2 e2 m2 r2 => by
    obtain ⟨a, xs, rfl, h3, h4⟩ := l.at G2 v M2 F H2 r2.1 r2.2 m2
    exact ⟨a, xs, rfl, h3, fun p hp => q _ G2 _ _ e2 (m2.newMid hp) ⟨p, _, M2, rfl, rfl, dpa_rev h4, r2.2⟩⟩
theorem o_revM {α : Type} {enc : α → PyData} {xs : List α} (h : E1 te δ μ P1 μ1) (l : LR K P1 μ1 (xs.map enc)) : EO K (tRevL K te) δ μ (xs.reverse.map enc) μ1 := by
  rw [List.map_reverse]
  exact o_rev h l
end
end SY

set_option Elab.async false
set_option linter.all false
set_option maxRecDepth 100000
/-! SYb: statements, walks, comprehensions, defs: by what is known of the values. -/
namespace SY
open PySem PySem.Spec L2 SX

structure PY where
  nx : En → Mp → Prop
  rt : Pr → Mp → Prop := fun _ _ => False
  bk : En → Mp → Prop := fun _ _ => False
  ct : En → Mp → Prop := fun _ _ => False
  ex : Value → Option Addr → Mp → Prop := fun _ _ _ => False
def PY.po (P : PY) : Po where
  nx := fun G σ M => ∃ δ μ, P.nx δ μ ∧ Sl G σ δ ∧ Mm G M μ
  rt := fun G v M => ∃ Q μ, P.rt Q μ ∧ Q.p G v ∧ Mm G M μ
  bk := fun G σ M => ∃ δ μ, P.bk δ μ ∧ Sl G σ δ ∧ Mm G M μ
  ct := fun G σ M => ∃ δ μ, P.ct δ μ ∧ Sl G σ δ ∧ Mm G M μ
  ex := fun c d G M => ∃ μ, P.ex c d μ ∧ Mm G M μ
def S1 (E : XK) (t : TS) (δ : En) (μ : Mp) (P : PY) : Prop := ∀ σ G M, Sl G σ δ → Mm G M μ → Sv E t σ G M P.po
/-- a target takes a value; vs: the slots it stores -/
def G1 (g : TG) (P : Pr) (δ δ' : En) (vs : List Nat) : Prop := ∀ σ G M F H v, Sl G σ δ → P.p G v → Me G (M ++ F) H → ∀ Q : L2.St → Hp → Prop, (∀ σ', Sl G σ' δ' → Same σ σ' vs → Q σ' H) → g v σ H Q
def GS (g : TGs) (Ps : List Pr) (δ δ' : En) (vs : List Nat) : Prop := ∀ σ G M F H xs, Sl G σ δ → AP G Ps xs → Me G (M ++ F) H → ∀ Q : L2.St → Hp → Prop, (∀ σ', Sl G σ' δ' → Same σ σ' vs → Q σ' H) → g xs σ H Q
section
variable {E : XK} {K : PySem.W.Frag} {te ta tb tc : TE} {tt tu : TT} {tA tr : TA} {δ δ' δ1 δ2 : En} {μ μ' μ0 μ1 μ2 μ3 : Mp} {Q Q1 Q2 : Pr} {Ps : List Pr} {R : Pr → Mp → Prop} {d e : PyData} {ds es : List PyData} {i j : Int} {a b c : Bool} {k : Nat} {ad : Addr} {t u : TS} {P P' : PY} {g : TG} {gs : TGs} {vs : List Nat} {N : En → Mp → Prop}
theorem g_name (hk : k ∈ vs := by decide) : G1 (gName k) Q δ (δ.set k (some Q)) vs := fun σ G M F H v s p m q z => z _ (s.set p) (Same.set hk)
theorem G1.le {δ0 : En} (h : G1 g Q δ δ' vs) (l : Le δ0 δ) : G1 g Q δ0 δ' vs := fun σ G M F H v s => h σ G M F H v (s.le l)
theorem g_nil : GS gNil [] δ δ vs := fun σ G M F H xs s p m q z => by
  match xs, p with
  | [], _ => exact ⟨rfl, z _ s (Same.refl _ _)⟩
theorem g_cons (h1 : G1 g Q δ δ1 vs) (h2 : GS gs Ps δ1 δ2 vs) : GS (gCons g gs) (Q :: Ps) δ δ2 vs := fun σ G M F H xs s p m q z => by
  match xs, p with
  | x :: xs, p => exact ⟨x, xs, rfl, h1 σ G M F H x s p.1 m _ fun σ' s' w' => h2 σ' G M F H xs s' p.2 m _ fun σ2 s2 w2 => z σ2 s2 (w'.trans w2)⟩
theorem dpa_AP {G : Hp} : ∀ {ds : List PyData} {xs : List V}, DpAll K G xs ds → AP G (ds.map (D K)) xs
  | [], _, h => by cases h; trivial
  | d :: ds, _, h => by
    cases h with
    | cons x y => exact ⟨x, dpa_AP y⟩
theorem g_tup {n : Nat} (h : GS gs (ds.map (D K)) δ δ' vs) (hn : ds.length = n) : G1 (gTup K n gs) (D K (.tuple ds)) δ δ' vs := fun σ G M F H v s p m q z => by
  obtain ⟨a, xs, rfl, h3, h4⟩ := dp_tup p
  exact ⟨a, xs, rfl, ex_t m.ex h3, by rw [dpa_len h4, hn], h σ G M F H xs s (dpa_AP h4) m q z⟩
theorem g_tupP {n : Nat} (h : GS gs Ps δ δ' vs) (hn : Ps.length = n) : G1 (gTup K n gs) (Tp Ps) δ δ' vs := fun σ G M F H v s p m q z => by
  obtain ⟨a, xs, rfl, h3, h4⟩ := p
  exact ⟨a, xs, rfl, SqT.of (m.ex _ _ h3), by rw [AP.len h4, hn], h σ G M F H xs s h4 m q z⟩

theorem g_two {n i j : Nat} (hn : n = 2) : G1 (gTup K n (gCons (gName i) (gCons (gName j) gNil))) (D K (.tuple [d, e])) δ ((δ.set i (some (D K d))).set j (some (D K e))) [i, j] := by
  subst hn
  exact g_tup (ds := [d, e]) (g_cons (g_name (by simp)) (g_cons (g_name (by simp)) g_nil)) rfl
theorem S1.le (h : S1 E t δ' μ P) (l : Le δ δ') : S1 E t δ μ P := fun σ G M s m => h σ G M (s.le l) m
theorem S1.imp (h : S1 E t δ μ P) (nx : ∀ δ μ, P.nx δ μ → P'.nx δ μ) (rt : ∀ q μ, P.rt q μ → P'.rt q μ) (bk : ∀ δ μ, P.bk δ μ → P'.bk δ μ) (ct : ∀ δ μ, P.ct δ μ → P'.ct δ μ) (ex : ∀ c d μ, P.ex c d μ → P'.ex c d μ) : S1 E t δ μ P' := fun σ G M s m =>
  (h σ G M s m).imp (fun _ _ _ _ ⟨x, y, h1, h2⟩ => ⟨x, y, nx _ _ h1, h2⟩) (fun _ _ _ _ ⟨x, y, h1, h2⟩ => ⟨x, y, rt _ _ h1, h2⟩) (fun _ _ _ _ ⟨x, y, h1, h2⟩ => ⟨x, y, bk _ _ h1, h2⟩) (fun _ _ _ _ ⟨x, y, h1, h2⟩ => ⟨x, y, ct _ _ h1, h2⟩) (fun _ _ _ _ _ ⟨y, h1, h2⟩ => ⟨y, ex _ _ _ h1, h2⟩)
theorem s_setY (h : EY te δ μ R) (k' : ∀ q μ', R q μ' → P.nx (δ.set k (some q)) μ') : S1 E (tAsg te (gName k)) δ μ P := fun σ G M s m =>
  sv_set (h σ G M s m) fun v G' M' e r => by
    obtain ⟨q, μ', r0, r1, r2⟩ := r
    exact ⟨_, _, k' q μ' r0, (s.mono e).set r1, r2⟩
theorem s_set (h : E1 te δ μ Q μ1) (k' : P.nx (δ.set k (some Q)) μ1) : S1 E (tAsg te (gName k)) δ μ P := s_setY h.y fun q μ' r => by
  obtain ⟨rfl, rfl⟩ := r
  exact k'
theorem s_letY (h : EY te δ μ R) (k' : ∀ q μ', R q μ' → S1 E u (δ.set k (some q)) μ' P) : S1 E (tSeq (tAsg te (gName k)) u) δ μ P := fun σ G M s m =>
  sv_let (h σ G M s m) fun v G' M' e r => by
    obtain ⟨q, μ', r0, r1, r2⟩ := r
    exact k' q μ' r0 _ G' M' ((s.mono e).set r1) r2
theorem s_let (h : E1 te δ μ Q μ1) (k' : S1 E u (δ.set k (some Q)) μ1 P) : S1 E (tSeq (tAsg te (gName k)) u) δ μ P := s_letY h.y fun q μ' r => by
  obtain ⟨rfl, rfl⟩ := r
  exact k'
/-- x = [..], owned -/
theorem s_own (h : EO K te δ μ ds μ1) (k' : ∀ ad, S1 E u (δ.set k (some (Av ad))) (μ1 ++ [(ad, OL K ds)]) P) : S1 E (tSeq (tAsg te (gName k)) u) δ μ P := s_letY h.own fun q μ' r => by
  obtain ⟨a, rfl, rfl⟩ := r
  exact k' a
theorem s_asg (h : E1 te δ μ Q μ1) (hg : G1 g Q δ δ' vs) (k' : P.nx δ' μ1) : S1 E (tAsg te g) δ μ P := fun σ G M s m G1 H F D e m1 hd =>
  h σ G M s m G1 H F e m1 _ fun v G2 M2 H2 e2 m2 r2 => hg σ G2 M2 F H2 v (s.mono (e.trans e2)) r2.1 m2 _ fun σ' s' _ => hd.nx _ G2 M2 H2 e2 m2 ⟨_, _, k', s', r2.2⟩
theorem s_seq (h : S1 E t δ μ { P with nx := N }) (k' : ∀ δ' μ', N δ' μ' → S1 E u δ' μ' P) : S1 E (tSeq t u) δ μ P := fun σ G M s m =>
  sv_seq (N := fun G σ M => ∃ δ μ, N δ μ ∧ Sl G σ δ ∧ Mm G M μ) (h σ G M s m) fun G' σ' M' e n => by
    obtain ⟨δ', μ', n0, n1, n2⟩ := n
    exact k' δ' μ' n0 σ' G' M' n1 n2
theorem s_let2 (h : E1 te δ μ Q μ1) (hg : G1 g Q δ δ' vs) (k' : S1 E u δ' μ1 P) : S1 E (tSeq (tAsg te g) u) δ μ P := s_seq (N := fun x y => x = δ' ∧ y = μ1) (s_asg h hg ⟨rfl, rfl⟩) fun x y r => by
  obtain ⟨rfl, rfl⟩ := r
  exact k'
theorem s_unp2 {i j : Nat} (h : E1 te δ μ (D K (.tuple [d, e])) μ1) (k' : S1 E u ((δ.set i (some (D K d))).set j (some (D K e))) μ1 P) : S1 E (tSeq (tAsg te (gTup K 2 (gCons (gName i) (gCons (gName j) gNil)))) u) δ μ P :=
  s_let2 h (g_tup (vs := [i, j]) (g_cons (g_name (by simp)) (g_cons (g_name (by simp)) g_nil)) rfl) k'
theorem s_unp2E {i j : Nat} (h : E1 te δ μ (D K (.tuple [d, e])) μ1) (k' : P.nx ((δ.set i (some (D K d))).set j (some (D K e))) μ1) : S1 E (tAsg te (gTup K 2 (gCons (gName i) (gCons (gName j) gNil)))) δ μ P :=
  s_asg h (g_tup (vs := [i, j]) (g_cons (g_name (by simp)) (g_cons (g_name (by simp)) g_nil)) rfl) k'
theorem s_unp3 {i j k : Nat} {d3 : PyData} (h : E1 te δ μ (D K (.tuple [d, e, d3])) μ1) (k' : S1 E u (((δ.set i (some (D K d))).set j (some (D K e))).set k (some (D K d3))) μ1 P) : S1 E (tSeq (tAsg te (gTup K 3 (gCons (gName i) (gCons (gName j) (gCons (gName k) gNil))))) u) δ μ P :=
  s_let2 h (g_tup (vs := [i, j, k]) (g_cons (g_name (by simp)) (g_cons (g_name (by simp)) (g_cons (g_name (by simp)) g_nil))) rfl) k'
theorem s_unp2P {i j : Nat} (h : E1 te δ μ (Tp [Q1, Q2]) μ1) (k' : S1 E u ((δ.set i (some Q1)).set j (some Q2)) μ1 P) : S1 E (tSeq (tAsg te (gTup K 2 (gCons (gName i) (gCons (gName j) gNil)))) u) δ μ P :=
  s_let2 h (g_tupP (vs := [i, j]) (g_cons (g_name (by simp)) (g_cons (g_name (by simp)) g_nil)) rfl) k'
theorem s_dropY (h : EY te δ μ R) (k' : ∀ q μ', R q μ' → P.nx δ μ') : S1 E (tDrop te) δ μ P := fun σ G M s m =>
  sv_drop (h σ G M s m) fun v G' M' e r => by
    obtain ⟨q, μ', r0, r1, r2⟩ := r
    exact ⟨_, _, k' q μ' r0, s.mono e, r2⟩
theorem s_drop (h : E1 te δ μ Q μ1) (k' : P.nx δ μ1) : S1 E (tDrop te) δ μ P := s_dropY h.y fun q μ' r => by
  obtain ⟨rfl, rfl⟩ := r
  exact k'
theorem s_do (h : E1 te δ μ Q μ1) (k' : S1 E u δ μ1 P) : S1 E (tSeq (tDrop te) u) δ μ P := s_seq (N := fun x y => x = δ ∧ y = μ1) (s_drop h ⟨rfl, rfl⟩) fun x y r => by
  obtain ⟨rfl, rfl⟩ := r
  exact k'
theorem s_retY (h : EY te δ μ R) (k' : ∀ q μ', R q μ' → P.rt q μ') : S1 E (tRet te) δ μ P := fun σ G M s m =>
  sv_ret (h σ G M s m) fun v G' M' e r => by
    obtain ⟨q, μ', r0, r1, r2⟩ := r
    exact ⟨q, μ', k' q μ' r0, r1, r2⟩
theorem s_ret (h : E1 te δ μ Q μ1) (k' : P.rt Q μ1) : S1 E (tRet te) δ μ P := s_retY h.y fun q μ' r => by
  obtain ⟨rfl, rfl⟩ := r
  exact k'
theorem s_retN (k' : P.rt (D K .none) μ) : S1 E tRetN δ μ P := fun σ G M s m => sv_retN fun G' e => ⟨_, _, k', .non, m.mono e⟩
theorem s_next (k' : P.nx δ μ) : S1 E tNext δ μ P := fun σ G M s m => sv_next fun G' e => ⟨_, _, k', s.mono e, m.mono e⟩
theorem s_brk (k' : P.bk δ μ) : S1 E tBreak δ μ P := fun σ G M s m => sv_brk fun G' e => ⟨_, _, k', s.mono e, m.mono e⟩
theorem s_cont (k' : P.ct δ μ) : S1 E tCont δ μ P := fun σ G M s m => sv_cont fun G' e => ⟨_, _, k', s.mono e, m.mono e⟩
theorem s_raise {cls : Value} (k' : P.ex cls none μ) : S1 E (tRaise E cls) δ μ P := fun σ G M s m => sv_raise fun G' e => ⟨_, k', m.mono e⟩
theorem s_if (h : T1 tt δ μ a μ1) (k1 : a = true → S1 E t δ μ1 P) (k2 : a = false → S1 E u δ μ1 P) : S1 E (tIfS tt t u) δ μ P := fun σ G M s m G1 H F D e m1 hd =>
  h σ G M s m G1 H F e m1 _ fun G2 M2 H2 e2 m2 r2 => by
    cases a with
    | true =>
      show (if true = true then _ else _)
      rw [if_pos rfl]
      exact k1 rfl σ G2 M2 (s.mono (e.trans e2)) r2 G2 H2 F D (Ex.refl _) m2 (hd.up e2)
    | false =>
      show (if false = true then _ else _)
      rw [if_neg Bool.false_ne_true]
      exact k2 rfl σ G2 M2 (s.mono (e.trans e2)) r2 G2 H2 F D (Ex.refl _) m2 (hd.up e2)
/-- if .. : leaves; the rest (no else) -/
theorem s_ifr {r : TS} (h : T1 tt δ μ a μ1) (k1 : a = true → S1 E t δ μ1 { P with nx := fun δ' μ' => S1 E r δ' μ' P }) (k2 : a = false → S1 E r δ μ1 P) : S1 E (tSeq (tIfS tt t tNext) r) δ μ P :=
  s_seq (N := fun δ' μ' => S1 E r δ' μ' P) (s_if h k1 fun z => s_next (k2 z)) fun _ _ z => z
/-- the rest behind both branches -/
theorem s_ifs {r : TS} (h : T1 tt δ μ a μ1) (k1 : a = true → S1 E t δ μ1 { P with nx := fun δ' μ' => S1 E r δ' μ' P }) (k2 : a = false → S1 E u δ μ1 { P with nx := fun δ' μ' => S1 E r δ' μ' P }) : S1 E (tSeq (tIfS tt t u) r) δ μ P :=
  s_seq (N := fun δ' μ' => S1 E r δ' μ' P) (s_if h k1 k2) fun _ _ z => z
/-- the same state behind both -/
theorem s_ifj {r : TS} (N : En → Mp → Prop) (h : T1 tt δ μ a μ1) (k1 : a = true → S1 E t δ μ1 { P with nx := N }) (k2 : a = false → S1 E u δ μ1 { P with nx := N }) (k3 : ∀ δ' μ', N δ' μ' → S1 E r δ' μ' P) : S1 E (tSeq (tIfS tt t u) r) δ μ P :=
  s_seq (N := N) (s_if h k1 k2) k3
theorem s_ifT (h : T1 tt δ μ true μ1) (k1 : S1 E t δ μ1 P) : S1 E (tIfS tt t u) δ μ P := s_if h (fun _ => k1) fun z => by cases z
theorem s_ifF (h : T1 tt δ μ false μ1) (k1 : S1 E u δ μ1 P) : S1 E (tIfS tt t u) δ μ P := s_if h (fun z => by cases z) fun _ => k1
/-- what is owned and not needed is forgotten -/
theorem s_less (hs : μ'.Sublist μ) (h : S1 E t δ μ' P) : S1 E t δ μ P := fun σ G M s m => by
  obtain ⟨M', h1, h2⟩ := m.sub hs
  exact sv_sub h1 (h σ G M' s h2)
/-- an owned list, known at slot k, is frozen -/
theorem s_frz {μa μb : Mp} (k : Nat) (hk : δ[k]? = some (some (Av ad))) (h : S1 E t (δ.set k (some (D K (.list ds)))) (μa ++ μb) P) : S1 E t δ (μa ++ (ad, OL K ds) :: μb) P := fun σ G M s m => by
  obtain ⟨Ma, Mb', rfl, ma, mb⟩ := Mm.cut m
  obtain ⟨⟨p, o⟩, Mb, rfl⟩ : ∃ x y, Mb' = x :: y := by
    match Mb', mb with
    | x :: y, _ => exact ⟨x, y, rfl⟩
  obtain ⟨⟨h1, xs, rfl, h2⟩, mb⟩ := mb
  have h1 : p = ad := h1
  subst h1
  intro G1 H F D e m1 hd
  rw [List.append_assoc] at m1
  obtain ⟨m3, e3⟩ := m1.freezeMid
  have e13 := e.trans e3
  refine h σ _ (Ma ++ Mb) ⟨by simp [s.1], fun j q hj => ?_⟩ (Mm.app (ma.mono e13) (mb.mono e13)) _ H F D (Ex.refl _) (by rw [List.append_assoc]; exact m3) (hd.up e3)
  rw [List.getElem?_set] at hj
  split at hj
  · rename_i hkj
    subst hkj
    split at hj
    · cases hj
      obtain ⟨v, hv, hp⟩ := s.get hk
      have hp : v = .ref p := hp
      subst hp
      exact ⟨_, hv, .lst (SqL.of upd_same) (dma h2 e13)⟩
    · cases hj
  · obtain ⟨v, hv, hp⟩ := s.get hj
    exact ⟨v, hv, q.m _ _ _ e13 hp⟩
/-- l[i] = e of an owned list -/
theorem s_setIx {tx ti : TE} {n : Nat} {i : Int} (h : E1 te δ μ (D K d) μ1) (h1 : E1 tx δ μ1 (Av ad) μ1) (h2 : E1 ti δ μ1 (D K (.int i)) μ1) (hl : μ1[n]? = some (ad, OL K ds)) (hi : 0 ≤ i ∧ i < ds.length) (k' : P.nx δ (μ1.set n (ad, OL K (ds.set i.toNat d)))) : S1 E (tAsg te (gSub tx ti rSetL)) δ μ P := fun σ G M s m G1 H F DD e m1 hd =>
  h σ G M s m G1 H F e m1 _ fun v G2 M2 H2 e2 m2 r2 => h1 σ G2 M2 (s.mono (e.trans e2)) r2.2 G2 H2 F (Ex.refl _) m2 _ fun x G3 M3 H3 e3 m3 r3 => h2 σ G3 M3 (s.mono ((e.trans e2).trans e3)) r3.2 G3 H3 F (Ex.refl _) m3 _ fun y G4 M4 H4 e4 m4 r4 => by
    have hx : x = .ref ad := r3.1
    subst hx
    rw [dp_int r4.1]
    obtain ⟨o, h5, xs, rfl, h6⟩ := r4.2.get hl
    have hxl := dpa_len h6
    have hj : ixN xs.length i = some i.toNat := by
      unfold ixN
      rw [if_pos hi.1, if_pos (by rw [hxl]; exact hi.2)]
    refine ⟨ad, xs, i, i.toNat, rfl, rfl, m4.getF h5, hj, hd.nx _ G4 _ _ ((e2.trans e3).trans e4) (m4.putF h5) ⟨_, _, k', s.mono (((e.trans e2).trans e3).trans e4), Mm.set ?_ r4.2 hl⟩⟩
    exact ⟨_, rfl, dpa_set h6 (dm r2.1 (e3.trans e4))⟩
/-! methods of owned lists -/
theorem e_append (n : Nat) (h : E1 te δ μ (Av ad) μ) (h2 : E1 ta δ μ (D K d) μ1) (hl0 : ∃ (n' : Nat) (ds' : List PyData), μ[n']? = some (ad, OL K ds')) (hl : μ1[n]? = some (ad, OL K ds)) (hz : ds.length ≤ 100000) :
    E1 (tBM K "list" rAppend te (tCons ta tNil)) δ μ (D K .none) (μ1.set n (ad, OL K (ds ++ [d]))) := fun σ G M s m G1 H F e m1 q z =>
  h σ G M s m G1 H F e m1 _ fun v G2 M2 H2 e2 m2 r2 => by
    have hv : v = .ref ad := r2.1
    subst hv
    obtain ⟨n', ds', hn'⟩ := hl0
    obtain ⟨o, h5, xs, rfl, h6⟩ := r2.2.get hn'
    refine ⟨.inl ⟨rfl, xs, SqL.of (m2.getF h5)⟩, h2 σ G2 M2 (s.mono (e.trans e2)) r2.2 G2 H2 F (Ex.refl _) m2 _ fun y G3 M3 H3 e3 m3 r3 => ?_⟩
    obtain ⟨o, h7, ys, rfl, h8⟩ := r3.2.get hl
    refine ⟨ad, ys, y, rfl, rfl, m3.getF h7, sz_ok (by rw [dpa_len h8]; exact hz), z _ G3 _ _ (e2.trans e3) (m3.putF h7) ⟨.non, Mm.set ?_ r3.2 hl⟩⟩
    exact ⟨_, rfl, dpa_app h8 (.cons r3.1 .nil)⟩
theorem e_extend (n : Nat) (h : E1 te δ μ (Av ad) μ) (h2 : EO K ta δ μ es μ1) (hl0 : ∃ (n' : Nat) (ds' : List PyData), μ[n']? = some (ad, OL K ds')) (hl : μ1[n]? = some (ad, OL K ds)) (hz : ds.length + es.length ≤ 100000) :
    E1 (tBM K "list" rExtend te (tCons ta tNil)) δ μ (D K .none) (μ1.set n (ad, OL K (ds ++ es))) := fun σ G M s m G1 H F e m1 q z =>
  h σ G M s m G1 H F e m1 _ fun v G2 M2 H2 e2 m2 r2 => by
    have hv : v = .ref ad := r2.1
    subst hv
    obtain ⟨n', ds', hn'⟩ := hl0
    obtain ⟨o, h5, xs, rfl, h6⟩ := r2.2.get hn'
    refine ⟨.inl ⟨rfl, xs, SqL.of (m2.getF h5)⟩, h2 σ G2 M2 (s.mono (e.trans e2)) r2.2 G2 H2 F (Ex.refl _) m2 _ fun y G3 M3 H3 e3 m3 r3 => ?_⟩
    obtain ⟨b, zs, M0, rfl, rfl, h9, r3⟩ := r3
    obtain ⟨o, h7, ys, rfl, h8⟩ := r3.get hl
    have h7' : (M0 ++ [(b, HO.lst zs)])[n]? = some (ad, .lst ys) := get_app h7
    refine ⟨ad, b, ys, zs, rfl, rfl, m3.getF h7', m3.getF (i := M0.length) (by simp), by rw [dpa_len h8, dpa_len h9]; exact Nat.le_of_lt (sz_ok hz), z _ G3 (M0.set n (ad, .lst (ys ++ zs))) _ (e2.trans e3) ?_ ⟨.non, Mm.set ?_ r3 hl⟩⟩
    · have := m3.putF (o' := .lst (ys ++ zs)) h7'
      rw [set_app (List.getElem?_eq_some_iff.mp h7).1] at this
      exact this.dropLast
    · exact ⟨_, rfl, dpa_app h8 h9⟩
/-- a list that stands still in the heap -/
def Hl (K : PySem.W.Frag) (ds : List PyData) : Pr := ⟨fun G v => ∃ a xs, v = .ref a ∧ G a = some (.lst xs) ∧ DpAll K G xs ds, fun G G' v e h => by obtain ⟨a, xs, h1, h2, h3⟩ := h; exact ⟨a, xs, h1, e _ _ h2, dma h3 e⟩⟩
theorem EO.frzH (h : EO K te δ μ ds μ') : E1 te δ μ (Hl K ds) μ' := fun σ G M s m G1 H F e m1 Q q => (h σ G M s m) G1 H F e m1 Q fun v G2 M2 H2 e2 m2 r => by
  obtain ⟨p, vs, M0, rfl, rfl, r1, r2⟩ := r
  obtain ⟨m3, e3⟩ := m2.freezeLast
  exact q _ _ M0 H2 (e2.trans e3) m3 ⟨⟨p, vs, rfl, upd_same, dma r1 e3⟩, r2.mono e3⟩
theorem lr_H : LR K (Hl K ds) μ ds := fun G v M p _ => by
  obtain ⟨a, xs, rfl, h1, h2⟩ := p
  exact ⟨a, xs, rfl, .G (SqL.of h1), h2⟩
theorem e_extendH (n : Nat) (h : E1 te δ μ (Av ad) μ) (h2 : E1 ta δ μ (Hl K es) μ1) (hl0 : ∃ (n' : Nat) (ds' : List PyData), μ[n']? = some (ad, OL K ds')) (hl : μ1[n]? = some (ad, OL K ds)) (hz : ds.length + es.length ≤ 100000) :
    E1 (tBM K "list" rExtend te (tCons ta tNil)) δ μ (D K .none) (μ1.set n (ad, OL K (ds ++ es))) := fun σ G M s m G1 H F e m1 q z =>
  h σ G M s m G1 H F e m1 _ fun v G2 M2 H2 e2 m2 r2 => by
    have hv : v = .ref ad := r2.1
    subst hv
    obtain ⟨n', ds', hn'⟩ := hl0
    obtain ⟨o, h5, xs, rfl, h6⟩ := r2.2.get hn'
    refine ⟨.inl ⟨rfl, xs, SqL.of (m2.getF h5)⟩, h2 σ G2 M2 (s.mono (e.trans e2)) r2.2 G2 H2 F (Ex.refl _) m2 _ fun y G3 M3 H3 e3 m3 r3 => ?_⟩
    obtain ⟨b, zs, rfl, hb, h9⟩ := r3.1
    obtain ⟨o, h7, ys, rfl, h8⟩ := r3.2.get hl
    refine ⟨ad, b, ys, zs, rfl, rfl, m3.getF h7, m3.ex _ _ hb, by rw [dpa_len h8, dpa_len h9]; exact Nat.le_of_lt (sz_ok hz), z _ G3 _ _ (e2.trans e3) (m3.putF h7) ⟨.non, Mm.set ?_ r3.2 hl⟩⟩
    exact ⟨_, rfl, dpa_app h8 h9⟩
theorem e_clear (n : Nat) (h : E1 te δ μ (Av ad) μ1) (hl : μ1[n]? = some (ad, OL K ds)) : E1 (tBM0 K "list" rClear te) δ μ (D K .none) (μ1.set n (ad, OL K [])) := fun σ G M s m G1 H F e m1 q z =>
  h σ G M s m G1 H F e m1 _ fun v G2 M2 H2 e2 m2 r2 => by
    have hv : v = .ref ad := r2.1
    subst hv
    obtain ⟨o, h5, xs, rfl, h6⟩ := r2.2.get hl
    exact ⟨.inl ⟨rfl, xs, SqL.of (m2.getF h5)⟩, ad, xs, rfl, rfl, m2.getF h5, z _ G2 _ _ e2 (m2.putF h5) ⟨.non, Mm.set (q' := OL K []) ⟨_, rfl, .nil⟩ r2.2 hl⟩⟩
theorem e_reverse (n : Nat) (h : E1 te δ μ (Av ad) μ1) (hl : μ1[n]? = some (ad, OL K ds)) : E1 (tBM0 K "list" rReverse te) δ μ (D K .none) (μ1.set n (ad, OL K ds.reverse)) := fun σ G M s m G1 H F e m1 q z =>
  h σ G M s m G1 H F e m1 _ fun v G2 M2 H2 e2 m2 r2 => by
    have hv : v = .ref ad := r2.1
    subst hv
    obtain ⟨o, h5, xs, rfl, h6⟩ := r2.2.get hl
    exact ⟨.inl ⟨rfl, xs, SqL.of (m2.getF h5)⟩, ad, xs, rfl, rfl, m2.getF h5, z _ G2 _ _ e2 (m2.putF h5) ⟨.non, Mm.set (q' := OL K ds.reverse) ⟨_, rfl, dpa_rev h6⟩ r2.2 hl⟩⟩
end

/-! ### walks -/
/-- a walk of n turns; X i is known of the i-th value -/
structure WkY (J : It) (n : Nat) (X : Nat → Pr) (G2 : Hp) (kp : Mp) : Prop where
  ex : ∃ (Gd : Hp → Prop) (Y : Nat → Hp → V → Hp → Prop), Walk J n Gd Y ∧ (∀ G3 M3 F3 H3 Mk, Ex G2 G3 → Me G3 (M3 ++ F3) H3 → Mk.Sublist M3 → Mm G3 Mk kp → Gd H3) ∧
    ∀ i G3 M3 F3 H3 x H4 Mk, i < n → Ex G2 G3 → Me G3 (M3 ++ F3) H3 → Mk.Sublist M3 → Mm G3 Mk kp → Y i H3 x H4 → ∃ G4, Ex G3 G4 ∧ Me G4 (M3 ++ F3) H4 ∧ (X i).p G4 x
def IY (wi : TI) (δ : En) (μ : Mp) (n : Nat) (X : Nat → Pr) (μ' : Mp) (kp : Mp := []) : Prop := ∀ σ G M, Sl G σ δ → Mm G M μ → ∀ G1 H F, Ex G G1 → Me G1 (M ++ F) H → ∀ Q : It → Hp → Prop,
  (∀ (J : It) G2 M2 H2, Ex G1 G2 → Me G2 (M2 ++ F) H2 → Mm G2 M2 μ' → WkY J n X G2 kp → Q J H2) → wi σ H Q
section
variable {E : XK} {K : PySem.W.Frag} {te ta tb tc : TE} {tt tu : TT} {tA tr : TA} {δ δ' δ1 δ2 : En} {μ μ' μ0 μ1 μ2 μ3 : Mp} {Q Q1 Q2 : Pr} {Ps : List Pr} {R : Pr → Mp → Prop} {d e : PyData} {ds es : List PyData} {i j : Int} {a b c : Bool} {k n : Nat} {ad : Addr} {t u : TS} {P P' : PY} {g : TG} {gs : TGs} {vs : List Nat} {wi : TI} {X : Nat → Pr}
/-- over data that stands still -/
theorem i_list (h : E1 te δ μ (D K (.list ds)) μ') : IY (iList K te) δ μ ds.length (fun i => D K ((ds[i]?).getD .none)) μ' := fun σ G M s m G1 H F e m1 Q q =>
  h σ G M s m G1 H F e m1 _ fun v G2 M2 H2 e2 m2 r2 => by
    obtain ⟨a, xs, rfl, hs, hd⟩ := dp_lst r2.1
    refine ⟨a, rfl, ⟨xs, ex_l m2.ex hs⟩, q _ G2 M2 H2 e2 m2 r2.2 ⟨⟨_, _, by rw [← dpa_len hd]; exact walk_list, fun G3 M3 F3 H3 _ e3 m3 _ _ => ex_l m3.ex (ex_l e3 hs), fun i G3 M3 F3 H3 x H4 Mk hi e3 m3 hsub hkp y => ?_⟩⟩⟩
    obtain ⟨rfl, hx⟩ := y
    obtain ⟨d, h1, h2⟩ := dpa_atV hd hx
    exact ⟨G3, Ex.refl _, m3, by rw [h1]; exact dm h2 e3⟩
theorem i_tup (h : E1 te δ μ (D K (.tuple ds)) μ') : IY (iTup K te) δ μ ds.length (fun i => D K ((ds[i]?).getD .none)) μ' := fun σ G M s m G1 H F e m1 Q q =>
  h σ G M s m G1 H F e m1 _ fun v G2 M2 H2 e2 m2 r2 => by
    obtain ⟨a, xs, rfl, hs, hd⟩ := dp_tup r2.1
    refine ⟨a, rfl, ⟨xs, ex_t m2.ex hs⟩, q _ G2 M2 H2 e2 m2 r2.2 ⟨⟨_, _, by rw [← dpa_len hd]; exact walk_tup, fun G3 M3 F3 H3 _ e3 m3 _ _ => ex_t m3.ex (ex_t e3 hs), fun i G3 M3 F3 H3 x H4 Mk hi e3 m3 hsub hkp y => ?_⟩⟩⟩
    obtain ⟨rfl, hx⟩ := y
    obtain ⟨d, h1, h2⟩ := dpa_atV hd hx
    exact ⟨G3, Ex.refl _, m3, by rw [h1]; exact dm h2 e3⟩
theorem i_lp (h : E1 te δ μ (Lp Ps) μ') : IY (iList K te) δ μ Ps.length (fun i => (Ps[i]?).getD (D K .none)) μ' := fun σ G M s m G1 H F e m1 Q q =>
  h σ G M s m G1 H F e m1 _ fun v G2 M2 H2 e2 m2 r2 => by
    obtain ⟨a, xs, rfl, hs, hd⟩ := r2.1
    refine ⟨a, rfl, ⟨xs, SqL.of (m2.ex _ _ hs)⟩, q _ G2 M2 H2 e2 m2 r2.2 ⟨⟨_, _, by rw [← AP.len hd]; exact walk_list, fun G3 M3 F3 H3 _ e3 m3 _ _ => SqL.of (m3.ex _ _ (e3 _ _ hs)), fun i G3 M3 F3 H3 x H4 Mk hi e3 m3 hsub hkp y => ?_⟩⟩⟩
    obtain ⟨rfl, hx⟩ := y
    have hi' : ∃ q, Ps[i]? = some q := ⟨_, List.getElem?_eq_getElem hi⟩
    obtain ⟨q, hq⟩ := hi'
    obtain ⟨v, h1, h2⟩ := AP.get hd hq
    rw [h1] at hx
    cases hx
    exact ⟨G3, Ex.refl _, m3, by rw [hq]; exact q.m _ _ _ e3 h2⟩
theorem i_rng1 (h : E1 te δ μ (D K (.int i)) μ') (hi : -(2 ^ 62) ≤ i ∧ i < 2 ^ 62) : IY (iRng1 (tCons te tNil)) δ μ i.toNat (fun k => D K (.int (k : Int))) μ' := fun σ G M s m G1 H F e m1 Q q =>
  (a_cons h a_nil) σ G M s m G1 H F e m1 _ fun ws G2 M2 H2 e2 m2 a2 r2 => by
    match ws, a2 with
    | [v], ⟨p1, _⟩ =>
    rw [dp_int p1]
    refine ⟨i, rfl, hi.1, hi.2, q _ G2 M2 H2 e2 m2 r2 ⟨⟨_, _, walk_range, fun _ _ _ _ _ _ _ _ _ => trivial, fun k G3 M3 F3 H3 x H4 Mk hk e3 m3 hsub hkp y => ?_⟩⟩⟩
    obtain ⟨rfl, rfl⟩ := y
    exact ⟨G3, Ex.refl _, m3, by show Dp K G3 (.int (0 + (k : Int))) _; rw [Int.zero_add]; exact .int _⟩
theorem i_rng2 (h : E1 ta δ μ (D K (.int i)) μ1) (h2 : E1 tb δ μ1 (D K (.int j)) μ') (hi : -(2 ^ 62) ≤ i ∧ i < 2 ^ 62 ∧ -(2 ^ 62) ≤ j ∧ j < 2 ^ 62) : IY (iRng2 (tCons ta (tCons tb tNil))) δ μ (j - i).toNat (fun k => D K (.int (i + (k : Int)))) μ' := fun σ G M s m G1 H F e m1 Q q =>
  (a_cons h (a_cons h2 a_nil)) σ G M s m G1 H F e m1 _ fun ws G2 M2 H2 e2 m2 a2 r2 => by
    match ws, a2 with
    | [v, w], ⟨p1, p2, _⟩ =>
    rw [dp_int p1, dp_int p2]
    refine ⟨i, j, rfl, hi, q _ G2 M2 H2 e2 m2 r2 ⟨⟨_, _, walk_range, fun _ _ _ _ _ _ _ _ _ => trivial, fun k G3 M3 F3 H3 x H4 Mk hk e3 m3 hsub hkp y => ?_⟩⟩⟩
    obtain ⟨rfl, rfl⟩ := y
    exact ⟨G3, Ex.refl _, m3, .int _⟩
theorem i_enum (h : E1 te δ μ (D K (.list ds)) μ') : IY (iEnum K (tCons te tNil)) δ μ ds.length (fun i => D K (.tuple [.int (i : Int), (ds[i]?).getD .none])) μ' := fun σ G M s m G1 H F e m1 Q q =>
  (a_cons h a_nil) σ G M s m G1 H F e m1 _ fun ws G2 M2 H2 e2 m2 a2 r2 => by
    match ws, a2 with
    | [v], ⟨p1, _⟩ =>
    obtain ⟨a, xs, rfl, hs, hd⟩ := dp_lst p1
    refine ⟨a, xs, rfl, ex_l m2.ex hs, q _ G2 M2 H2 e2 m2 r2 ⟨⟨_, _, by rw [← dpa_len hd]; exact walk_enum, fun G3 M3 F3 H3 _ e3 m3 _ _ => ex_l m3.ex (ex_l e3 hs), fun i G3 M3 F3 H3 x H4 Mk hi e3 m3 hsub hkp y => ?_⟩⟩⟩
    obtain ⟨T, x, y, rfl, hT, rfl, h1, h2⟩ := y
    cases h1
    obtain ⟨d, h3, h4⟩ := dpa_atV hd h2
    have g3 := m3.free hT
    refine ⟨_, Ex.new g3, m3.newF hT, ?_⟩
    rw [h3]
    exact .tup (SqT.of upd_same) (.cons (.int _) (.cons (dm h4 (e3.trans (Ex.new g3))) .nil))
theorem i_zip (h : E1 ta δ μ (D K (.list ds)) μ1) (h2 : E1 tb δ μ1 (D K (.list es)) μ') (hl : n = min ds.length es.length) : IY (iZip K (tCons ta (tCons tb tNil))) δ μ n (fun i => D K (.tuple [(ds[i]?).getD .none, (es[i]?).getD .none])) μ' := fun σ G M s m G1 H F e m1 Q q =>
  (a_cons h (a_cons h2 a_nil)) σ G M s m G1 H F e m1 _ fun ws G2 M2 H2 e2 m2 a2 r2 => by
    match ws, a2 with
    | [v, w], ⟨p1, p2, _⟩ =>
    obtain ⟨a, xs, rfl, hs, hd⟩ := dp_lst p1
    obtain ⟨b, ys, rfl, hs', hd'⟩ := dp_lst p2
    refine ⟨a, b, xs, ys, rfl, ex_l m2.ex hs, ex_l m2.ex hs', q _ G2 M2 H2 e2 m2 r2 ⟨⟨_, _, walk_zip (n := n) (by rw [hl, dpa_len hd, dpa_len hd']), fun G3 M3 F3 H3 _ e3 m3 _ _ => ⟨ex_l m3.ex (ex_l e3 hs), ex_l m3.ex (ex_l e3 hs')⟩, fun i G3 M3 F3 H3 x H4 Mk hi e3 m3 hsub hkp y => ?_⟩⟩⟩
    obtain ⟨T, x, y, rfl, hT, rfl, h1, h2⟩ := y
    obtain ⟨d, h3, h4⟩ := dpa_atV hd h1
    obtain ⟨d', h5, h6⟩ := dpa_atV hd' h2
    have g3 := m3.free hT
    refine ⟨_, Ex.new g3, m3.newF hT, ?_⟩
    rw [h3, h5]
    exact .tup (SqT.of upd_same) (.cons (dm h4 (e3.trans (Ex.new g3))) (.cons (dm h6 (e3.trans (Ex.new g3))) .nil))
/-- over a list that can be read as long as kp stands -/
theorem i_listR {kp : Mp} {P : Pr} (h : E1 te δ μ P μ') (hl : LR K P kp ds) (hs : kp.Sublist μ') : IY (iList K te) δ μ ds.length (fun i => D K ((ds[i]?).getD .none)) μ' kp := fun σ G M s m G1 H F e m1 Q q =>
  h σ G M s m G1 H F e m1 _ fun v G2 M2 H2 e2 m2 r2 => by
    obtain ⟨Mk, h1, h2⟩ := r2.2.sub hs
    obtain ⟨a, xs, rfl, hs', hd⟩ := hl.at G2 v Mk F H2 r2.1 h2 (m2.sub (List.Sublist.append_right h1 F))
    have rd : ∀ G3 M3 F3 H3 Mk', Ex G2 G3 → Me G3 (M3 ++ F3) H3 → Mk'.Sublist M3 → Mm G3 Mk' kp → ∃ ys, SqL K H3 a ys ∧ DpAll K G3 ys ds := fun G3 M3 F3 H3 Mk' e3 m3 hsub hk => by
      obtain ⟨a', ys, ea, k1, k2⟩ := hl.at G3 (.ref a) Mk' F3 H3 (P.m _ _ _ e3 r2.1) hk (m3.sub (List.Sublist.append_right hsub F3))
      cases ea
      exact ⟨ys, k1, k2⟩
    refine ⟨a, rfl, ⟨xs, hs'⟩, q _ G2 M2 H2 e2 m2 r2.2 ⟨⟨(fun H => ∃ ys, SqL K H a ys ∧ ys.length = ds.length), (fun i H x H' => H' = H ∧ ∀ xs, SqL K H a xs → xs[i]? = some x), ⟨?_, ?_, ?_⟩, ?_, ?_⟩⟩⟩
    · rintro i H hi ⟨ys, k1, k2⟩
      exact ⟨ys, ys[i], k1, List.getElem?_eq_getElem (by omega)⟩
    · rintro H ⟨ys, k1, k2⟩
      exact ⟨ys, k1, by omega⟩
    · rintro i H x H' hi _ y
      exact y
    · intro G3 M3 F3 H3 Mk' e3 m3 hsub hk
      obtain ⟨ys, k1, k2⟩ := rd G3 M3 F3 H3 Mk' e3 m3 hsub hk
      exact ⟨ys, k1, dpa_len k2⟩
    · rintro i G3 M3 F3 H3 x H4 Mk' hi e3 m3 hsub hk ⟨rfl, y⟩
      obtain ⟨ys, k1, k2⟩ := rd G3 M3 F3 H4 Mk' e3 m3 hsub hk
      obtain ⟨d, h3, h4⟩ := dpa_atV k2 (y ys k1)
      exact ⟨G3, Ex.refl _, m3, by rw [h3]; exact h4⟩
theorem i_enumR {kp : Mp} {P : Pr} (h : E1 te δ μ P μ') (hl : LR K P kp ds) (hs : kp.Sublist μ') : IY (iEnum K (tCons te tNil)) δ μ ds.length (fun i => D K (.tuple [.int (i : Int), (ds[i]?).getD .none])) μ' kp := fun σ G M s m G1 H F e m1 Q q =>
  (a_cons h a_nil) σ G M s m G1 H F e m1 _ fun ws G2 M2 H2 e2 m2 a2 r2 => by
    match ws, a2 with
    | [v], ⟨p1, _⟩ =>
    obtain ⟨Mk, h1, h2⟩ := r2.sub hs
    obtain ⟨a, xs, rfl, hs', hd⟩ := hl.at G2 v Mk F H2 p1 h2 (m2.sub (List.Sublist.append_right h1 F))
    have rd : ∀ G3 M3 F3 H3 Mk', Ex G2 G3 → Me G3 (M3 ++ F3) H3 → Mk'.Sublist M3 → Mm G3 Mk' kp → ∃ ys, SqL K H3 a ys ∧ DpAll K G3 ys ds := fun G3 M3 F3 H3 Mk' e3 m3 hsub hk => by
      obtain ⟨a', ys, ea, k1, k2⟩ := hl.at G3 (.ref a) Mk' F3 H3 (P.m _ _ _ e3 p1) hk (m3.sub (List.Sublist.append_right hsub F3))
      cases ea
      exact ⟨ys, k1, k2⟩
    refine ⟨a, xs, rfl, hs', q _ G2 M2 H2 e2 m2 r2 ⟨⟨(fun H => ∃ ys, SqL K H a ys ∧ ys.length = ds.length), (Ite K a).yld, ⟨?_, ?_, ?_⟩, ?_, ?_⟩⟩⟩
    · rintro i H hi ⟨ys, k1, k2⟩
      exact ⟨ys, ys[i], k1, List.getElem?_eq_getElem (by omega)⟩
    · rintro H ⟨ys, k1, k2⟩
      exact ⟨ys, k1, by omega⟩
    · rintro i H x H' hi _ y
      exact y
    · intro G3 M3 F3 H3 Mk' e3 m3 hsub hk
      obtain ⟨ys, k1, k2⟩ := rd G3 M3 F3 H3 Mk' e3 m3 hsub hk
      exact ⟨ys, k1, dpa_len k2⟩
    · rintro i G3 M3 F3 H3 x H4 Mk' hi e3 m3 hsub hk ⟨T, y, rfl, hT, rfl, hy⟩
      obtain ⟨ys, k1, k2⟩ := rd G3 M3 F3 H3 Mk' e3 m3 hsub hk
      obtain ⟨d, h3, h4⟩ := dpa_atV k2 (hy ys k1)
      have g3 := m3.free hT
      refine ⟨_, Ex.new g3, m3.newF hT, ?_⟩
      rw [h3]
      exact .tup (SqT.of upd_same) (.cons (.int _) (.cons (dm h4 (Ex.new g3)) .nil))
/-- for: I by the turn -/
theorem s_for {kp : Mp} (I : Nat → En → Mp → Prop) (hw : IY wi δ μ n X μ1 kp) (h0 : I 0 δ μ1)
    (hb : ∀ i δ' μ', i < n → I i δ' μ' → ∃ δ'' ks, G1 g (X i) δ' δ'' ks ∧ S1 E t δ'' μ' { P with nx := I (i + 1), ct := I (i + 1), bk := P.nx })
    (he : ∀ δ' μ', I n δ' μ' → P.nx δ' μ') (hk : ∀ i δ' μ', I i δ' μ' → kp.Sublist μ' := by intros; exact List.nil_sublist _) : S1 E (tFor wi g t) δ μ P := fun σ G M s m G1 H F D e m1 hd =>
  hw σ G M s m G1 H F e m1 _ fun J G2 M2 H2 e2 m2 r2 => by
    intro ⟨⟨Gd, Y, W, hG, hY⟩⟩
    refine for_it W (fun i σ' H' => ∃ G' M' δ' μ', I i δ' μ' ∧ Ex G2 G' ∧ Me G' (M' ++ F) H' ∧ Sl G' σ' δ' ∧ Mm G' M' μ') ⟨G2, M2, δ, μ1, h0, Ex.refl _, m2, s.mono (e.trans e2), r2⟩ ?_ ?_ ?_
    · rintro i σ' H' _ ⟨G', M', δ', μ', ii, e', m', _, r'⟩
      obtain ⟨Mk, h1, h2⟩ := r'.sub (hk _ _ _ ii)
      exact hG G' M' F H' Mk e' m' h1 h2
    · rintro i x σ' H' H4 hi ⟨G', M', δ', μ', ii, e', m', s', r'⟩ y
      obtain ⟨Mk, hk1, hk2⟩ := r'.sub (hk _ _ _ ii)
      obtain ⟨G4, e4, m4, px⟩ := hY i G' M' F H' x H4 Mk hi e' m' hk1 hk2 y
      obtain ⟨δ'', ks, hg, hs⟩ := hb i δ' μ' hi ii
      refine hg σ' G4 M' F H4 x (s'.mono e4) px m4 _ fun σ5 s5 _ => hs σ5 G4 M' s5 (r'.mono e4) G4 H4 F _ (Ex.refl _) m4 ⟨?_, ?_, ?_, ?_, ?_⟩
      · exact fun σ2 G3 M3 H3 e3 m3 ⟨x, y, n1, n2, n3⟩ => ⟨G3, M3, x, y, n1, (e'.trans e4).trans e3, m3, n2, n3⟩
      · exact fun v G3 M3 H3 e3 m3 r => hd.rt v G3 M3 H3 (((e2.trans e').trans e4).trans e3) m3 r
      · exact fun v G3 M3 H3 e3 m3 r => hd.nx v G3 M3 H3 (((e2.trans e').trans e4).trans e3) m3 r
      · exact fun σ2 G3 M3 H3 e3 m3 ⟨x, y, n1, n2, n3⟩ => ⟨G3, M3, x, y, n1, (e'.trans e4).trans e3, m3, n2, n3⟩
      · exact fun c v G3 M3 H3 e3 m3 r => hd.ex c v G3 M3 H3 (((e2.trans e').trans e4).trans e3) m3 r
    · rintro σ' H' ⟨G', M', δ', μ', ii, e', m', s', r'⟩
      exact hd.nx σ' G' M' H' (e2.trans e') m' ⟨δ', μ', he _ _ ii, s', r'⟩
/-- [e for x in l if t]: owned; Ms: what else is owned, by the turn -/
theorem o_lc {kp : Mp} (Ms : Nat → Mp) (bb : Nat → Bool) (fd : Nat → PyData) (hw : IY wi δ μ n X (Ms 0) kp) (hn : n ≤ 100000)
    (hb : ∀ i, i < n → ∃ δ'', G1 g (X i) (wipeY δ vs) δ'' vs ∧ T1 tt δ'' (Ms i) (bb i) (Ms i) ∧ (bb i = true → E1 te δ'' (Ms i) (D K (fd i)) (Ms (i + 1))) ∧ (bb i = false → Ms (i + 1) = Ms i)) (hk : ∀ i, kp.Sublist (Ms i) := by intros; exact List.nil_sublist _) :
    EO K (tLc wi g tt te vs) δ μ (kept n bb fd) (Ms n) := fun σ G M s m G1 H F e m1 Q q =>
  hw σ G M s m G1 H F e m1 _ fun J G2 M2 H2 e2 m2 r2 => by
    rintro ⟨⟨Gd, Y, W, hG, hY⟩⟩ D hD
    refine lc_it W (fun i H' => ∃ G' M' ws, Ex G2 G' ∧ Me G' (M' ++ (D, .lst ws) :: F) H' ∧ Mm G' M' (Ms i) ∧ DpAll K G' ws (kept i bb fd)) ?_ ?_ ?_ ?_
    · exact ⟨G2, M2, [], Ex.refl _, by rw [mem_mid]; exact m2.newMid hD, r2, .nil⟩
    · rintro i H' _ ⟨G', M', ws, e', m', r', _⟩
      obtain ⟨Mk, h1, h2⟩ := r'.sub (hk i)
      exact hG G' M' _ H' Mk e' m' h1 h2
    · rintro i x H' H4 hi ⟨G', M', ws, e', m', r', da⟩ y
      obtain ⟨Mk, hk1, hk2⟩ := r'.sub (hk i)
      obtain ⟨G4, e4, m4, px⟩ := hY i G' M' _ H' x H4 Mk hi e' m' hk1 hk2 y
      obtain ⟨δ'', hg, ht, he, hno⟩ := hb i hi
      have s4 : Sl G4 (wipe σ vs) (wipeY δ vs) := (s.mono (((e.trans e2).trans e').trans e4)).wipe vs
      refine hg _ G4 M' _ H4 x s4 px m4 _ fun σ5 s5 w5 => ⟨by rw [w5.wipe, wipe_wipe], ht σ5 G4 M' s5 (r'.mono e4) G4 H4 _ (Ex.refl _) m4 _ fun G5 M5 H5 e5 m5 r5 => ?_⟩
      have hlw : ws.length ≤ i := by rw [dpa_len da]; exact kept_len i bb fd
      cases hbb : bb i with
      | true =>
        rw [if_pos rfl]
        refine he hbb σ5 G5 M5 (s5.mono e5) r5 G5 H5 _ (Ex.refl _) m5 _ fun y G6 M6 H6 e6 m6 r6 => ?_
        have hm : (M6 ++ (D, HO.lst ws) :: F)[M6.length]? = some (D, .lst ws) := by
          rw [List.getElem?_append_right (Nat.le_refl _), Nat.sub_self]
          rfl
        refine ⟨ws, m6.get hm, sz_ok (by omega), G6, M6, ws ++ [y], ((e'.trans e4).trans e5).trans e6, ?_, r6.2, ?_⟩
        · have := m6.put (o' := .lst (ws ++ [y])) hm
          rw [List.set_append_right _ _ (Nat.le_refl _), Nat.sub_self] at this
          exact this
        · rw [kept_succ, hbb, if_pos rfl]
          exact dpa_app (dma da ((e4.trans e5).trans e6)) (.cons r6.1 .nil)
      | false =>
        rw [if_neg Bool.false_ne_true]
        refine ⟨G5, M5, ws, (e'.trans e4).trans e5, m5, by rw [hno hbb]; exact r5, ?_⟩
        rw [kept_succ, hbb, if_neg Bool.false_ne_true, List.append_nil]
        exact dma da (e4.trans e5)
    · rintro H' ⟨G', M', ws, e', m', r', da⟩
      rw [mem_mid] at m'
      exact q _ G' _ H' (e2.trans e') m' ⟨D, ws, M', rfl, rfl, da, r'⟩
end
end SY

set_option Elab.async false
set_option linter.all false
set_option maxRecDepth 100000
/-! SYc: defs by what is known of the arguments; calls; typed comprehensions. -/
namespace SY
open PySem PySem.Spec L2 SX

/-- less is told -/
def Imp (P Q : Pr) : Prop := ∀ G v, P.p G v → Q.p G v
theorem Imp.refl (P : Pr) : Imp P P := fun _ _ h => h
theorem imp_D {K : PySem.W.Frag} {d e : PyData} (h : d = e) : Imp (D K d) (D K e) := by rw [h]; exact Imp.refl _
theorem imp_H {K : PySem.W.Frag} {ds : List PyData} : Imp (Hl K ds) (D K (.list ds)) := fun G v h => by
  obtain ⟨a, xs, rfl, h1, h2⟩ := h
  exact .lst (SqL.of h1) h2
def ImpAll (K : PySem.W.Frag) : List Pr → List PyData → Prop
  | [], [] => True
  | P :: Ps, d :: ds => Imp P (D K d) ∧ ImpAll K Ps ds
  | _, _ => False
theorem impAll {K : PySem.W.Frag} {G : Hp} : ∀ {Ps : List Pr} {ds : List PyData} {vs : List V}, ImpAll K Ps ds → AP G Ps vs → DpAll K G vs ds
  | [], [], [], _, _ => .nil
  | _ :: _, _ :: _, _ :: _, h, a => .cons (h.1 _ _ a.1) (impAll h.2 a.2)
  | [], [], _ :: _, _, a => a.elim
  | _ :: _, _ :: _, [], _, a => a.elim
  | [], _ :: _, _, h, _ => h.elim
  | _ :: _, [], _, h, _ => h.elim
theorem imp_Tp {K : PySem.W.Frag} {Ps : List Pr} {ds : List PyData} (h : ImpAll K Ps ds) : Imp (Tp Ps) (D K (.tuple ds)) := fun G v p => by
  obtain ⟨a, vs, rfl, h1, h2⟩ := p
  exact .tup (SqT.of h1) (impAll h h2)
theorem imp_Lp {K : PySem.W.Frag} {Ps : List Pr} {ds : List PyData} (h : ImpAll K Ps ds) : Imp (Lp Ps) (D K (.list ds)) := fun G v p => by
  obtain ⟨a, vs, rfl, h1, h2⟩ := p
  exact .lst (SqL.of h1) (impAll h h2)
def startY (N : List Str) (Ps : List Pr) : En := Ps.map some ++ List.replicate (N.length - Ps.length) none
theorem sl_start {G : Hp} {N : List Str} {Ps : List Pr} {vs : List V} (h : AP G Ps vs) : Sl G (start N vs) (startY N Ps) := by
  have hl := AP.len h
  refine ⟨by simp [L2.start, startY, hl], fun k P hk => ?_⟩
  unfold startY at hk
  unfold L2.start
  rw [List.getElem?_append] at hk ⊢
  split at hk
  · rename_i hlt
    rw [List.getElem?_map] at hk
    cases q : Ps[k]? with
    | none => rw [q] at hk; cases hk
    | some p =>
      rw [q] at hk
      cases hk
      obtain ⟨v, h1, h2⟩ := AP.get h q
      rw [if_pos (by simpa [hl] using hlt)]
      exact ⟨v, by rw [List.getElem?_map, h1]; rfl, h2⟩
  · rw [List.getElem?_replicate] at hk
    split at hk <;> cases hk
/-- a promise: the arguments, what is owned there, what comes back and what is owned then -/
def sp {α : Type} (A : α → List Pr) (m : α → Mp) (pre : α → Prop) (R : α → Pr → Mp → Prop) : Sp :=
  spec (fun x G M vs => Mm G M (m x) ∧ AP G (A x) vs ∧ pre x) (fun x _ G v M' => ∃ Q μ', R x Q μ' ∧ Q.p G v ∧ Mm G M' μ')
/-- what is handed back is as promised -/
@[irreducible] def BackY {α : Type} (R : α → Pr → Mp → Prop) (x : α) (Q : Pr) (μ : Mp) : Prop := ∃ Q2 μ2, R x Q2 μ2 ∧ Imp Q Q2 ∧ μ2.Sublist μ
theorem backY_mk {α : Type} {R : α → Pr → Mp → Prop} {x : α} {Q Q2 : Pr} {μ μ2 : Mp} (h : R x Q2 μ2) (hi : Imp Q Q2) (hs : μ2.Sublist μ) : BackY R x Q μ := by
  unfold BackY
  exact ⟨Q2, μ2, h, hi, hs⟩
theorem backY_of {α : Type} {R : α → Pr → Mp → Prop} {x : α} {Q : Pr} {μ : Mp} (h : BackY R x Q μ) : ∃ Q2 μ2, R x Q2 μ2 ∧ Imp Q Q2 ∧ μ2.Sublist μ := by
  unfold BackY at h
  exact h
section
variable {P : Program} {w : World} {K : PySem.W.Frag} {mg : Str → Option Value} {base : Heap} {α : Type} {A : α → List Pr} {m : α → Mp} {pre : α → Prop} {R : α → Pr → Mp → Prop}
theorem fn_Y {x qual : Str} {st : Stmt} {f : Addr} {fd : FuncData} {N ps : List Str} {k : Nat} (F : Fun K x qual st f fd) (S : FnScope N ps (defScope st)) (len : ∀ x, (A x).length = ps.length)
    (body : ∀ (cdv : Value) (Ar : Around) (outer : List Env) (s : Shared) (H : Hp) (E : XK), Room k (Ar.deeper (PyProof.Rows.envOfC qual (defScope st) s.heap.objs.size f cdv)) →
      ∃ t, PSs (cxOf CX0 P w K mg base N qual (defScope st) f cdv Ar outer s H E).nox (defBody st) t ∧ ∀ x, pre x → S1 E t (startY N (A x)) (m x) { nx := fun _ μ => BackY R x (D K .none) μ, rt := BackY R x }) :
    FnOk P w K mg base CX0 (k + 1) f fd ps (sp A m pre R) := by
  refine fn_sv F S (fun x G M vs h => by rw [AP.len h.2.1, len]) fun cdv Ar outer s H E hr => ?_
  obtain ⟨t, ht, hs⟩ := body cdv Ar outer s H E hr
  refine ⟨t, ht, fun x G M vs h => ?_⟩
  have hb : ∀ {Q : Pr} {μ : Mp} {G' : Hp} {v : V} {M' : Mem} {F : Mem} {H' : Hp}, BackY R x Q μ → Q.p G' v → Mm G' M' μ → Me G' (M' ++ F) H' → ∃ M2, Me G' (M2 ++ F) H' ∧ ∃ Q2 μ2, R x Q2 μ2 ∧ Q2.p G' v ∧ Mm G' M2 μ2 := by
    intro Q μ G' v M' F H' hq hp hm he
    obtain ⟨Q2, μ2, h1, h2, h3⟩ := backY_of hq
    obtain ⟨M2, h4, h5⟩ := hm.sub h3
    exact ⟨M2, he.sub (List.Sublist.append_right h4 F), Q2, μ2, h1, h2 _ _ hp, h5⟩
  intro G1 H F DD e m1 hd
  refine hs x h.2.2 _ G M (sl_start h.2.1) h.1 G1 H F DD e m1 ⟨?_, ?_, ?_, ?_, ?_⟩
  · rintro σ2 G2 M2 H2 e2 m2 ⟨δ2, μ2, n0, n1, n2⟩
    obtain ⟨M3, m3, r⟩ := hb n0 .non n2 m2
    exact hd.nx σ2 G2 M3 H2 e2 m3 r
  · rintro v G2 M2 H2 e2 m2 ⟨Q2, μ2, n0, n1, n2⟩
    obtain ⟨M3, m3, r⟩ := hb n0 n1 n2 m2
    exact hd.rt v G2 M3 H2 e2 m3 r
  · rintro σ2 G2 M2 H2 e2 m2 ⟨δ2, μ2, n0, _⟩
    exact n0.elim
  · rintro σ2 G2 M2 H2 e2 m2 ⟨δ2, μ2, n0, _⟩
    exact n0.elim
  · rintro c d G2 M2 H2 e2 m2 ⟨μ2, n0, _⟩
    exact n0.elim
end
theorem cx_K {P : Program} {w : World} {K : PySem.W.Frag} {mg : Str → Option Value} {base : Heap} {N : List Str} {q : Str} {sc : Scope} {f : Addr} {cdv : Value} {A : Around} {outer : List Env} {s : Shared} {H : Hp} {E : XK} : (cxOf CX0 P w K mg base N q sc f cdv A outer s H E).nox.K = K := rfl
theorem cx_KX {P : Program} {w : World} {K : PySem.W.Frag} {mg : Str → Option Value} {base : Heap} {N : List Str} {q : Str} {sc : Scope} {f : Addr} {cdv : Value} {A : Around} {outer : List Env} {s : Shared} {H : Hp} {E : XK} {CX : CXT} : (cxOf CX P w K mg base N q sc f cdv A outer s H E).K = K := rfl
/-- nothing owned, one thing back -/
abbrev spD {α : Type} (A : α → List Pr) (pre : α → Prop) (B : α → Pr) : Sp := sp A (fun _ => []) pre (fun x Q μ => Q = B x ∧ μ = [])
/-- a deck first -/
abbrev spK {α : Type} (A : α → List Pr) (pre : α → Prop) (D0 : α → Deck) (B : α → Pr) (D1 : α → Deck) : Sp := sp (fun x : Addr × α => Av x.1 :: A x.2) (fun x => [(x.1, DKo (D0 x.2))]) (fun x => pre x.2) (fun x Q μ => Q = B x.2 ∧ μ = [(x.1, DKo (D1 x.2))])
theorem back_D {α : Type} {B : α → Pr} {x : α} {Q : Pr} {μ : Mp} (h : Imp Q (B x)) : BackY (fun x Q μ => Q = B x ∧ μ = []) x Q μ := backY_mk ⟨rfl, rfl⟩ h (List.nil_sublist _)
theorem back_K {α : Type} {B : α → Pr} {D1 : α → Deck} {x : Addr × α} {Q : Pr} {D : Deck} {μ : Mp} (h : Imp Q (B x.2)) (hD : D = D1 x.2) : BackY (fun x Q μ => Q = B x.2 ∧ μ = [(x.1, DKo (D1 x.2))]) x Q ((x.1, DKo D) :: μ) := backY_mk ⟨rfl, rfl⟩ h (by rw [hD]; exact (List.nil_sublist _).cons_cons _)
section
variable {E : XK} {K : PySem.W.Frag} {te ta tb tc tl : TE} {tt tu : TT} {tA tr : TA} {δ δ' : En} {μ μ' μ0 μ1 μ2 rest : Mp} {Q P1 P2 : Pr} {Ps : List Pr} {d e : PyData} {ds es : List PyData} {i j : Int} {a b c : Bool} {k n : Nat} {ad : Addr} {g : TG} {vs : List Nat} {wi : TI}
section
variable {α : Type} {A : α → List Pr} {m : α → Mp} {pre : α → Prop} {R : α → Pr → Mp → Prop} {B : α → Pr} {D0 D1 : α → Deck}
theorem y_call (x : α) (h : EA tA δ μ (A x) (m x ++ rest)) (hp : pre x) : EY (tCall (sp A m pre R) [] E tA) δ μ (fun Q μ' => ∃ μ2, R x Q μ2 ∧ μ' = μ2 ++ rest) := fun σ G M s mm G1 H F e m1 q z =>
  h σ G M s mm G1 H F e m1 _ fun vs G2 M2 H2 e2 m2 a2 r2 => by
    obtain ⟨Ma, Mb, rfl, ma, mb⟩ := Mm.cut r2
    refine ⟨x, G2, Ma, Mb ++ F, by rw [← List.append_assoc]; exact m2, ⟨ma, by rw [List.append_nil]; exact a2, hp⟩, fun v G' M' H' e' m' ⟨Q, μ', r0, r1, r2⟩ => ?_⟩
    exact z v G' (M' ++ Mb) H' (e2.trans e') (by rw [List.append_assoc]; exact m') ⟨Q, _, ⟨μ', r0, rfl⟩, r1, Mm.app r2 (mb.mono e')⟩
theorem e_callD (x : α) (h : EA tA δ μ (A x) μ1) (hp : pre x) : E1 (tCall (spD A pre B) [] E tA) δ μ (B x) μ1 := ((y_call (m := fun _ => []) (R := fun x Q μ => Q = B x ∧ μ = []) x h hp).imp fun Q μ' r => by
  obtain ⟨_, ⟨rfl, rfl⟩, rfl⟩ := r
  exact ⟨rfl, rfl⟩).one
theorem e_callR {α : Type} {A : α → List Pr} {m : α → Mp} {pre : α → Prop} {B : α → Pr} (x : α) (h : EA tA δ μ (A x) (m x)) (hp : pre x) : E1 (tCall (sp A m pre (fun x Q μ => Q = B x ∧ μ = m x)) [] E tA) δ μ (B x) (m x) := ((y_call (m := m) (rest := []) (R := fun x Q μ => Q = B x ∧ μ = m x) x (by rw [List.append_nil]; exact h) hp).imp fun Q μ' r => by
  obtain ⟨_, ⟨rfl, rfl⟩, rfl⟩ := r
  exact ⟨rfl, List.append_nil _⟩).one
theorem back_R {α : Type} {m : α → Mp} {B : α → Pr} {x : α} {Q : Pr} {μ : Mp} (h : Imp Q (B x)) (hm : (m x).Sublist μ) : BackY (fun x Q μ => Q = B x ∧ μ = m x) x Q μ := backY_mk ⟨rfl, rfl⟩ h hm
theorem e_callK (x : α) (h : EA tA δ μ (Av ad :: A x) ((ad, DKo (D0 x)) :: rest)) (hp : pre x) : E1 (tCall (spK A pre D0 B D1) [] E tA) δ μ (B x) ((ad, DKo (D1 x)) :: rest) := ((y_call (A := fun x : Addr × α => Av x.1 :: A x.2) (m := fun x => [(x.1, DKo (D0 x.2))]) (pre := fun x => pre x.2) (R := fun x Q μ => Q = B x.2 ∧ μ = [(x.1, DKo (D1 x.2))]) (ad, x) h hp).imp fun Q μ' r => by
  obtain ⟨_, ⟨rfl, rfl⟩, rfl⟩ := r
  exact ⟨rfl, rfl⟩).one
end
/-! typed comprehensions -/
theorem kept_mapM {α : Type} {enc out : α → PyData} {xs : List α} {fd : Nat → PyData} (h : ∀ (i : Nat) x, xs[i]? = some x → fd i = out x) : kept xs.length (fun _ => true) fd = xs.map out := kept_ext (by simp) fun i d hd => by
  rw [List.getElem?_map] at hd
  cases q : xs[i]? with
  | none => rw [q] at hd; cases hd
  | some x => rw [q] at hd; cases hd; exact h i x q
theorem getD_map {α : Type} {enc : α → PyData} {xs : List α} {i : Nat} {x : α} (h : xs[i]? = some x) : ((xs.map enc)[i]?).getD .none = enc x := by
  rw [List.getElem?_map, h]
  rfl
/-- a walk over typed items -/
theorem o_mapW {α : Type} {out : α → PyData} {xs : List α} {X : Nat → Pr} {en : α → Pr} (hw : IY wi δ μ xs.length X μ1) (hX : ∀ (i : Nat) x, xs[i]? = some x → X i = en x) (hn : xs.length ≤ 100000)
    (hb : ∀ x, x ∈ xs → ∃ δ'', G1 g (en x) (wipeY δ vs) δ'' vs ∧ E1 te δ'' μ1 (D K (out x)) μ1) : EO K (tLc wi g tYes te vs) δ μ (xs.map out) μ1 := by
  have := o_lc (K := K) (g := g) (tt := tYes) (te := te) (vs := vs) (fun _ => μ1) (fun _ => true) (fun i => ((xs.map out)[i]?).getD .none) hw hn fun i hi => by
    have hx : xs[i]? = some xs[i] := List.getElem?_eq_getElem hi
    obtain ⟨δ'', h1, h2⟩ := hb xs[i] (List.getElem_mem hi)
    exact ⟨δ'', by rw [hX i _ hx]; exact h1, t_yes, fun _ => by rw [getD_map hx]; exact h2, fun z => by cases z⟩
  rw [kept_mapM (enc := out) (out := out) fun i x h => getD_map h] at this
  exact this
theorem o_mapL {α : Type} {enc out : α → PyData} {xs : List α} (hs : E1 tl δ μ (D K (.list (xs.map enc))) μ1) (hn : xs.length ≤ 100000)
    (hb : ∀ x, x ∈ xs → E1 te ((wipeY δ vs).set k (some (D K (enc x)))) μ1 (D K (out x)) μ1) (hk : k ∈ vs := by decide) : EO K (tLc (iList K tl) (gName k) tYes te vs) δ μ (xs.map out) μ1 :=
  o_mapW (X := fun i => D K (((xs.map enc)[i]?).getD .none)) (en := fun x => D K (enc x)) (by have := i_list hs; rw [List.length_map] at this; exact this) (fun i x h => by rw [getD_map h]) hn fun x hx => ⟨_, g_name hk, hb x hx⟩
theorem o_mapT {α : Type} {enc out : α → PyData} {xs : List α} (hs : E1 tl δ μ (D K (.tuple (xs.map enc))) μ1) (hn : xs.length ≤ 100000)
    (hb : ∀ x, x ∈ xs → E1 te ((wipeY δ vs).set k (some (D K (enc x)))) μ1 (D K (out x)) μ1) (hk : k ∈ vs := by decide) : EO K (tLc (iTup K tl) (gName k) tYes te vs) δ μ (xs.map out) μ1 :=
  o_mapW (X := fun i => D K (((xs.map enc)[i]?).getD .none)) (en := fun x => D K (enc x)) (by have := i_tup hs; rw [List.length_map] at this; exact this) (fun i x h => by rw [getD_map h]) hn fun x hx => ⟨_, g_name hk, hb x hx⟩
theorem o_mapR {out : Nat → PyData} (hs : E1 ta δ μ (D K (.int i)) μ1) (hi : -100000 ≤ i ∧ i ≤ 100000)
    (hb : ∀ x : Nat, x < i.toNat → E1 te ((wipeY δ vs).set k (some (D K (.int (x : Int))))) μ1 (D K (out x)) μ1) (hk : k ∈ vs := by decide) : EO K (tLc (iRng1 (tCons ta tNil)) (gName k) tYes te vs) δ μ ((List.range i.toNat).map out) μ1 :=
  o_mapW (xs := List.range i.toNat) (X := fun k => D K (.int (k : Int))) (en := fun x => D K (.int (x : Int))) (by rw [List.length_range]; exact i_rng1 hs (by omega)) (fun i x h => by rw [List.getElem?_eq_some_iff] at h; obtain ⟨_, h⟩ := h; rw [← h, List.getElem_range]) (by rw [List.length_range]; omega) fun x hx => ⟨_, g_name hk, hb x (List.mem_range.mp hx)⟩
theorem o_mapR2 {out : Int → PyData} (hs : E1 ta δ μ (D K (.int i)) μ0) (hs2 : E1 tb δ μ0 (D K (.int j)) μ1) (hi : -50000 ≤ i ∧ i ≤ 50000 ∧ -50000 ≤ j ∧ j ≤ 50000)
    (hb : ∀ x : Int, i ≤ x → x < j → E1 te ((wipeY δ vs).set k (some (D K (.int x)))) μ1 (D K (out x)) μ1) (hk : k ∈ vs := by decide) : EO K (tLc (iRng2 (tCons ta (tCons tb tNil))) (gName k) tYes te vs) δ μ (((List.range (j - i).toNat).map fun (x : Nat) => i + (x : Int)).map out) μ1 :=
  o_mapW (xs := (List.range (j - i).toNat).map fun (x : Nat) => i + (x : Int)) (X := fun k => D K (.int (i + (k : Int)))) (en := fun x => D K (.int x)) (by rw [List.length_map, List.length_range]; exact i_rng2 hs hs2 (by omega)) (fun n x h => by
    rw [List.getElem?_map] at h
    cases q : (List.range (j - i).toNat)[n]? with
    | none => rw [q] at h; cases h
    | some y =>
      rw [q] at h
      cases h
      rw [List.getElem?_eq_some_iff] at q
      obtain ⟨_, q⟩ := q
      rw [← q, List.getElem_range]) (by rw [List.length_map, List.length_range]; omega) fun x hx => ⟨_, g_name hk, by
    obtain ⟨n, hn, rfl⟩ := List.mem_map.mp hx
    rw [List.mem_range] at hn
    exact hb _ (by omega) (by omega)⟩
/-- with a test -/
theorem kept_filter {α : Type} {out : α → PyData} {xs : List α} {p : α → Bool} {bb : Nat → Bool} {fd : Nat → PyData} (h : ∀ (i : Nat) x, xs[i]? = some x → bb i = p x ∧ fd i = out x) : kept xs.length bb fd = (xs.filter p).map out := by
  have : ∀ n, n ≤ xs.length → kept n bb fd = ((xs.take n).filter p).map out := fun n => by
    induction n with
    | zero => intro _; rfl
    | succ n ih =>
      intro hn
      have hx : xs[n]? = some xs[n] := List.getElem?_eq_getElem (by omega)
      obtain ⟨h1, h2⟩ := h n _ hx
      rw [kept_succ, ih (by omega), List.take_add_one, hx, h1, h2]
      simp only [Option.toList, List.filter_append, List.map_append]
      cases hp : p xs[n] <;> simp [hp]
  rw [this _ (Nat.le_refl _), List.take_length]
theorem o_filtW {α : Type} {out : α → PyData} {p : α → Bool} {xs : List α} {X : Nat → Pr} {en : α → Pr} (hw : IY wi δ μ xs.length X μ1) (hX : ∀ (i : Nat) x, xs[i]? = some x → X i = en x) (hn : xs.length ≤ 100000)
    (hb : ∀ x, x ∈ xs → ∃ δ'', G1 g (en x) (wipeY δ vs) δ'' vs ∧ T1 tt δ'' μ1 (p x) μ1 ∧ (p x = true → E1 te δ'' μ1 (D K (out x)) μ1)) : EO K (tLc wi g tt te vs) δ μ ((xs.filter p).map out) μ1 := by
  have := o_lc (K := K) (g := g) (tt := tt) (te := te) (vs := vs) (fun _ => μ1) (fun i => ((xs[i]?).map p).getD false) (fun i => ((xs.map out)[i]?).getD .none) hw hn fun i hi => by
    have hx : xs[i]? = some xs[i] := List.getElem?_eq_getElem hi
    obtain ⟨δ'', h1, h2, h3⟩ := hb xs[i] (List.getElem_mem hi)
    refine ⟨δ'', by rw [hX i _ hx]; exact h1, by rw [hx]; exact h2, fun z => by rw [getD_map hx]; rw [hx] at z; exact h3 z, fun _ => rfl⟩
  rw [kept_filter (p := p) (out := out) fun i x h => ⟨by rw [h]; rfl, getD_map h⟩] at this
  exact this
theorem o_filtL {α : Type} {enc out : α → PyData} {p : α → Bool} {xs : List α} (hs : E1 tl δ μ (D K (.list (xs.map enc))) μ1) (hn : xs.length ≤ 100000)
    (hb : ∀ x, x ∈ xs → T1 tt ((wipeY δ vs).set k (some (D K (enc x)))) μ1 (p x) μ1) (hb2 : ∀ x, x ∈ xs → p x = true → E1 te ((wipeY δ vs).set k (some (D K (enc x)))) μ1 (D K (out x)) μ1) (hk : k ∈ vs := by decide) : EO K (tLc (iList K tl) (gName k) tt te vs) δ μ ((xs.filter p).map out) μ1 :=
  o_filtW (X := fun i => D K (((xs.map enc)[i]?).getD .none)) (en := fun x => D K (enc x)) (by have := i_list hs; rw [List.length_map] at this; exact this) (fun i x h => by rw [getD_map h]) hn fun x hx => ⟨_, g_name hk, hb x hx, hb2 x hx⟩
theorem o_filtR {out : Nat → PyData} {p : Nat → Bool} (hs : E1 ta δ μ (D K (.int i)) μ1) (hi : -100000 ≤ i ∧ i ≤ 100000)
    (hb : ∀ x : Nat, x < i.toNat → T1 tt ((wipeY δ vs).set k (some (D K (.int (x : Int))))) μ1 (p x) μ1) (hb2 : ∀ x : Nat, x < i.toNat → p x = true → E1 te ((wipeY δ vs).set k (some (D K (.int (x : Int))))) μ1 (D K (out x)) μ1) (hk : k ∈ vs := by decide) : EO K (tLc (iRng1 (tCons ta tNil)) (gName k) tt te vs) δ μ (((List.range i.toNat).filter p).map out) μ1 :=
  o_filtW (xs := List.range i.toNat) (X := fun k => D K (.int (k : Int))) (en := fun x => D K (.int (x : Int))) (by rw [List.length_range]; exact i_rng1 hs (by omega)) (fun i x h => by rw [List.getElem?_eq_some_iff] at h; obtain ⟨_, h⟩ := h; rw [← h, List.getElem_range]) (by rw [List.length_range]; omega) fun x hx => ⟨_, g_name hk, hb x (List.mem_range.mp hx), hb2 x (List.mem_range.mp hx)⟩
/-- what is drawn by turns -/
theorem o_drawR {A : Addr} {Dk : Nat → Deck} {out : Nat → PyData} (hs : E1 ta δ μ (D K (.int i)) ((A, DKo (Dk 0)) :: rest)) (hi : -100000 ≤ i ∧ i ≤ 100000)
    (hb : ∀ x : Nat, x < i.toNat → E1 te ((wipeY δ vs).set k (some (D K (.int (x : Int))))) ((A, DKo (Dk x)) :: rest) (D K (out x)) ((A, DKo (Dk (x + 1))) :: rest)) (hk : k ∈ vs := by decide) : EO K (tLc (iRng1 (tCons ta tNil)) (gName k) tYes te vs) δ μ ((List.range i.toNat).map out) ((A, DKo (Dk i.toNat)) :: rest) := by
  have := o_lc (K := K) (g := gName k) (tt := tYes) (te := te) (vs := vs) (fun n => (A, DKo (Dk n)) :: rest) (fun _ => true) out (i_rng1 hs (by omega)) (by omega) fun n hn => ⟨_, g_name hk, t_yes, fun _ => hb n hn, fun z => by cases z⟩
  rw [kept_all] at this
  exact this
theorem e_allO {f : α → Bool} {xs : List α} (h : EO K te δ μ (xs.map fun x => .bool (f x)) μ1) : E1 (tCB (rAll K) (tCons te tNil)) δ μ (D K (.bool (xs.all f))) μ1 := by
  have := e_all (bs := xs.map f) (by rw [List.map_map]; exact h.frz)
  rw [List.all_map] at this
  exact this
theorem e_anyO {f : α → Bool} {xs : List α} (h : EO K te δ μ (xs.map fun x => .bool (f x)) μ1) : E1 (tCB (rAny K) (tCons te tNil)) δ μ (D K (.bool (xs.any f))) μ1 := by
  have := e_any (bs := xs.map f) (by rw [List.map_map]; exact h.frz)
  rw [List.any_map] at this
  exact this
theorem e_sumO {f : α → Int} {xs : List α} (h : EO K te δ μ (xs.map fun x => .int (f x)) μ1) : E1 (tCB (rSum K) (tCons te tNil)) δ μ (D K (.int (xs.map f).sum)) μ1 :=
  e_sum (P1 := D K (.list ((xs.map f).map .int))) (by rw [List.map_map]; exact h.frz) lr_D
end
end SY

set_option Elab.async false
set_option linter.all false
set_option maxRecDepth 100000
/-! SYd: deeds, doings, adding as data. -/
namespace SY
open PySem PySem.Spec L2 SX
inductive Deed where
  | forget | again | off (d : Int) | read (j d : Int) | copy (j : Int) | swap | out | twice | right
  deriving DecidableEq
def Deed.L : Deed → List PyData
  | .forget => [.str "forget"]
  | .again => [.str "again"]
  | .off d => [.str "off", .int d]
  | .read j d => [.str "read", .int j, .int d]
  | .copy j => [.str "copy", .int j]
  | .swap => [.str "swap"]
  | .out => [.str "out"]
  | .twice => [.str "twice"]
  | .right => [.str "right"]
def Deed.word : Deed → Str
  | .forget => "forget"
  | .again => "again"
  | .off _ => "off"
  | .read _ _ => "read"
  | .copy _ => "copy"
  | .swap => "swap"
  | .out => "out"
  | .twice => "twice"
  | .right => "right"
abbrev deedD (x : Deed) : PyData := .tuple x.L
abbrev odD : Option Deed → PyData
  | none => .none
  | some x => deedD x
theorem cdiv_small {i j : Int} (h0 : 0 < j) (h1 : j < 2 ^ 64) : CDivW i j := wide_div h0 (b := 64) (by omega) (by decide) (by decide)
theorem e_word {K : PySem.W.Frag} {ta : TE} {δ : En} {μ μ1 : Mp} {x : Deed} (h : E1 ta δ μ (D K (.tuple (Deed.L x))) μ1) : E1 (tOp (rIxT K) ta (tC (.int 0))) δ μ (D K (.str x.word)) μ1 := e_ixT h e_cI (by cases x <;> rfl)
/-- what a doing gives: figures, the carry then; none where it is not possible -/
def stepD : Option (List Int × Int) → PyData
  | none => .none
  | some (fs, c) => .tuple [.list (fs.map .int), .int c]
/-- .., its figures a list that stands in the heap -/
def stepP (K : PySem.W.Frag) : Option (List Int × Int) → Pr
  | none => D K .none
  | some (fs, c) => Tp [Hl K (fs.map .int), D K (.int c)]
theorem imp_step {K : PySem.W.Frag} : ∀ r : Option (List Int × Int), Imp (stepP K r) (D K (stepD r))
  | none => Imp.refl _
  | some (fs, c) => imp_Tp ⟨imp_H, Imp.refl _, trivial⟩
def doSum (b t c : Int) : Option Deed → Option (List Int × Int)
  | some .out => some ([], c)
  | some .forget => if (t + c) / b > 0 then some ([(t + c) % b], 0) else none
  | some .again => some ([(t + c) % b], (t + c) / b + 1)
  | some (.off d) => some ([((t + c) % b + d) % b], (t + c) / b)
  | some .twice => some ([(t + c) % b, (t + (t + c) / b) % b], (t + (t + c) / b) / b)
  | _ => some ([(t + c) % b], (t + c) / b)
def sumTaken (b : Int) (c : List Int) (cp : Int) : Option Deed → Int
  | some (.read j d) => c.sum - c.getD j.toNat 0 + (c.getD j.toNat 0 + d) % b
  | some (.copy j) => c.sum - c.getD j.toNat 0 + cp
  | _ => c.sum
/-- the row of a deed is one of these -/
def RowOk (n : Nat) : Option Deed → Prop
  | some (.read j _) => 0 ≤ j ∧ j < n
  | some (.copy j) => 0 ≤ j ∧ j < n
  | _ => True
/-- columns done rightly -/
def doCols (b : Int) : List (List Int) → Int → List Int × Int
  | [], c => ([], c)
  | x :: xs, c => let r := doCols b xs ((x.sum + c) / b); ((x.sum + c) % b :: r.1, r.2)
theorem doCols_app (b : Int) : ∀ (xs ys : List (List Int)) (c : Int), doCols b (xs ++ ys) c = ((doCols b xs c).1 ++ (doCols b ys (doCols b xs c).2).1, (doCols b ys (doCols b xs c).2).2)
  | [], _, _ => by simp [doCols]
  | x :: xs, ys, c => by simp [doCols, doCols_app b xs ys]
theorem doCols_snoc (b : Int) (xs : List (List Int)) (x : List Int) (c : Int) : doCols b (xs ++ [x]) c = ((doCols b xs c).1 ++ [(x.sum + (doCols b xs c).2) % b], (x.sum + (doCols b xs c).2) / b) := by
  rw [doCols_app]
  rfl
theorem doCols_len (b : Int) : ∀ (xs : List (List Int)) (c : Int), (doCols b xs c).1.length = xs.length
  | [], _ => rfl
  | x :: xs, c => by simp [doCols, doCols_len b xs]
end SY
namespace SY
open PySem PySem.Spec L2 SX
theorem w_read {x : Deed} (h : decide (x.word = "read") = true) : ∃ j d, x = .read j d := by cases x <;> first | exact ⟨_, _, rfl⟩ | (exfalso; have h := of_decide_eq_true h; revert h; simp only [Deed.word]; decide)
theorem w_copy {x : Deed} (h : decide (x.word = "copy") = true) : ∃ j, x = .copy j := by cases x <;> first | exact ⟨_, rfl⟩ | (exfalso; have h := of_decide_eq_true h; revert h; simp only [Deed.word]; decide)
theorem w_off {x : Deed} (h : decide (x.word = "off") = true) : ∃ d, x = .off d := by cases x <;> first | exact ⟨_, rfl⟩ | (exfalso; have h := of_decide_eq_true h; revert h; simp only [Deed.word]; decide)
theorem w_forget {x : Deed} (h : decide (x.word = "forget") = true) : x = .forget := by cases x <;> first | rfl | (exfalso; have h := of_decide_eq_true h; revert h; simp only [Deed.word]; decide)
theorem w_again {x : Deed} (h : decide (x.word = "again") = true) : x = .again := by cases x <;> first | rfl | (exfalso; have h := of_decide_eq_true h; revert h; simp only [Deed.word]; decide)
theorem w_swap {x : Deed} (h : decide (x.word = "swap") = true) : x = .swap := by cases x <;> first | rfl | (exfalso; have h := of_decide_eq_true h; revert h; simp only [Deed.word]; decide)
theorem w_out {x : Deed} (h : decide (x.word = "out") = true) : x = .out := by cases x <;> first | rfl | (exfalso; have h := of_decide_eq_true h; revert h; simp only [Deed.word]; decide)
theorem w_twice {x : Deed} (h : decide (x.word = "twice") = true) : x = .twice := by cases x <;> first | rfl | (exfalso; have h := of_decide_eq_true h; revert h; simp only [Deed.word]; decide)
end SY

set_option Elab.async false
set_option linter.all false
set_option maxRecDepth 100000
/-! SYe: sheets, written results; promises of the older kind. -/
namespace SY
open PySem PySem.Spec L2 SX
section
variable {E : XK} {K : PySem.W.Frag} {C C2 : Addr} {te ta tb tc tl : TE} {tt tu : TT} {tA tr : TA} {δ δ' : En} {μ μ' μ0 μ1 μ2 rest : Mp} {Q P P1 P2 : Pr} {Ps : List Pr} {R : Post} {d e : PyData} {ds es : List PyData} {i j b r b' r' last last' : Int} {cs cs' : List (List Int)} {figs figs' : List Int} {k n : Nat} {ad l : Addr} {m : Str} {t u : TS} {PP : PY}
section
variable {α : Type} {pre : α → Hp → Mem → List V → Prop} {post : α → Mem → Post} {σ : L2.St} {G : Hp} {M : Mem}
theorem ev_callO (h : EA tA δ μ Ps μ1) (s : Sl G σ δ) (mm : Mm G M μ) (hp : ∀ G M vs, AP G Ps vs → Mm G M μ1 → ∃ x, pre x G M vs ∧ ∀ G' v M', Ex G G' → post x M G' v M' → R G' v M') : Ev (tCall (spec pre post) [] E tA) σ G M R := fun G1 H F e m1 q z =>
  h σ G M s mm G1 H F e m1 _ fun vs G2 M2 H2 e2 m2 a2 r2 => by
    obtain ⟨x, h1, h2⟩ := hp G2 M2 vs a2 r2
    exact ⟨x, G2, M2, F, m2, by rw [List.append_nil]; exact h1, fun v G' M' H' e' m' r' => z v G' M' H' (e2.trans e') m' (h2 G' v M' e' r')⟩
theorem ev_propO (h : E1 ta δ μ P1 μ1) (s : Sl G σ δ) (mm : Mm G M μ) (hp : ∀ G v M, P1.p G v → Mm G M μ1 → ∃ x p dx fs, v = .ref p ∧ At G M p (.ins C dx fs) ∧ pre x G M [.ref p] ∧ ∀ G' v' M', Ex G G' → post x M G' v' M' → R G' v' M') : Ev (tProp C (spec pre post) [] E ta) σ G M R := fun G1 H F e m1 q z =>
  h σ G M s mm G1 H F e m1 _ fun v G2 M2 H2 e2 m2 r2 => by
    obtain ⟨x, p, dx, fs, rfl, h1, h2, h3⟩ := hp G2 v M2 r2.1 r2.2
    exact ⟨p, dx, fs, rfl, h1 G2 H2 F (Ex.refl _) m2, x, G2, M2, F, m2, h2, fun v G' M' H' e' m' r' => z v G' M' H' (e2.trans e') m' (h3 G' v M' e' r')⟩
theorem ev_methO (h : E1 ta δ μ P1 μ1) (h2 : EA tA δ μ1 Ps μ2) (s : Sl G σ δ) (mm : Mm G M μ) (hi : ∀ G v M, P1.p G v → Mm G M μ1 → ∃ p dx fs, v = .ref p ∧ At G M p (.ins C dx fs) ∧ fs.lookup m = none)
    (hp : ∀ G v vs M, P1.p G v → AP G Ps vs → Mm G M μ2 → ∃ x, pre x G M (v :: vs) ∧ ∀ G' v' M', Ex G G' → post x M G' v' M' → R G' v' M') : Ev (tMeth C m (spec pre post) [] E ta tA) σ G M R := fun G1 H F e m1 q z =>
  h σ G M s mm G1 H F e m1 _ fun v G2 M2 H2 e2 m2 r2 => by
    obtain ⟨p, dx, fs, rfl, h3, h4⟩ := hi G2 v M2 r2.1 r2.2
    refine ⟨p, dx, fs, rfl, h3 G2 H2 F (Ex.refl _) m2, h4, h2 σ G2 M2 (s.mono (e.trans e2)) r2.2 G2 H2 F (Ex.refl _) m2 _ fun vs G3 M3 H3 e3 m3 a3 r3 => ?_⟩
    obtain ⟨x, h5, h6⟩ := hp G3 _ vs M3 (P1.m _ _ _ e3 r2.1) a3 r3
    exact ⟨x, G3, M3, F, m3, by rw [List.append_nil]; exact h5, fun v G' M' H' e' m' r' => z v G' M' H' ((e2.trans e3).trans e') m' (h6 G' v M' e' r')⟩
end
/-! sheets -/
/-- a sheet that stands still; one whose list l is owned -/
def ShF (K : PySem.W.Frag) (C : Addr) (b r : Int) (cs : List (List Int)) : Pr := ⟨ShFz K C b r cs, fun _ _ _ e h => Mono.mono _ _ _ e h⟩
def ShI (C : Addr) (b r : Int) (l : Addr) : Pr := ⟨fun G v => ∃ p dx, v = .ref p ∧ G p = some (.ins C dx (shF (.int b) (.int r) (.ref l))), fun _ _ _ e h => by obtain ⟨p, dx, h1, h2⟩ := h; exact ⟨p, dx, h1, e _ _ h2⟩⟩
def SR (K : PySem.W.Frag) (C : Addr) (P : Pr) (μ : Mp) (b r : Int) (cs : List (List Int)) : Prop := ∀ G v M, P.p G v → Mm G M μ → ∃ p, v = .ref p ∧ ShAt K C G M p b r cs
theorem sr_F : SR K C (ShF K C b r cs) μ b r cs := fun G v M h _ => by
  obtain ⟨p, rfl, h2⟩ := ShFz.at_ h
  exact ⟨p, rfl, h2 M⟩
theorem sr_O (i : Nat) (h : μ[i]? = some (l, OL K (cs.map colD))) : SR K C (ShI C b r l) μ b r cs := fun G v M hv mm => by
  obtain ⟨p, dx, rfl, h1⟩ := hv
  obtain ⟨o, h2, xs, rfl, h3⟩ := mm.get h
  exact ⟨p, rfl, dx, l, xs, .G h1, .M h2, h3⟩
theorem sr_cons {x : Addr × Ob} (h : SR K C P μ b r cs) : SR K C P (x :: μ) b r cs := fun G v M hv mm => by
  match M, mm with
  | m :: M, mm =>
    obtain ⟨p, rfl, h2⟩ := h G v M hv mm.2
    obtain ⟨dx, l, xs, h3, h4, h5⟩ := h2
    refine ⟨p, rfl, dx, l, xs, fun G1 H F e m1 => h3 G1 H F e (m1.sub (List.sublist_cons_self _ _)), fun G1 H F e m1 => h4 G1 H F e (m1.sub (List.sublist_cons_self _ _)), h5⟩
theorem lr_cons {x : Addr × Ob} (h : LR K P μ ds) : LR K P (x :: μ) ds := fun G v M hv mm => by
  match M, mm with
  | m :: M, mm =>
    obtain ⟨a, xs, h1, h2, h3⟩ := h G v M hv mm.2
    exact ⟨a, xs, h1, fun G1 H F e m1 => h2 G1 H F e (m1.sub (List.sublist_cons_self _ _)), h3⟩
theorem ShAt.ins {G : Hp} {M : Mem} {p : Addr} (h : ShAt K C G M p b r cs) : ∃ dx fs, At G M p (.ins C dx fs) := by
  obtain ⟨dx, l, xs, h1, _⟩ := h
  exact ⟨dx, _, h1⟩
theorem SR.pre (hs : SR K C P μ b r cs) {G : Hp} {v : V} {M : Mem} (h : P.p G v) (mm : Mm G M μ) : ∃ p dx fs, v = .ref p ∧ At G M p (.ins C dx fs) ∧ ShAt K C G M p b r cs := by
  obtain ⟨p, rfl, h2⟩ := hs G v M h mm
  obtain ⟨dx, fs, h3⟩ := ShAt.ins h2
  exact ⟨p, dx, fs, rfl, h3, h2⟩
theorem e_shBase (h : E1 ta δ μ P μ1) (hs : SR K C P μ1 b r cs) : E1 (tProp C (spec (shPre K C) fun x M => isV (.int x.2.1) M) [] E ta) δ μ (D K (.int b)) μ1 := fun σ G M s mm =>
  ev_propO h s mm fun G v M hv m2 => by
    obtain ⟨p, dx, fs, rfl, h1, h2⟩ := hs.pre hv m2
    refine ⟨(p, b, r, cs), p, dx, fs, rfl, h1, ⟨rfl, h2⟩, ?_⟩
    rintro G' _ _ e ⟨rfl, rfl⟩
    exact ⟨.int b, m2.mono e⟩
theorem e_shRows (h : E1 ta δ μ P μ1) (hs : SR K C P μ1 b r cs) : E1 (tProp C (spec (shPre K C) fun x M => isV (.int x.2.2.1) M) [] E ta) δ μ (D K (.int r)) μ1 := fun σ G M s mm =>
  ev_propO h s mm fun G v M hv m2 => by
    obtain ⟨p, dx, fs, rfl, h1, h2⟩ := hs.pre hv m2
    refine ⟨(p, b, r, cs), p, dx, fs, rfl, h1, ⟨rfl, h2⟩, ?_⟩
    rintro G' _ _ e ⟨rfl, rfl⟩
    exact ⟨.int r, m2.mono e⟩
theorem o_shCols (h : E1 ta δ μ P μ1) (hs : SR K C P μ1 b r cs) : EO K (tProp C (spec (shPre K C) fun x M => own K (x.2.2.2.map colD) M) [] E ta) δ μ (cs.map colD) μ1 := fun σ G M s mm =>
  ev_propO h s mm fun G v M hv m2 => by
    obtain ⟨p, dx, fs, rfl, h1, h2⟩ := hs.pre hv m2
    refine ⟨(p, b, r, cs), p, dx, fs, rfl, h1, ⟨rfl, h2⟩, ?_⟩
    rintro G' _ _ e ⟨q, vs, rfl, rfl, hd⟩
    exact ⟨q, vs, M, rfl, rfl, hd, m2.mono e⟩
theorem e_shVal (h : E1 ta δ μ P μ1) (hs : SR K C P μ1 b r cs) (g : GoodSh b r cs) : E1 (tProp C (spec (shGPre K C) fun x M => isV (.int (valueOf x.2.1 x.2.2.2)) M) [] E ta) δ μ (D K (.int (valueOf b cs))) μ1 := fun σ G M s mm =>
  ev_propO h s mm fun G v M hv m2 => by
    obtain ⟨p, dx, fs, rfl, h1, h2⟩ := hs.pre hv m2
    have := g.b2
    have := g.b12
    have := g.len
    refine ⟨(p, b, r, cs), p, dx, fs, rfl, h1, ⟨⟨rfl, h2⟩, by show cs.length ≤ 100000; omega, by show -(2 ^ 64) < b ∧ b < 2 ^ 64; omega⟩, ?_⟩
    rintro G' _ _ e ⟨rfl, rfl⟩
    exact ⟨.int _, m2.mono e⟩
theorem e_shLen (h : E1 ta δ μ P μ1) (hs : SR K C P μ1 b r cs) (hl : cs.length ≤ 10000) : E1 (tCB (rLenO C (spec (shPre K C) fun x M => isV (.int (x.2.2.2.length : Int)) M) E) (tCons ta tNil)) δ μ (D K (.int (cs.length : Int))) μ1 := fun σ G M s mm G1 H F e m1 q z =>
  h σ G M s mm G1 H F e m1 _ fun v G2 M2 H2 e2 m2 r2 => by
    obtain ⟨p, dx, fs, rfl, h1, h2⟩ := hs.pre r2.1 r2.2
    refine ⟨p, dx, fs, rfl, h1 G2 H2 F (Ex.refl _) m2, (p, b, r, cs), G2, M2, F, m2, ⟨rfl, h2⟩, ?_⟩
    rintro v G' M' H' e' m' ⟨rfl, rfl⟩
    exact ⟨_, rfl, ⟨by show (0 : Int) ≤ (cs.length : Int); omega, by show (cs.length : Int) < 2 ^ 63; omega⟩, z _ G' _ H' (e2.trans e') m' ⟨.int _, r2.2.mono e'⟩⟩
theorem e_shIx (h : E1 ta δ μ P μ1) (h' : E1 tb δ μ1 (D K (.int i)) μ2) (hs : SR K C P μ2 b r cs) (hi : 0 ≤ i ∧ i < cs.length) : E1 (tOp (rIxO C (spec (shIxPre K C) fun x M => isD K (colD x.2.2) M) E) ta tb) δ μ (D K (colD (cs.getD i.toNat []))) μ2 :=
  e_op h h' fun G H F M x y m mm p1 p2 Q q => by
    rw [dp_int p2]
    obtain ⟨p, dx, fs, rfl, h1, h2⟩ := hs.pre p1 mm
    refine ⟨p, dx, fs, rfl, h1 G H F (Ex.refl _) m, ((p, b, r, cs), i, cs.getD i.toNat []), G, M, F, m, ⟨rfl, h2, hi.1, ?_⟩, ?_⟩
    · have : i.toNat < cs.length := by omega
      show cs[i.toNat]? = some (cs.getD i.toNat [])
      simp [List.getD, List.getElem?_eq_getElem this]
    · rintro v G' M' H' e' m' ⟨h3, rfl⟩
      exact q v G' _ H' e' m' h3 (mm.mono e')
theorem shF_cut {l : V} : (shF (.int b) (.int r) l).lookup ("cut" : Str) = none := shF_no (by decide +kernel) (by decide +kernel) (by decide +kernel)
/-- what is new: an instance that stands still, its list owned -/
theorem y_new {M : Mem} {G : Hp} (mm : Mm G M μ) {G' : Hp} {v : V} {M' : Mem} (e : Ex G G') (h : newSh K C b r cs M G' v M') : ∃ l ys, M' = M ++ [(l, .lst ys)] ∧ (ShI C b r l).p G' v ∧ Mm G' M' (μ ++ [(l, OL K (cs.map colD))]) := by
  obtain ⟨p, dx, l, ys, rfl, h1, rfl, h2⟩ := h
  exact ⟨l, ys, rfl, ⟨p, dx, rfl, h1⟩, Mm.app (mm.mono e) ⟨⟨rfl, ys, rfl, h2⟩, trivial⟩⟩
def newY (K : PySem.W.Frag) (C : Addr) (b r : Int) (cs : List (List Int)) (μ : Mp) : Pr → Mp → Prop := fun P μ' => ∃ l, P = ShI C b r l ∧ μ' = μ ++ [(l, OL K (cs.map colD))]
theorem y_shCut (h : E1 ta δ μ P μ1) (h1 : E1 tb δ μ1 (D K (.int i)) μ1) (h2 : E1 tc δ μ1 (D K (.int j)) μ1) (hs : SR K C P μ1 b r cs) (g : GoodSh b r cs) (hi : 0 ≤ i) (hj : 0 ≤ j) : EY (tMeth C "cut" (spec (cutPre K C) (cutPost K C)) [] E ta (tCons tb (tCons tc tNil))) δ μ (newY K C b r (cutL cs i j) μ1) := fun σ G M s mm =>
  ev_methO h (a_cons h1 (a_cons h2 a_nil)) s mm (fun G v M hv m2 => by
    obtain ⟨p, rfl, dx, l, xs, k1, k2, k3⟩ := hs G v M hv m2
    exact ⟨p, dx, _, rfl, k1, shF_cut⟩) fun G v vs M hv a m2 => by
    obtain ⟨p, dx, fs, rfl, k1, k2⟩ := hs.pre hv m2
    match vs, a with
    | [v1, v2], ⟨q1, q2, _⟩ =>
    refine ⟨((p, b, r, cs), i, j), ⟨by rw [dp_int q1, dp_int q2], k2, g, hi, hj⟩, fun G' v' M' e r => ?_⟩
    obtain ⟨l, ys, rfl, h5, h6⟩ := y_new m2 e r
    exact ⟨_, _, ⟨l, rfl, rfl⟩, h5, h6⟩
/-- .. all of it stands still -/
theorem EY.frzNew (h : EY te δ μ (newY K C b r cs μ1)) : E1 te δ μ (ShF K C b r cs) μ1 := fun σ G M s mm G1 H F e m1 q z => h σ G M s mm G1 H F e m1 q fun v G2 M2 H2 e2 m2 r2 => by
  obtain ⟨P, μ2, ⟨l, rfl, rfl⟩, ⟨p, dx, rfl, h1⟩, h2⟩ := r2
  obtain ⟨Ma, Mb, rfl, ma, mb⟩ := Mm.cut h2
  obtain ⟨o, rfl, xs, rfl, h3⟩ := Mm.sing mb
  obtain ⟨m3, e3⟩ := m2.freezeLast
  exact z _ _ Ma H2 (e2.trans e3) m3 ⟨⟨p, dx, l, xs, rfl, e3 _ _ h1, SqL.of upd_same, dma h3 e3⟩, ma.mono e3⟩
theorem y_shAdd (h1 : E1 ta δ μ P1 μ1) (h2 : E1 tb δ μ1 P2 μ2) (s1 : SR K C P1 μ2 b r cs) (s2 : SR K C P2 μ2 b r cs') (g : GoodSh b r cs) (g' : GoodSh b r cs') (hl : cs.length + cs'.length ≤ 10000) : EY (tOp (rBinO C (spec (addGPre K C) (addPost K C)) E) ta tb) δ μ (newY K C b r (cs ++ cs') μ2) := fun σ G M s mm G1 H F e m1 q z =>
  h1 σ G M s mm G1 H F e m1 _ fun x G2 M2 H2 e2 m2 r2 => h2 σ G2 M2 (s.mono (e.trans e2)) r2.2 G2 H2 F (Ex.refl _) m2 _ fun y G3 M3 H3 e3 m3 r3 => by
    obtain ⟨p, dx, fs, rfl, k1, k2⟩ := s1.pre (P1.m _ _ _ e3 r2.1) r3.2
    obtain ⟨p', dx', fs', rfl, k3, k4⟩ := s2.pre r3.1 r3.2
    refine ⟨p, dx, fs, p', dx', fs', rfl, rfl, k1 G3 H3 F (Ex.refl _) m3, k3 G3 H3 F (Ex.refl _) m3, ((p, b, r, cs), (p', b, r, cs')), G3, M3, F, m3, ⟨⟨rfl, k2, k4, g, g', hl⟩, rfl, rfl⟩, fun v G' M' H' e' m' r' => ?_⟩
    obtain ⟨l, ys, rfl, h5, h6⟩ := y_new r3.2 e' r'.2
    exact z v G' _ H' ((e2.trans e3).trans e') m' ⟨_, _, ⟨l, rfl, rfl⟩, h5, h6⟩
/-- one op other by the own comparison -/
theorem e_shCmp {f : PyData → PyData → Bool} (h1 : E1 ta δ μ P1 μ1) (h2 : E1 tb δ μ1 P2 μ2) (s1 : SR K C P1 μ2 b r cs) (s2 : SR K C P2 μ2 b' r' cs') : E1 (tOp (rCmpO C (spec (cmpPre K C) (cmpPost f)) E) ta tb) δ μ (D K (.bool (f (placeD b r cs) (placeD b' r' cs')))) μ2 :=
  e_op h1 h2 fun G H F M x y m mm p1 p2 Q q => by
    obtain ⟨p, dx, fs, rfl, k1, k2⟩ := s1.pre p1 mm
    obtain ⟨p', dx', fs', rfl, k3, k4⟩ := s2.pre p2 mm
    refine ⟨p, dx, fs, p', dx', fs', rfl, rfl, k1 G H F (Ex.refl _) m, k3 G H F (Ex.refl _) m, ((p, b, r, cs), (p', b', r', cs')), G, M, F, m, ⟨rfl, k2, k4⟩, ?_⟩
    rintro v G' M' H' e' m' ⟨rfl, rfl⟩
    exact q _ G' _ H' e' m' (.bl _) (mm.mono e')
/-- a sheet is made -/
theorem y_mkSh (h1 : E1 ta δ μ (D K (.int b)) μ0) (h2 : E1 tb δ μ0 (D K (.int r)) μ1) (h3 : E1 tc δ μ1 P μ2) (hl : LR K P μ2 (cs.map colD)) (g : GoodSh b r cs) : EY (tMake C (spec (mkShPre K C) (mkShPost K C)) [] E (tCons ta (tCons tb (tCons tc tNil)))) δ μ (newY K C b r cs μ2) := fun σ G M s mm G1 H F e m1 q z =>
  (a_cons h1 (a_cons h2 (a_cons h3 a_nil))) σ G M s mm G1 H F e m1 _ fun vs G2 M2 H2 e2 m2 a2 r2 => by
    match vs, a2 with
    | [v1, v2, v3], ⟨q1, q2, q3, _⟩ =>
    obtain ⟨a, xs, rfl, hA, hd⟩ := hl G2 v3 M2 q3 r2
    rw [dp_int q1, dp_int q2]
    have k := ev_mkSh (K := K) (σ := σ) (G := G2) (M := M2) (M1 := M2) (tA := fun _ H Q => Q [.int b, .int r, .ref a] H) (E := E) (C := C) (a := a) (b := b) (r := r) (cs := cs) (fun G1 H F e m Q q => q _ G1 H (Ex.refl _) m ⟨rfl, rfl, rfl, trivial⟩) hA hd g
    refine k G2 H2 F (Ex.refl _) m2 q fun v G3 M3 H3 e3 m3 r3 => ?_
    obtain ⟨l, ys, rfl, h5, h6⟩ := y_new r2 e3 r3
    exact z v G3 _ H3 (e2.trans e3) m3 ⟨_, _, ⟨l, rfl, rfl⟩, h5, h6⟩
/-- s[i] = column, of a sheet whose list is owned -/
theorem s_shSet {to ti : TE} {c : List Int} {n : Nat} {E' : XK} (h : E1 te δ μ (D K (colD c)) μ1) (h1 : E1 to δ μ1 (ShI C b r l) μ1) (h2 : E1 ti δ μ1 (D K (.int i)) μ1) (hl : μ1[n]? = some (l, OL K (cs.map colD))) (hi : 0 ≤ i ∧ i < cs.length) (g : GoodCol b r c) (hc : c.length ≤ 100000) (k' : PP.nx δ (μ1.set n (l, OL K ((cs.set i.toNat c).map colD)))) :
    S1 E (tAsg te (gSub to ti (rSetO C (spec (setGPre K C) (setPost K)) E'))) δ μ PP := fun σ G M s m G1 H F DD e m1 hd =>
  h σ G M s m G1 H F e m1 _ fun v G2 M2 H2 e2 m2 r2 => h1 σ G2 M2 (s.mono (e.trans e2)) r2.2 G2 H2 F (Ex.refl _) m2 _ fun x G3 M3 H3 e3 m3 r3 => h2 σ G3 M3 (s.mono ((e.trans e2).trans e3)) r3.2 G3 H3 F (Ex.refl _) m3 _ fun y G4 M4 H4 e4 m4 r4 => by
    obtain ⟨p, dx, rfl, hp⟩ := r3.1
    rw [dp_int r4.1]
    obtain ⟨o, h5, xs, rfl, h6⟩ := r4.2.get hl
    have hxl : xs.length = cs.length := by rw [dpa_len h6, List.length_map]
    have hj : ixN xs.length i = some i.toNat := by
      unfold ixN
      rw [if_pos hi.1, if_pos (by rw [hxl]; exact hi.2)]
    have hp4 := m4.ex _ _ (e4 _ _ hp)
    refine ⟨p, dx, _, rfl, hp4, ⟨p, dx, l, n, b, r, xs, i, i.toNat, v, colD c⟩, G4, M4, F, m4, ⟨⟨rfl, .G (e4 _ _ hp), h5, hj, dm r2.1 (e3.trans e4), by rw [dlen_colD]; exact hc⟩, isCol_good g⟩, ?_⟩
    rintro w G' M' H' e' m' ⟨_, rfl, y, hy, rfl⟩
    refine hd.nx _ G' _ H' (((e2.trans e3).trans e4).trans e') m' ⟨_, _, k', s.mono ((((e.trans e2).trans e3).trans e4).trans e'), Mm.set ?_ (r4.2.mono e') hl⟩
    refine ⟨_, rfl, ?_⟩
    rw [List.map_set]
    exact dpa_set (dma h6 e') hy
/-! written results -/
def WrP (K : PySem.W.Frag) (C : Addr) (b : Int) (figs : List Int) (last : Int) : Pr := ⟨WrFz K C b figs last, fun _ _ _ e h => Mono.mono _ _ _ e h⟩
theorem wr_pre {G : Hp} {v : V} (h : (WrP K C b figs last).p G v) (M : Mem) : ∃ p dx fs, v = .ref p ∧ At G M p (.ins C dx fs) ∧ WrG K C p b figs last G := by
  obtain ⟨p, rfl, dx, l, xs, h1, h2, h3⟩ := h
  exact ⟨p, dx, _, rfl, .G h1, dx, l, xs, h1, h2, h3⟩
theorem e_wrBase (h : E1 ta δ μ (WrP K C b figs last) μ1) : E1 (tProp C (spec (wrPre K C) fun x M => isV (.int x.2.1) M) [] E ta) δ μ (D K (.int b)) μ1 := fun σ G M s mm =>
  ev_propO h s mm fun G v M hv m2 => by
    obtain ⟨p, dx, fs, rfl, h1, h2⟩ := wr_pre hv M
    refine ⟨(p, b, figs, last), p, dx, fs, rfl, h1, ⟨rfl, h2⟩, ?_⟩
    rintro G' _ _ e ⟨rfl, rfl⟩
    exact ⟨.int b, m2.mono e⟩
theorem e_wrLast (h : E1 ta δ μ (WrP K C b figs last) μ1) : E1 (tProp C (spec (wrPre K C) fun x M => isV (.int x.2.2.2) M) [] E ta) δ μ (D K (.int last)) μ1 := fun σ G M s mm =>
  ev_propO h s mm fun G v M hv m2 => by
    obtain ⟨p, dx, fs, rfl, h1, h2⟩ := wr_pre hv M
    refine ⟨(p, b, figs, last), p, dx, fs, rfl, h1, ⟨rfl, h2⟩, ?_⟩
    rintro G' _ _ e ⟨rfl, rfl⟩
    exact ⟨.int last, m2.mono e⟩
theorem o_wrFigs (h : E1 ta δ μ (WrP K C b figs last) μ1) : EO K (tProp C (spec (wrPre K C) fun x M => own K (x.2.2.1.map .int) M) [] E ta) δ μ (figs.map .int) μ1 := fun σ G M s mm =>
  ev_propO h s mm fun G v M hv m2 => by
    obtain ⟨p, dx, fs, rfl, h1, h2⟩ := wr_pre hv M
    refine ⟨(p, b, figs, last), p, dx, fs, rfl, h1, ⟨rfl, h2⟩, ?_⟩
    rintro G' _ _ e ⟨q, vs, rfl, rfl, hd⟩
    exact ⟨q, vs, M, rfl, rfl, hd, m2.mono e⟩
theorem e_wrVal (h : E1 ta δ μ (WrP K C b figs last) μ1) (hb : -(2 ^ 64) < b ∧ b < 2 ^ 64) : E1 (tProp C (spec (wrGPre K C) fun x M => isV (.int (horner x.2.1 x.2.2.1 x.2.2.2)) M) [] E ta) δ μ (D K (.int (horner b figs last))) μ1 := fun σ G M s mm =>
  ev_propO h s mm fun G v M hv m2 => by
    obtain ⟨p, dx, fs, rfl, h1, h2⟩ := wr_pre hv M
    refine ⟨(p, b, figs, last), p, dx, fs, rfl, h1, ⟨⟨rfl, h2⟩, hb⟩, ?_⟩
    rintro G' _ _ e ⟨rfl, rfl⟩
    exact ⟨.int _, m2.mono e⟩
theorem wrF_rest {b l last : V} : (wrF b l last).lookup ("rest" : Str) = none := wrF_no (by decide +kernel) (by decide +kernel) (by decide +kernel)
theorem e_wrRest (h : E1 ta δ μ (WrP K C b figs last) μ1) (h2 : E1 tb δ μ1 (D K (.int i)) μ2) (hb : -(2 ^ 64) < b ∧ b < 2 ^ 64) (hi : 0 < i) : E1 (tMeth C "rest" (spec (restPre K C) restPost) [] E ta (tCons tb tNil)) δ μ (D K (.int (horner b figs last % i))) μ2 := fun σ G M s mm =>
  ev_methO h (a_cons h2 a_nil) s mm (fun G v M hv m2 => by
    obtain ⟨p, rfl, dx, l, xs, h1, _⟩ := hv
    exact ⟨p, dx, _, rfl, .G h1, wrF_rest⟩) fun G v vs M hv a m2 => by
    obtain ⟨p, dx, fs, rfl, k1, k2⟩ := wr_pre hv M
    match vs, a with
    | [v1], ⟨q1, _⟩ =>
    refine ⟨((p, b, figs, last), i), ⟨by rw [dp_int q1], k2, hb, hi⟩, ?_⟩
    rintro G' v' M' e ⟨rfl, rfl⟩
    exact ⟨.int _, m2.mono e⟩
theorem e_wrSub (h1 : E1 ta δ μ (WrP K C b figs last) μ1) (h2 : E1 tb δ μ1 P2 μ2) (s2 : SR K C2 P2 μ2 b' r' cs') (hb : -(2 ^ 64) < b ∧ b < 2 ^ 64) (hb' : -(2 ^ 64) < b' ∧ b' < 2 ^ 64) (hl : cs'.length ≤ 100000) : E1 (tOp (rBin2 C C2 (spec (wsubPre K C C2) wsubPost) E) ta tb) δ μ (D K (.int (horner b figs last - valueOf b' cs'))) μ2 :=
  e_op h1 h2 fun G H F M x y m mm p1 p2 Q q => by
    obtain ⟨p, dx, fs, rfl, k1, k2⟩ := wr_pre p1 M
    obtain ⟨p', dx', fs', rfl, k3, k4⟩ := s2.pre p2 mm
    refine ⟨p, dx, fs, p', dx', fs', rfl, rfl, k1 G H F (Ex.refl _) m, k3 G H F (Ex.refl _) m, ((p, b, figs, last), (p', b', r', cs')), G, M, F, m, ⟨rfl, k2, k4, hb, hb', hl⟩, ?_⟩
    rintro v G' M' H' e' m' ⟨rfl, rfl⟩
    exact q _ G' _ H' e' m' (.int _) (mm.mono e')
theorem e_wrEq (h1 : E1 ta δ μ (WrP K C b figs last) μ1) (h2 : E1 tb δ μ1 (WrP K C b' figs' last') μ2) : E1 (tOp (rCmpO C (spec (weqPre K C) weqPost) E) ta tb) δ μ (D K (.bool (decide ((b, figs, last) = (b', figs', last'))))) μ2 :=
  e_op h1 h2 fun G H F M x y m mm p1 p2 Q q => by
    obtain ⟨p, dx, fs, rfl, k1, k2⟩ := wr_pre p1 M
    obtain ⟨p', dx', fs', rfl, k3, k4⟩ := wr_pre p2 M
    refine ⟨p, dx, fs, p', dx', fs', rfl, rfl, k1 G H F (Ex.refl _) m, k3 G H F (Ex.refl _) m, ((p, b, figs, last), (p', b', figs', last')), G, M, F, m, ⟨rfl, k2, k4⟩, ?_⟩
    rintro v G' M' H' e' m' ⟨rfl, rfl⟩
    exact q _ G' _ H' e' m' (.bl _) (mm.mono e')
theorem e_mkWr (h1 : E1 ta δ μ (D K (.int b)) μ0) (h2 : E1 tb δ μ0 P μ1) (h3 : E1 tc δ μ1 (D K (.int last)) μ2) (hl : LR K P μ2 (figs.map .int)) : E1 (tMake C (spec (mkWrPre K C) (mkWrPost K C)) [] E (tCons ta (tCons tb (tCons tc tNil)))) δ μ (WrP K C b figs last) μ2 := fun σ G M s mm G1 H F e m1 q z =>
  (a_cons h1 (a_cons h2 (a_cons h3 a_nil))) σ G M s mm G1 H F e m1 _ fun vs G2 M2 H2 e2 m2 a2 r2 => by
    match vs, a2 with
    | [v1, v2, v3], ⟨q1, q2, q3, _⟩ =>
    obtain ⟨a, xs, rfl, hA, hd⟩ := hl G2 v2 M2 q2 r2
    rw [dp_int q1, dp_int q3]
    have k := ev_mkWr (K := K) (σ := σ) (G := G2) (M := M2) (M1 := M2) (tA := fun _ H Q => Q [.int b, .ref a, .int last] H) (E := E) (C := C) (b := b) (last := last) (figs := figs) (Pv := fun _ v => v = .ref a) (fun G1 H F e m Q q => q _ G1 H (Ex.refl _) m ⟨rfl, rfl, rfl, trivial⟩) fun G1 v e h => .inr ⟨a, xs, _, h, rfl, hA.ex e, dma hd e⟩
    refine k G2 H2 F (Ex.refl _) m2 q fun v G3 M3 H3 e3 m3 r3 => ?_
    obtain ⟨r3, rfl⟩ := r3
    exact z v G3 _ H3 (e2.trans e3) m3 ⟨r3, r2.mono e3⟩
end
end SY

set_option Elab.async false
set_option linter.all false
set_option maxRecDepth 100000
/-! SYf: the small defs of the older kind. -/
namespace SY
open PySem PySem.Spec L2 SX
section
variable {E : XK} {K : PySem.W.Frag} {C : Addr} {te ta tb tc tl : TE} {tA : TA} {δ δ' : En} {μ μ' μ0 μ1 μ2 rest : Mp} {P P1 P2 : Pr} {d e : PyData} {ds es : List PyData} {i j b r lo hi n : Int} {cs : List (List Int)} {figs ns : List Int} {k : Nat} {ad dk : Addr} {f : PyData → Bool} {Dk : Deck}
theorem e_whole (h : EA tA δ μ [D K d, D K (.int lo), D K (.int hi)] μ1) : E1 (tCall (spec (wholePre K) wholePost) [] E tA) δ μ (D K (.bool (isWhole d lo hi))) μ1 := fun σ G M s mm =>
  ev_callO h s mm fun G M vs a m2 => by
    obtain ⟨v, w, u, rfl, p1, p2, p3⟩ := allP3 a
    refine ⟨(d, lo, hi), ⟨v, by rw [dp_int p2, dp_int p3], p1⟩, ?_⟩
    rintro G' v' M' e ⟨rfl, rfl⟩
    exact ⟨.bl _, m2.mono e⟩
theorem e_d1 (h : EA tA δ μ [D K d] μ1) : E1 (tCall (spec (d1Pre K) (b1Post f)) [] E tA) δ μ (D K (.bool (f d))) μ1 := fun σ G M s mm =>
  ev_callO h s mm fun G M vs a m2 => by
    match vs, a with
    | [v], ⟨p1, _⟩ =>
    refine ⟨d, ⟨v, rfl, p1⟩, ?_⟩
    rintro G' v' M' e ⟨rfl, rfl⟩
    exact ⟨.bl _, m2.mono e⟩
theorem e_place (h : EA tA δ μ [D K (.int b), D K (.list (figs.map .int)), D K (.int n)] μ1) (hb : -(2 ^ 64) < b ∧ b < 2 ^ 64) : E1 (tCall (spec (placePre K) placePost) [] E tA) δ μ (D K (.int (horner b figs n))) μ1 := fun σ G M s mm =>
  ev_callO h s mm fun G M vs a m2 => by
    obtain ⟨v, w, u, rfl, p1, p2, p3⟩ := allP3 a
    refine ⟨(b, figs, n), ⟨w, by rw [dp_int p1, dp_int p3], p2, hb⟩, ?_⟩
    rintro G' v' M' e ⟨rfl, rfl⟩
    exact ⟨.int _, m2.mono e⟩
theorem e_power (h : EA tA δ μ [D K (.int b), D K (.int n)] μ1) (hb : -(2 ^ 64) < b ∧ b < 2 ^ 64) (hn : 0 ≤ n ∧ n ≤ 100000) : E1 (tCall (spec powPre powPost) [] E tA) δ μ (D K (.int (b ^ n.toNat))) μ1 := fun σ G M s mm =>
  ev_callO h s mm fun G M vs a m2 => by
    obtain ⟨v, w, rfl, p1, p2⟩ := allP2 a
    refine ⟨(b, n.toNat), ⟨by rw [dp_int p1, dp_int p2]; show _ = [V.int b, V.int ((n.toNat : Nat) : Int)]; rw [Int.toNat_of_nonneg hn.1], hb, by show n.toNat ≤ 100000; omega⟩, ?_⟩
    rintro G' v' M' e ⟨rfl, rfl⟩
    exact ⟨.int _, m2.mono e⟩
theorem e_cells (h : EA tA δ μ [D K (.list (ns.map .int))] μ1) (hl : ns.length ≤ 63) : E1 (tCall (spec (cellsPre K) (cellsPost K)) [] E tA) δ μ (D K (.list ((cellsOf ns).map .int))) μ1 := fun σ G M s mm =>
  ev_callO h s mm fun G M vs a m2 => by
    match vs, a with
    | [v], ⟨p1, _⟩ =>
    refine ⟨ns, ⟨v, rfl, p1, hl⟩, ?_⟩
    rintro G' v' M' e ⟨r, rfl⟩
    exact ⟨r, m2.mono e⟩
/-- the deck stands first -/
theorem y_deck (h : EA tA δ μ [D K (.int n)] []) : EY (tCall (spec deckPre deckPost) [] E tA) δ μ (fun P μ' => ∃ a, P = Av a ∧ μ' = [(a, DKo (deckOf n))]) := fun σ G M s mm =>
  ev_callO h s mm fun G M vs a m2 => by
    match vs, a with
    | [v], ⟨p1, _⟩ =>
    refine ⟨n, by rw [dp_int p1], ?_⟩
    rintro G' v' M' e ⟨dk, rfl, rfl⟩
    have := m2.nil
    subst this
    exact ⟨_, _, ⟨dk, rfl, rfl⟩, rfl, ⟨⟨rfl, rfl⟩, trivial⟩⟩
theorem head_dk {G : Hp} {M : Mem} (m2 : Mm G M ((dk, DKo Dk) :: rest)) : ∃ M0, M = (dk, Dk.ho) :: M0 ∧ Mm G M0 rest := by
  match M, m2 with
  | (b, o) :: M0, ⟨⟨h1, h2⟩, h3⟩ =>
    have h1 : b = dk := h1
    have h2 : o = Dk.ho := h2
    subst h1 h2
    exact ⟨M0, rfl, h3⟩
theorem e_draw (h : EA tA δ μ [Av dk, D K (.int n)] ((dk, DKo Dk) :: rest)) (hn : 0 < n ∧ n < 2 ^ 200) : E1 (tCall (spec drawPre drawPost) [] E tA) δ μ (D K (.int (dv Dk n))) ((dk, DKo (dn Dk n)) :: rest) := fun σ G M s mm =>
  ev_callO h s mm fun G M vs a m2 => by
    obtain ⟨v, w, rfl, p1, p2⟩ := allP2 a
    obtain ⟨M0, rfl, m3⟩ := head_dk m2
    have p1 : v = .ref dk := p1
    subst p1
    refine ⟨(dk, 0, Dk, n), ⟨by rw [dp_int p2], hn.1, hn.2, rfl⟩, ?_⟩
    rintro G' v' M' e ⟨rfl, rfl⟩
    exact ⟨.int _, ⟨rfl, rfl⟩, m3.mono e⟩
theorem e_lcol (h : EA tA δ μ [Av dk, D K (.int b), D K (.int r)] ((dk, DKo Dk) :: rest)) (hb : 0 < b ∧ b < 2 ^ 200) (hr : 0 ≤ r ∧ r ≤ 1000) : E1 (tCall (spec lcolPre (lcolPost K)) [] E tA) δ μ (D K (colD (colOf Dk b r))) ((dk, DKo (colDk Dk b r)) :: rest) := fun σ G M s mm =>
  ev_callO h s mm fun G M vs a m2 => by
    obtain ⟨v, w, u, rfl, p1, p2, p3⟩ := allP3 a
    obtain ⟨M0, rfl, m3⟩ := head_dk m2
    have p1 : v = .ref dk := p1
    subst p1
    refine ⟨(dk, 0, Dk, b, r), ⟨by rw [dp_int p2, dp_int p3], hb.1, hb.2, hr.1, hr.2, rfl⟩, ?_⟩
    rintro G' v' M' e ⟨r, rfl⟩
    exact ⟨r, ⟨rfl, rfl⟩, m3.mono e⟩
theorem o_lcols {most : Int} (h : EA tA δ μ [Av dk, D K (.int b), D K (.int r), D K (.int most)] ((dk, DKo Dk) :: rest)) (hb : 0 < b ∧ b < 2 ^ 200) (hr : 0 ≤ r ∧ r ≤ 1000) (hm : 0 ≤ most ∧ most ≤ 1000) : EO K (tCall (spec lcolsPre (lcolsPost K)) [] E tA) δ μ ((colsOf Dk b r most).map colD) ((dk, DKo (colsEnd Dk b r most)) :: rest) := fun σ G M s mm =>
  ev_callO h s mm fun G M vs a m2 => by
    obtain ⟨v, w, u, x, rfl, p1, p2, p3, p4⟩ := allP4 a
    obtain ⟨M0, rfl, m3⟩ := head_dk m2
    have p1 : v = .ref dk := p1
    subst p1
    refine ⟨(dk, 0, Dk, b, r, most), ⟨by rw [dp_int p2, dp_int p3, dp_int p4], hb.1, hb.2, hr.1, hr.2, hm.1, hm.2, rfl⟩, ?_⟩
    rintro G' v' M' e ⟨p, vs, rfl, rfl, hd⟩
    exact ⟨p, vs, (dk, (colsEnd Dk b r most).ho) :: M0, rfl, rfl, hd, ⟨rfl, rfl⟩, m3.mono e⟩
end
/-- the law's own promise -/
abbrev spLawY (K : PySem.W.Frag) : Sp := spec (lawPre K) lawPost
theorem law_Y {P : Program} {w : World} {K : PySem.W.Frag} {mg : Str → Option Value} {base : Heap} {x qual : Str} {st : Stmt} {f : Addr} {fd : FuncData} {N ps : List Str} {k : Nat} (F : Fun K x qual st f fd) (S : FnScope N ps (defScope st)) (hps : ps.length = 1)
    (body : ∀ (cdv : Value) (Ar : Around) (outer : List Env) (s : Shared) (H : Hp) (E : XK), Room k (Ar.deeper (PyProof.Rows.envOfC qual (defScope st) s.heap.objs.size f cdv)) →
      ∃ t, PSs (cxOf CX0 P w K mg base N qual (defScope st) f cdv Ar outer s H E).nox (defBody st) t ∧ ∀ ns : List Int, ns.length ≤ 63 → S1 E t (startY N [D K (.list (ns.map .int))]) [] { nx := fun _ _ => False, rt := fun Q _ => Q = D K (.bool true) }) :
    FnOk P w K mg base CX0 (k + 1) f fd ps (spec (lawPre K) lawPost) := by
  refine fn_sv F S (fun x G M vs h => by obtain ⟨v, rfl, _⟩ := h; rw [hps]; rfl) fun cdv Ar outer s H E hr => ?_
  obtain ⟨t, ht, hs⟩ := body cdv Ar outer s H E hr
  refine ⟨t, ht, ?_⟩
  rintro ns G M vs ⟨v, rfl, hv, hl, rfl⟩ G1 H F DD e m1 hd
  refine hs ns hl _ G [] (sl_start (Ps := [D K (.list (ns.map .int))]) (vs := [v]) ⟨hv, trivial⟩) trivial G1 H F DD e m1 ⟨?_, ?_, ?_, ?_, ?_⟩
  · rintro σ2 G2 M2 H2 e2 m2 ⟨_, _, n0, _⟩
    exact n0.elim
  · rintro v G2 M2 H2 e2 m2 ⟨Q2, μ2, rfl, n1, n2⟩
    exact hd.rt v G2 M2 H2 e2 m2 (dp_bl n1)
  · rintro σ2 G2 M2 H2 e2 m2 ⟨_, _, n0, _⟩
    exact n0.elim
  · rintro σ2 G2 M2 H2 e2 m2 ⟨_, _, n0, _⟩
    exact n0.elim
  · rintro c d G2 M2 H2 e2 m2 ⟨_, n0, _⟩
    exact n0.elim
end SY

set_option Elab.async false
set_option linter.all false
set_option maxRecDepth 100000
/-! SYg: two loops in a comprehension; membership; deeds of a base and rows. -/
namespace SY
open PySem PySem.Spec L2 SX
theorem yes_if {p q : Prop} (h : p) : if true = true then p else q := by rw [if_pos rfl]; exact h
theorem room65 {k : Nat} {A : Around} (r : Room k A) : A.units + 65 < cLine := by have := r.un; omega
theorem k_inD {X : Cx} {K : PySem.W.Frag} (hK : X.K = K) (hu : X.A.units + 65 < cLine) : OpR X (compareOp .In) (rInD K) := hK ▸ op_inD hu
theorem k_ninD {X : Cx} {K : PySem.W.Frag} (hK : X.K = K) (hu : X.A.units + 65 < cLine) : OpR X (compareOp .NotIn) (rNotInD K) := hK ▸ op_notInD hu
section
variable {K : PySem.W.Frag} {te ta tb tl : TE} {tt tt1 : TT} {δ : En} {μ μ1 : Mp} {d : PyData} {g g1 : TG} {vs vs1 : List Nat} {wi wi1 : TI} {X : Nat → Pr}
theorem Same.wipe_sub {σ σ' : L2.St} {vs vs1 : List Nat} (h : Same σ σ' vs1) : L2.wipe σ' vs1 = L2.wipe σ vs1 := h.wipe
/-- [e for x in l for y in f(x)], what is owned stays -/
theorem o_lc2 {α : Type} {xs : List α} {en : α → Pr} {ys : α → List PyData} {N : Nat} (hw : IY wi δ μ xs.length X μ1) (hX : ∀ (i : Nat) x, xs[i]? = some x → X i = en x) (hN : ∀ x ∈ xs, (ys x).length ≤ N) (hn : xs.length * N ≤ 100000)
    (hb : ∀ x, x ∈ xs → ∃ δ'', G1 g (en x) (wipeY δ vs) δ'' vs ∧ ∃ Y : Nat → Pr, IY wi1 δ'' μ1 (ys x).length Y μ1 ∧ ∀ (j : Nat) y, (ys x)[j]? = some y → ∃ δ3, G1 g1 (Y j) (wipeY δ'' vs1) δ3 vs1 ∧ E1 te δ3 μ1 (D K y) μ1) :
    EO K (tLc2 wi g tYes wi1 g1 tYes te vs vs1) δ μ (xs.flatMap ys) μ1 := fun σ G M s m G1 H F e m1 Q q =>
  hw σ G M s m G1 H F e m1 _ fun J G2 M2 H2 e2 m2 r2 => by
    rintro ⟨⟨Gd, Y, W, hG, hY⟩⟩ D hD
    -- Pv i: the items of the first i
    let Pv : Nat → Hp → Prop := fun i H' => ∃ G' M' ws, Ex G2 G' ∧ Me G' (M' ++ (D, .lst ws) :: F) H' ∧ Mm G' M' μ1 ∧ DpAll K G' ws ((xs.take i).flatMap ys)
    refine ⟨fun i m H => m = xs.length - i ∧ i ≤ xs.length ∧ Pv i H, ⟨xs.length, by simp, Nat.zero_le _, G2, M2, [], Ex.refl G2, by rw [mem_mid]; exact m2.newMid hD, r2, by simp; exact .nil⟩, ?_⟩
    rintro i m H' ⟨rfl, hi, G', M', ws, e', m', r', da⟩
    have hGd := hG G' M' _ H' [] e' m' (List.nil_sublist _) (show Mm G' [] [] from trivial)
    by_cases hlt : i < xs.length
    · refine .inr ⟨W.goes i H' hlt hGd, Pv (i + 1), fun H'' p' => ⟨xs.length - (i + 1), by omega, rfl, hlt, p'⟩, fun x H4 y => ?_⟩
      have hx : xs[i]? = some xs[i] := List.getElem?_eq_getElem hlt
      obtain ⟨G4, e4, m4, px⟩ := hY i G' M' _ H' x H4 [] hlt e' m' (List.nil_sublist _) (show Mm G' [] [] from trivial) (W.yields i H' x H4 hlt hGd y)
      rw [hX i _ hx] at px
      obtain ⟨δ'', hg, Yj, hw1, hb1⟩ := hb xs[i] (List.getElem_mem hlt)
      have s4 : Sl G4 (L2.wipe σ vs) (wipeY δ vs) := (s.mono (((e.trans e2).trans e').trans e4)).wipe vs
      refine hg _ G4 M' _ H4 x s4 px m4 _ fun σ5 s5 w5 => ⟨by rw [w5.wipe, wipe_wipe], ?_⟩
      unfold tYes
      refine yes_if ?_
      refine hw1 σ5 G4 M' s5 (r'.mono e4) G4 H4 _ (Ex.refl _) m4 _ fun J1 G5 M5 H5 e5 m5 r5 => ?_
      rintro ⟨⟨Gd1, Y1, W1, hG1, hY1⟩⟩
      have hlen : ws.length ≤ i * N := by
        rw [dpa_len da]
        have : ∀ k, k ≤ xs.length → ((xs.take k).flatMap ys).length ≤ k * N := fun k => by
          induction k with
          | zero => intro _; simp
          | succ k ih =>
            intro hk
            have hk' : xs[k]? = some xs[k] := List.getElem?_eq_getElem (by omega)
            rw [List.take_add_one, hk', Option.toList, List.flatMap_append, List.length_append]
            simp only [List.flatMap_cons, List.flatMap_nil, List.append_nil]
            have := ih (by omega)
            have := hN _ (List.getElem_mem (show k < xs.length by omega))
            rw [Nat.succ_mul]
            omega
        exact this i hi
      have hNi := hN _ (List.getElem_mem hlt)
      have hmul : (i + 1) * N ≤ 100000 := Nat.le_trans (Nat.mul_le_mul_right N hlt) hn
      rw [Nat.succ_mul] at hmul
      refine ⟨fun j m H => m = (ys xs[i]).length - j ∧ j ≤ (ys xs[i]).length ∧ ∃ G' M' ws', Ex G5 G' ∧ Me G' (M' ++ (D, .lst ws') :: F) H ∧ Mm G' M' μ1 ∧ ws'.length = ws.length + j ∧ DpAll K G' ws' ((xs.take i).flatMap ys ++ (ys xs[i]).take j), ⟨_, rfl, Nat.zero_le _, G5, M5, ws, Ex.refl G5, m5, r5, rfl, by simp; exact dma da (e4.trans e5)⟩, ?_⟩
      rintro j m H6 ⟨rfl, hj, G6, M6, ws6, e6, m6, r6, hl6, da6⟩
      have hGd1 := hG1 G6 M6 _ H6 [] e6 m6 (List.nil_sublist _) (show Mm G6 [] [] from trivial)
      by_cases hltj : j < (ys xs[i]).length
      · refine .inr ⟨W1.goes j H6 hltj hGd1, fun H => j + 1 ≤ (ys xs[i]).length ∧ ∃ G' M' ws', Ex G5 G' ∧ Me G' (M' ++ (D, .lst ws') :: F) H ∧ Mm G' M' μ1 ∧ ws'.length = ws.length + (j + 1) ∧ DpAll K G' ws' ((xs.take i).flatMap ys ++ (ys xs[i]).take (j + 1)), fun H'' p' => ⟨_, by omega, rfl, p'.1, p'.2⟩, fun x H7 y => ?_⟩
        have hy : (ys xs[i])[j]? = some (ys xs[i])[j] := List.getElem?_eq_getElem hltj
        obtain ⟨G7, e7, m7, py⟩ := hY1 j G6 M6 _ H6 x H7 [] hltj e6 m6 (List.nil_sublist _) (show Mm G6 [] [] from trivial) (W1.yields j H6 x H7 hltj hGd1 y)
        obtain ⟨δ3, hg3, he3⟩ := hb1 j _ hy
        have s7 : Sl G7 (L2.wipe σ5 vs1) (wipeY δ'' vs1) := (s5.mono ((e5.trans e6).trans e7)).wipe vs1
        refine hg3 _ G7 M6 _ H7 x s7 py m7 _ fun σ8 s8 w8 => ⟨by rw [w8.wipe, wipe_wipe], ?_⟩
        refine yes_if ?_
        refine he3 σ8 G7 M6 s8 (r6.mono e7) G7 H7 _ (Ex.refl _) m7 _ fun z G8 M8 H8 e8 m8 r8 => ?_
        have hm : (M8 ++ (D, HO.lst ws6) :: F)[M8.length]? = some (D, .lst ws6) := by
          rw [List.getElem?_append_right (Nat.le_refl _), Nat.sub_self]
          rfl
        refine ⟨ws6, m8.get hm, sz_ok (by omega), hltj, G8, M8, ws6 ++ [z], (e6.trans e7).trans e8, ?_, r8.2, by simp [hl6]; omega, ?_⟩
        · have := m8.put (o' := .lst (ws6 ++ [z])) hm
          rw [List.set_append_right _ _ (Nat.le_refl _), Nat.sub_self] at this
          exact this
        · rw [List.take_add_one, hy, Option.toList, ← List.append_assoc]
          exact dpa_app (dma da6 (e7.trans e8)) (.cons r8.1 .nil)
      · have : j = (ys xs[i]).length := by omega
        subst this
        refine .inl ⟨W1.stops H6 hGd1, G6, M6, ws6, ((e'.trans e4).trans e5).trans e6, m6, r6, ?_⟩
        rw [List.take_length] at da6
        rw [List.take_add_one, hx, Option.toList, List.flatMap_append]
        simpa using da6
    · have : i = xs.length := by omega
      subst this
      rw [List.take_length] at da
      rw [mem_mid] at m'
      exact .inl ⟨W.stops H' hGd, q _ G' _ H' (e2.trans e') m' ⟨D, ws, M', rfl, rfl, da, r'⟩⟩
/-- isinstance(x, (int, str)) -/
theorem e_isiT2 (h : E1 ta δ μ (D K d) μ1) : E1 (tCB (rIsiT K) (tCons ta (tCons (tTup (tCons (tC (.ty "int")) (tCons (tC (.ty "str")) tNil))) tNil))) δ μ (D K (.bool (isTy d "int" || isTy d "str"))) μ1 :=
  e_CB (a_cons h (a_cons (e_tupP (a_cons (e_cst (P := Cv (.ty "int")) fun _ => rfl) (a_cons (e_cst (P := Cv (.ty "str")) fun _ => rfl) a_nil)) (by simp)) a_nil)) fun G H F M vs m mm p Q q => by
    match vs, p with
    | [v, c], ⟨p1, pt, _⟩ =>
      obtain ⟨tp, ws, rfl, p2, p3⟩ := pt
      match ws, p3 with
      | [w1, w2], ⟨q1, q2, _⟩ =>
      have q1 : w1 = .ty "int" := q1
      have q2 : w2 = .ty "str" := q2
      subst q1 q2
      have p1 : Dp K G v d := p1
      refine ⟨v, tp, [.ty "int", .ty "str"], .type (tyName d), [.type "int", .type "str"], (isTy d "int" || isTy d "str"), rfl, m.ex _ _ p2, .cons (.ty "int") (.cons (.ty "str") .nil), tyx_of (dm p1 m.ex), kitAny_cons (b := isTy d "int") (kit_ty ?_) (fun hb => kitAny_cons (b := isTy d "str") (kit_ty ?_) (fun hb2 => ?_) (fun hb2 => ?_)) (fun hb => ?_), q _ G M H (Ex.refl _) m (.bl _) mm⟩
      · unfold isTy
        cases p1 <;> dsimp only [tyName] <;> decide +kernel
      · unfold isTy
        cases p1 <;> dsimp only [tyName] <;> decide +kernel
      · rw [hb, hb2]
        rfl
      · rw [hb2]
        simp
      · rw [hb]
        rfl
end
def isPlain : PyData → Bool
  | .tuple ds => ds.all fun d => (isTy d "int" || isTy d "str") && !isTy d "bool"
  | _ => false
def offsOf (b : Int) : List Deed := ((List.range (b - 1).toNat).map fun (n : Nat) => 1 + (n : Int)).map Deed.off
def readsOf (b r : Int) : List Deed := (List.range r.toNat).flatMap fun (j : Nat) => ((List.range (b - 1).toNat).map fun (n : Nat) => 1 + (n : Int)).map (Deed.read (j : Int))
def copiesOf (r : Int) : List Deed := (List.range r.toNat).map fun (j : Nat) => Deed.copy (j : Int)
def allDeeds (b r : Int) : List Deed := [.forget, .again] ++ (offsOf b ++ (readsOf b r ++ (copiesOf r ++ [.swap, .out, .twice])))
theorem offsOf_len (b : Int) : (offsOf b).length = (b - 1).toNat := by simp [offsOf]
theorem readsOf_len (b r : Int) : (readsOf b r).length = r.toNat * (b - 1).toNat := by
  unfold readsOf
  rw [List.length_flatMap]
  simp [List.map_const']
theorem copiesOf_len (r : Int) : (copiesOf r).length = r.toNat := by simp [copiesOf]
def isDeedD (b r : Int) (d : PyData) : Bool := isPlain d && (allDeeds b r).any fun x => PyData.eqv (deedD x) d
end SY

set_option Elab.async false
set_option linter.all false
set_option maxRecDepth 100000
/-! SYh: adding with slips as data. -/
namespace SY
open PySem PySem.Spec L2 SX
def isCopy : Deed → Bool
  | .copy _ => true
  | _ => false
/-- the figure that is copied -/
def copiedV (cs : List (List Int)) (a : Nat) : Deed → Int
  | .copy j => (cs.getD (a - 1) []).getD j.toNat 0
  | _ => 0
def copiedD (cs : List (List Int)) (a : Nat) (x : Deed) : PyData := if isCopy x = true then .int (copiedV cs a x) else .none
/-- a slip's own doing at column a -/
def doSlip (b : Int) (cs : List (List Int)) (a : Nat) (c : Int) (x : Deed) : Option (List Int × Int) :=
  if isCopy x = true ∧ a = 0 ∨ x = .swap ∧ a + 1 = cs.length then none
  else if x = .swap then some ((doCols b ((cs.take (a + 2)).drop a) c).1.reverse, (doCols b ((cs.take (a + 2)).drop a) c).2)
  else doSum b (sumTaken b (cs.getD a []) (copiedV cs a x) (some x)) c (some x)
/-- what is written from column lo on, with the carry c; none where some slip is none -/
def addV (b r : Int) (cs : List (List Int)) : List (Int × Deed) → Nat → Int → Option (List Int × Int)
  | [], lo, c => some (doCols b (cs.drop lo) c)
  | (a, x) :: sl, lo, c =>
    if (lo : Int) ≤ a ∧ a < cs.length ∧ x ∈ allDeeds b r then
      (doSlip b cs a.toNat (doCols b ((cs.take a.toNat).drop lo) c).2 x).bind fun w =>
        (addV b r cs sl (if x = .swap then a.toNat + 2 else a.toNat + 1) w.2).map fun f => ((doCols b ((cs.take a.toNat).drop lo) c).1 ++ w.1 ++ f.1, f.2)
    else none
def slipD (s : Int × Deed) : PyData := .tuple [.int s.1, deedD s.2]
theorem mem_offs {b : Int} {x : Deed} : x ∈ offsOf b ↔ ∃ d, x = .off d ∧ 1 ≤ d ∧ d < b := by
  unfold offsOf
  simp only [List.mem_map, List.mem_range]
  constructor
  · rintro ⟨_, ⟨n, hn, rfl⟩, rfl⟩
    exact ⟨_, rfl, by omega, by omega⟩
  · rintro ⟨d, rfl, h1, h2⟩
    exact ⟨d, ⟨(d - 1).toNat, by omega, by omega⟩, rfl⟩
theorem mem_reads {b r : Int} {x : Deed} : x ∈ readsOf b r ↔ ∃ j d, x = .read j d ∧ 0 ≤ j ∧ j < r ∧ 1 ≤ d ∧ d < b := by
  unfold readsOf
  simp only [List.mem_flatMap, List.mem_map, List.mem_range]
  constructor
  · rintro ⟨j, hj, _, ⟨n, hn, rfl⟩, rfl⟩
    exact ⟨(j : Int), 1 + (n : Int), rfl, Int.natCast_nonneg j, by omega, by omega, by omega⟩
  · rintro ⟨j, d, rfl, h1, h2, h3, h4⟩
    exact ⟨j.toNat, by omega, d, ⟨(d - 1).toNat, by omega, by omega⟩, by rw [Int.toNat_of_nonneg h1]⟩
theorem mem_copies {r : Int} {x : Deed} : x ∈ copiesOf r ↔ ∃ j, x = .copy j ∧ 0 ≤ j ∧ j < r := by
  unfold copiesOf
  simp only [List.mem_map, List.mem_range]
  constructor
  · rintro ⟨j, hj, rfl⟩
    exact ⟨(j : Int), rfl, Int.natCast_nonneg j, by omega⟩
  · rintro ⟨j, rfl, h1, h2⟩
    exact ⟨j.toNat, by omega, by rw [Int.toNat_of_nonneg h1]⟩
theorem mem_all {b r : Int} {x : Deed} : x ∈ allDeeds b r ↔ x = .forget ∨ x = .again ∨ (∃ d, x = .off d ∧ 1 ≤ d ∧ d < b) ∨ (∃ j d, x = .read j d ∧ 0 ≤ j ∧ j < r ∧ 1 ≤ d ∧ d < b) ∨ (∃ j, x = .copy j ∧ 0 ≤ j ∧ j < r) ∨ x = .swap ∨ x = .out ∨ x = .twice := by
  unfold allDeeds
  simp only [List.mem_append, List.mem_cons, List.not_mem_nil, or_false, mem_offs, mem_reads, mem_copies]
  constructor
  · rintro ((h | h) | h | h | h | h | h | h)
    · exact .inl h
    · exact .inr (.inl h)
    · exact .inr (.inr (.inl h))
    · exact .inr (.inr (.inr (.inl h)))
    · exact .inr (.inr (.inr (.inr (.inl h))))
    · exact .inr (.inr (.inr (.inr (.inr (.inl h)))))
    · exact .inr (.inr (.inr (.inr (.inr (.inr (.inl h))))))
    · exact .inr (.inr (.inr (.inr (.inr (.inr (.inr h))))))
  · rintro (h | h | h | h | h | h | h | h)
    · exact .inl (.inl h)
    · exact .inl (.inr h)
    · exact .inr (.inl h)
    · exact .inr (.inr (.inl h))
    · exact .inr (.inr (.inr (.inl h)))
    · exact .inr (.inr (.inr (.inr (.inl h))))
    · exact .inr (.inr (.inr (.inr (.inr (.inl h)))))
    · exact .inr (.inr (.inr (.inr (.inr (.inr h)))))
theorem rowOk_all {b r : Int} {x : Deed} {n : Nat} (h : x ∈ allDeeds b r) (hn : r ≤ n) : RowOk n (some x) := by
  rcases mem_all.mp h with rfl | rfl | ⟨d, rfl, _⟩ | ⟨j, d, rfl, h1, h2, _⟩ | ⟨j, rfl, h1, h2⟩ | rfl | rfl | rfl
  all_goals first | trivial | exact ⟨by omega, by omega⟩
theorem isPlain_deed {b r : Int} {x : Deed} (h : x ∈ allDeeds b r) : isPlain (deedD x) = true := by
  rcases mem_all.mp h with rfl | rfl | ⟨d, rfl, _⟩ | ⟨j, d, rfl, _⟩ | ⟨j, rfl, _⟩ | rfl | rfl | rfl <;> rfl
theorem eqv_plain : ∀ {ds es : List PyData}, (∀ d ∈ ds, ∃ i s, d = .int i ∨ d = .str s) → (∀ d ∈ es, ∃ i s, d = .int i ∨ d = .str s) → (PyData.eqvAll ds es = true ↔ ds = es)
  | [], [], _, _ => by simp [PyData.eqvAll]
  | [], _ :: _, _, _ => by simp [PyData.eqvAll]
  | _ :: _, [], _, _ => by simp [PyData.eqvAll]
  | d :: ds, e :: es, h1, h2 => by
    have ih := eqv_plain (ds := ds) (es := es) (fun x hx => h1 x (List.mem_cons_of_mem _ hx)) fun x hx => h2 x (List.mem_cons_of_mem _ hx)
    obtain ⟨i, s, h3⟩ := h1 d List.mem_cons_self
    obtain ⟨j, t, h4⟩ := h2 e List.mem_cons_self
    show (PyData.eqv d e && PyData.eqvAll ds es) = true ↔ _
    rw [Bool.and_eq_true, ih]
    rcases h3 with rfl | rfl <;> rcases h4 with rfl | rfl <;> simp [PyData.eqv]
theorem plain_items {ds : List PyData} (h : isPlain (.tuple ds) = true) : ∀ d ∈ ds, ∃ i s, d = .int i ∨ d = .str s := fun d hd => by
  have := List.all_eq_true.mp h d hd
  cases d <;> first | exact ⟨_, "", .inl rfl⟩ | exact ⟨0, _, .inr rfl⟩ | (exfalso; revert this; simp [isTy, isTyS, tyName])
theorem isDeed_iff {b r : Int} {d : PyData} : isDeedD b r d = true ↔ ∃ x, x ∈ allDeeds b r ∧ d = deedD x := by
  unfold isDeedD
  rw [Bool.and_eq_true, List.any_eq_true]
  constructor
  · rintro ⟨hp, x, hx, he⟩
    refine ⟨x, hx, ?_⟩
    cases d with
    | tuple ds =>
      have h1 := plain_items (isPlain_deed hx)
      have h2 := plain_items hp
      have : x.L = ds := (eqv_plain h1 h2).mp he
      rw [← this]
    | _ => cases hp
  · rintro ⟨x, hx, rfl⟩
    exact ⟨isPlain_deed hx, x, hx, (eqv_plain (plain_items (isPlain_deed hx)) (plain_items (isPlain_deed hx))).mpr rfl⟩
theorem deedD_inj {x y : Deed} (h : deedD x = deedD y) : x = y := by
  have h : x.L = y.L := by injection h
  cases x <;> cases y <;> first | rfl | (exfalso; simp only [Deed.L, List.cons.injEq, PyData.str.injEq] at h; exact absurd h.1 (by decide)) | (simp only [Deed.L, List.cons.injEq, PyData.int.injEq, and_true, true_and] at h; simp_all; done) | (exfalso; simp only [Deed.L, List.cons.injEq, PyData.str.injEq, and_true] at h; exact absurd h (by decide))
end SY
namespace SY
open PySem PySem.Spec L2 SX
theorem word_copy (x : Deed) : decide (x.word = "copy") = isCopy x := by
  cases h : decide (x.word = "copy") with
  | true => obtain ⟨j, rfl⟩ := w_copy h; rfl
  | false => cases x <;> first | rfl | (exfalso; exact of_decide_eq_false h rfl)
theorem word_swap (x : Deed) : decide (x.word = "swap") = decide (x = .swap) := by
  cases h : decide (x.word = "swap") with
  | true => obtain rfl := w_swap h; rfl
  | false => cases x <;> first | rfl | (exfalso; exact of_decide_eq_false h rfl)
theorem sIx_nn (n d : Nat) {i : Int} (h : 0 ≤ i) : HT.sIx n d (some i) = min i.toNat n := by
  show (if i < 0 then _ else _) = _
  rw [if_neg (by omega)]
theorem cutG_lo {α : Type} (xs : List α) {lo : Int} (h0 : 0 ≤ lo) : cutG xs (some lo) none = xs.drop lo.toNat := by
  unfold cutG
  rw [sIx_nn _ _ h0, HT.sIx_none]
  by_cases h : lo.toNat ≤ xs.length
  · rw [Nat.min_eq_left h, List.take_of_length_le (by rw [List.length_drop]; exact Nat.le_refl _)]
  · rw [Nat.min_eq_right (by omega), List.drop_of_length_le (Nat.le_refl _), List.drop_of_length_le (by omega), List.take_nil]
theorem cutG_hi {α : Type} (xs : List α) {hi : Int} (h0 : 0 ≤ hi) : cutG xs none (some hi) = xs.take hi.toNat := by
  unfold cutG
  rw [sIx_nn _ _ h0, HT.sIx_none, Nat.sub_zero, List.drop_zero]
  by_cases h : hi.toNat ≤ xs.length
  · rw [Nat.min_eq_left h]
  · rw [Nat.min_eq_right (by omega), List.take_length, List.take_of_length_le (by omega)]
theorem cutG_two {α : Type} (xs : List α) {lo hi : Int} (h0 : 0 ≤ lo) (h1 : 0 ≤ hi) : cutG xs (some lo) (some hi) = (xs.take hi.toNat).drop lo.toNat := by
  unfold cutG
  rw [sIx_nn _ _ h0, sIx_nn _ _ h1, List.drop_take]
  by_cases h : lo.toNat ≤ xs.length
  · rw [Nat.min_eq_left h]
    by_cases h' : hi.toNat ≤ xs.length
    · rw [Nat.min_eq_left h']
    · rw [Nat.min_eq_right (by omega)]
      rw [List.take_of_length_le (by simp), List.take_of_length_le (by simp; omega)]
  · rw [List.drop_of_length_le (show xs.length ≤ min lo.toNat xs.length by omega), List.drop_of_length_le (show xs.length ≤ lo.toNat by omega), List.take_nil, List.take_nil]
end SY
namespace SY
open PySem PySem.Spec L2 SX
def itemsOf : PyData → List PyData
  | .tuple ds => ds
  | .list ds => ds
  | _ => []
def isSlipD (b r : Int) (n : Nat) (lo : Int) (d : PyData) : Bool := match d with
  | .tuple [x, y] => isWhole x lo ((n : Int) - 1) && isDeedD b r y
  | _ => false
theorem sh_itemsA : ∀ {ds : List PyData} {e : PyData} {n : Nat}, PyData.canLayAll0 ds = true → PyData.depthAll ds ≤ n → e ∈ ds → PyData.canLay0 e = true ∧ PyData.depth e ≤ n
  | d :: ds, e, n, h1, h2, h3 => by
    have h1 : (PyData.canLay0 d && PyData.canLayAll0 ds) = true := h1
    rw [Bool.and_eq_true] at h1
    have h2 : max (PyData.depth d) (PyData.depthAll ds) ≤ n := h2
    rcases List.mem_cons.mp h3 with rfl | h3
    · exact ⟨h1.1, by omega⟩
    · exact sh_itemsA h1.2 (by omega) h3
theorem sh_item {d e : PyData} (h : SeqAt.shaped d = true) (he : e ∈ itemsOf d) : SeqAt.shaped e = true := by
  have h1 := SeqAt.canLay_of_shaped h
  have h2 := SeqAt.depth_of_shaped h
  have key : ∀ ds : List PyData, PyData.canLayAll0 ds = true → PyData.depthAll ds + 1 ≤ 64 → e ∈ ds → SeqAt.shaped e = true := fun ds a1 a2 a3 => by
    obtain ⟨k1, k2⟩ := sh_itemsA a1 (Nat.le_refl _) a3
    unfold SeqAt.shaped
    rw [k1, decide_eq_true (by omega)]
    rfl
  cases d with
  | tuple ds => exact key ds h1 (by have h2 : PyData.depthAll ds + 1 ≤ 64 ∨ 1 + PyData.depthAll ds ≤ 64 := by first | exact .inl h2 | exact .inr h2
                                    omega) he
  | list ds => exact key ds h1 (by have h2 : PyData.depthAll ds + 1 ≤ 64 ∨ 1 + PyData.depthAll ds ≤ 64 := by first | exact .inl h2 | exact .inr h2
                                   omega) he
  | _ => cases he
end SY
namespace SY
open PySem PySem.Spec L2 SX
theorem sh_str {n : Nat} {s : Str} (h : PyData.canLay0 (.str s) = true) : Sh n (.str s) := ⟨h, Nat.zero_le _⟩
theorem sh_deed {n : Nat} (x : Deed) : Sh (n + 1) (deedD x) := sh_tup fun d hd => by
  cases x <;> simp only [Deed.L, List.mem_cons, List.not_mem_nil, or_false] at hd
  all_goals (first | (rcases hd with rfl | rfl | rfl) | (rcases hd with rfl | rfl) | subst hd) <;> first | exact sh_str (by decide +kernel) | exact sh_int _
theorem sh_slip {n : Nat} (s : Int × Deed) : Sh (n + 2) (slipD s) := sh_tup fun d hd => by
  simp only [List.mem_cons, List.not_mem_nil, or_false] at hd
  rcases hd with rfl | rfl
  · exact sh_int _
  · exact sh_deed _
theorem dlen_deed (x : Deed) : dlen (deedD x) ≤ 3 := by
  show x.L.length ≤ 3
  cases x <;> simp [Deed.L]
theorem isSlip_of {b r : Int} {n lo : Nat} {a : Int} {x : Deed} (h : (lo : Int) ≤ a ∧ a < n ∧ x ∈ allDeeds b r) : isSlipD b r n lo (slipD (a, x)) = true := by
  show (isWhole (.int a) lo ((n : Int) - 1) && isDeedD b r (deedD x)) = true
  rw [isDeed_iff.mpr ⟨x, h.2.2, rfl⟩, Bool.and_true]
  show (true && (decide ((lo : Int) ≤ a) && decide (a ≤ (n : Int) - 1))) = true
  rw [decide_eq_true h.1, decide_eq_true (by omega)]
  rfl
theorem doSum_len {b t c : Int} {od : Option Deed} {w : List Int × Int} (h : doSum b t c od = some w) : w.1.length ≤ 2 := by
  cases od with
  | none => cases h; simp
  | some x =>
    cases x <;> simp only [doSum] at h <;> first | (cases h; simp; done) | (split at h <;> cases h; simp; done)
theorem doSlip_len {b : Int} {cs : List (List Int)} {a : Nat} {c : Int} {x : Deed} {w : List Int × Int} (h : doSlip b cs a c x = some w) : w.1.length ≤ 2 := by
  unfold doSlip at h
  split at h
  · cases h
  · split at h
    · cases h
      rw [List.length_reverse, doCols_len]
      simp
      omega
    · exact doSum_len h
theorem doSlip_swap {b : Int} {cs : List (List Int)} {a : Nat} {c : Int} {w : List Int × Int} (h : doSlip b cs a c .swap = some w) (ha : a < cs.length) : a + 2 ≤ cs.length := by
  unfold doSlip at h
  split at h
  · cases h
  · rename_i hn
    have : ¬ (a + 1 = cs.length) := fun e => hn (.inr ⟨rfl, e⟩)
    omega
theorem addV_cons {b r : Int} {cs : List (List Int)} {a : Int} {x : Deed} {sl : List (Int × Deed)} {lo : Nat} {c : Int} {f : List Int × Int} (h : addV b r cs ((a, x) :: sl) lo c = some f) :
    ((lo : Int) ≤ a ∧ a < cs.length ∧ x ∈ allDeeds b r) ∧ ∃ w g, doSlip b cs a.toNat (doCols b ((cs.take a.toNat).drop lo) c).2 x = some w ∧ addV b r cs sl (if x = .swap then a.toNat + 2 else a.toNat + 1) w.2 = some g ∧ f = ((doCols b ((cs.take a.toNat).drop lo) c).1 ++ w.1 ++ g.1, g.2) := by
  unfold addV at h
  split at h
  · rename_i hc
    refine ⟨hc, ?_⟩
    cases hw : doSlip b cs a.toNat (doCols b ((cs.take a.toNat).drop lo) c).2 x with
    | none => rw [hw] at h; cases h
    | some w =>
      rw [hw] at h
      cases hg : addV b r cs sl (if x = .swap then a.toNat + 2 else a.toNat + 1) w.2 with
      | none => simp only [Option.bind_some, hg, Option.map_none] at h; cases h
      | some g =>
        simp only [Option.bind_some, hg, Option.map_some] at h
        exact ⟨w, g, rfl, hg, (Option.some.inj h).symm⟩
  · cases h
theorem addV_len {b r : Int} {cs : List (List Int)} : ∀ {sl : List (Int × Deed)} {lo : Nat} {c : Int} {f : List Int × Int}, lo ≤ cs.length → addV b r cs sl lo c = some f → f.1.length ≤ 2 * (cs.length - lo)
  | [], lo, c, f, hl, h => by
    cases h
    rw [doCols_len, List.length_drop]
    omega
  | (a, x) :: sl, lo, c, f, hl, h => by
    obtain ⟨⟨h1, h2, h3⟩, w, g, hw, hg, rfl⟩ := addV_cons h
    have hwl := doSlip_len hw
    have e1 : ((cs.take a.toNat).drop lo).length = a.toNat - lo := by simp; omega
    simp only [List.length_append, doCols_len, e1]
    by_cases hx : x = .swap
    · subst hx
      have := doSlip_swap hw (by omega)
      rw [if_pos rfl] at hg
      have := addV_len (by omega) hg
      omega
    · rw [if_neg hx] at hg
      have := addV_len (by omega) hg
      omega
theorem addV_lo {b r : Int} {cs : List (List Int)} {a : Int} {x : Deed} {lo : Nat} {c : Int} {w : List Int × Int} (h : (lo : Int) ≤ a ∧ a < cs.length) (hw : doSlip b cs a.toNat c x = some w) : (if x = .swap then a.toNat + 2 else a.toNat + 1) ≤ cs.length := by
  split
  · rename_i hx
    subst hx
    exact doSlip_swap hw (by omega)
  · omega
end SY

set_option Elab.async false
set_option linter.all false
set_option maxRecDepth 100000
/-! SYi: right adding: digits; more promises of the older kind. -/
namespace SY
open PySem PySem.Spec L2 SX
def digs (b : Int) : Int → Nat → List Int × Int
  | w, 0 => ([], w)
  | w, n + 1 => (w % b :: (digs b (w / b) n).1, (digs b (w / b) n).2)
theorem digs_snoc (b : Int) : ∀ (n : Nat) (w : Int), digs b w (n + 1) = ((digs b w n).1 ++ [(digs b w n).2 % b], (digs b w n).2 / b)
  | 0, w => rfl
  | n + 1, w => by
    have := digs_snoc b n (w / b)
    show (w % b :: (digs b (w / b) (n + 1)).1, (digs b (w / b) (n + 1)).2) = _
    rw [this]
    rfl
theorem digs_len (b : Int) : ∀ (n : Nat) (w : Int), (digs b w n).1.length = n
  | 0, _ => rfl
  | n + 1, w => by simp [digs, digs_len b n]
theorem valueOf_cons (b : Int) (x : List Int) (xs : List (List Int)) : valueOf b (x :: xs) = valueOf b xs * b + x.sum := rfl
theorem doCols_digs {b : Int} (hb : 0 < b) : ∀ (cs : List (List Int)) (c : Int), doCols b cs c = digs b (valueOf b cs + c) cs.length
  | [], c => by
    show ([], c) = ([], (0 : Int) + c)
    rw [Int.zero_add]
  | x :: xs, c => by
    have h1 : (valueOf b (x :: xs) + c) % b = (x.sum + c) % b := by
      rw [valueOf_cons, Int.add_assoc, Int.add_comm, Int.add_mul_emod_self_right]
    have h2 : (valueOf b (x :: xs) + c) / b = valueOf b xs + (x.sum + c) / b := by
      rw [valueOf_cons, Int.add_assoc, Int.add_comm, Int.add_mul_ediv_right _ _ (by omega), Int.add_comm]
    show ((x.sum + c) % b :: (doCols b xs ((x.sum + c) / b)).1, (doCols b xs ((x.sum + c) / b)).2) = ((valueOf b (x :: xs) + c) % b :: (digs b ((valueOf b (x :: xs) + c) / b) xs.length).1, (digs b ((valueOf b (x :: xs) + c) / b) xs.length).2)
    rw [h1, h2, doCols_digs hb xs]
theorem horner_cons (b x last : Int) (xs : List Int) : horner b (x :: xs) last = horner b xs last * b + x := rfl
theorem horner_digs {b : Int} (hb : 0 < b) : ∀ (n : Nat) (w : Int), horner b (digs b w n).1 (digs b w n).2 = w
  | 0, w => rfl
  | n + 1, w => by
    show horner b (w % b :: (digs b (w / b) n).1) (digs b (w / b) n).2 = w
    rw [horner_cons, horner_digs hb n]
    have := Int.mul_ediv_add_emod w b
    rw [Int.mul_comm] at this
    exact this
theorem col_sum {b r : Int} {c : List Int} (h : GoodCol b r c) : 0 ≤ c.sum ∧ c.sum ≤ r * (b - 1) := by
  have : ∀ l : List Int, (∀ f ∈ l, 0 ≤ f ∧ f < b) → 0 ≤ l.sum ∧ l.sum ≤ (l.length : Int) * (b - 1) := fun l => by
    induction l with
    | nil => intro _; simp
    | cons x xs ih =>
      intro h
      have h1 := h x List.mem_cons_self
      have h2 := ih fun f hf => h f (List.mem_cons_of_mem _ hf)
      rw [List.sum_cons, List.length_cons]
      have : ((xs.length + 1 : Nat) : Int) * (b - 1) = (xs.length : Int) * (b - 1) + (b - 1) := by
        rw [Int.natCast_add, Int.add_mul]
        simp
      omega
  have h2 := this c h.2
  rw [h.1] at h2
  exact h2
theorem carry_le {b r : Int} (hb : 0 < b) (hr : 0 < r) : ∀ (cs : List (List Int)) (c : Int), (∀ x ∈ cs, GoodCol b r x) → 0 ≤ c ∧ c ≤ r - 1 → 0 ≤ (doCols b cs c).2 ∧ (doCols b cs c).2 ≤ r - 1
  | [], c, _, h => h
  | x :: xs, c, hg, h => by
    have h1 := col_sum (hg x List.mem_cons_self)
    refine carry_le hb hr xs _ (fun y hy => hg y (List.mem_cons_of_mem _ hy)) ⟨Int.ediv_nonneg (by omega) (by omega), ?_⟩
    have h2 : x.sum + c ≤ r * b - 1 := by
      have : r * (b - 1) = r * b - r := by rw [Int.mul_sub, Int.mul_one]
      omega
    have h3 : (x.sum + c) / b < r := Int.ediv_lt_of_lt_mul hb (by omega)
    omega
theorem doCols_last {b r : Int} {cs : List (List Int)} (g : GoodSh b r cs) : 0 ≤ (doCols b cs 0).2 ∧ (doCols b cs 0).2 ≤ r - 1 := carry_le (by have := g.b2; omega) (by have := g.r1; omega) cs 0 g.col ⟨Int.le_refl _, by have := g.r1; omega⟩
theorem goodSh_set {b r : Int} {cs : List (List Int)} (g : GoodSh b r cs) {c : List Int} (hc : GoodCol b r c) (n : Nat) : GoodSh b r (cs.set n c) := ⟨g.b2, g.b12, g.r1, g.r4, by rw [List.length_set]; exact g.len, fun x hx => by
  rcases List.mem_or_eq_of_mem_set hx with h | h
  · exact g.col x h
  · rw [h]; exact hc⟩
section
variable {E : XK} {K : PySem.W.Frag} {C : Addr} {ta tb tc : TE} {tA : TA} {δ : En} {μ μ1 : Mp} {P : Pr} {b : Int} {cs : List (List Int)}
theorem e_lv (h : EA tA δ μ [D K (.int b), P] μ1) (hl : LR K P μ1 (cs.map colD)) (h2 : ∀ c ∈ cs, -(2 ^ 64) < c.sum ∧ c.sum < 2 ^ 64) (hb : -(2 ^ 64) < b ∧ b < 2 ^ 64) : E1 (tCall (spec (lvPre K) lvPost) [] E tA) δ μ (D K (.int (valueOf b cs))) μ1 := fun σ G M s mm =>
  ev_callO h s mm fun G M vs a m2 => by
    obtain ⟨v, w, rfl, p1, p2⟩ := allP2 a
    obtain ⟨ad, xs, rfl, h3, h4⟩ := hl G w M p2 m2
    refine ⟨(b, ad, cs), ⟨by rw [dp_int p1], ⟨⟨xs, h3, h4⟩⟩, h2, hb⟩, ?_⟩
    rintro G' v' M' e ⟨rfl, rfl⟩
    exact ⟨.int _, m2.mono e⟩
end
end SY
namespace SY
open PySem PySem.Spec L2 SX
section
variable {K : PySem.W.Frag} {ta : TE} {δ : En} {μ μ1 : Mp} {P : Pr} {ds : List PyData}
theorem e_eqNil (h : E1 ta δ μ P μ1) (hl : LR K P μ1 ds) (hs : SeqAt.shaped (.list ds) = true) : E1 (tOp (rEqD K) ta (tLst tNil)) δ μ (D K (.bool ds.isEmpty)) μ1 :=
  e_eqD h (EO.frz (o_lst (K := K) d_nil (by decide))) (dr_L hl) dr_D hs (by decide) (by cases ds <;> rfl)
theorem e_neNil (h : E1 ta δ μ P μ1) (hl : LR K P μ1 ds) (hs : SeqAt.shaped (.list ds) = true) : E1 (tOp (rNeD K) ta (tLst tNil)) δ μ (D K (.bool (!ds.isEmpty))) μ1 :=
  e_neD h (EO.frz (o_lst (K := K) d_nil (by decide))) (dr_L hl) dr_D hs (by decide) (by cases ds <;> rfl)
end
end SY
namespace SY
open PySem PySem.Spec L2 SX
theorem s_then {E : XK} {t u : TS} {δ : En} {μ : Mp} {P : PY} (h : S1 E t δ μ { P with nx := fun δ' μ' => S1 E u δ' μ' P }) : S1 E (tSeq t u) δ μ P := s_seq (N := fun δ' μ' => S1 E u δ' μ' P) h fun _ _ z => z
end SY
namespace SY
open PySem PySem.Spec L2 SX
theorem tp_notN {Ps : List Pr} : ∀ G v, (Tp Ps).p G v → v ≠ .non := fun G v h => by
  obtain ⟨a, vs, rfl, _⟩ := h
  intro h
  cases h
end SY

set_option Elab.async false
set_option linter.all false
set_option maxRecDepth 100000
/-! SYj: a slip's doing with the column behind; the law's own doings. -/
namespace SY
open PySem PySem.Spec L2 SX
def slipR (a : Int) (w : Option (List Int × Int)) (x : Deed) : PyData := match w with
  | none => .none
  | some (fs, c) => .tuple [.list (fs.map .int), .int c, .int (if x = .swap then a + 2 else a + 1)]
section
variable {K : PySem.W.Frag} {te ta tb : TE} {δ : En} {μ μ1 : Mp} {P1 : Pr} {α : Type} {enc : α → PyData} {xs : List α} {lo hi : Int}
theorem o_listC {c : List Int} (h : E1 ta δ μ (D K (colD c)) μ1) : EO K (tCB (rListS K) (tCons ta tNil)) δ μ (c.map .int) μ1 := o_listT h
theorem e_ixCI {c : List Int} {i : Int} {μ2 : Mp} (h1 : E1 ta δ μ (D K (colD c)) μ1) (h2 : E1 tb δ μ1 (D K (.int i)) μ2) (h : 0 ≤ i ∧ i < c.length) : E1 (tOp (rIxT K) ta tb) δ μ (D K (.int (c.getD i.toNat 0))) μ2 := e_ixTI h1 h2 h
theorem e_ixLD {i : Int} {μ2 : Mp} {xs : List Deed} (h1 : E1 ta δ μ P1 μ1) (h2 : E1 tb δ μ1 (D K (.int i)) μ2) (hl : LR K P1 μ2 (xs.map deedD)) (h : 0 ≤ i ∧ i < xs.length) : E1 (tOp (rIxL K) ta tb) δ μ (D K (deedD (xs.getD i.toNat .right))) μ2 := e_ixLM .right h1 h2 hl h
theorem e_lenC {c : List Int} (h : E1 ta δ μ (D K (colD c)) μ1) : E1 (tCB (rLenS K) (tCons ta tNil)) δ μ (D K (.int (c.length : Int))) μ1 := by
  have := e_lenT (K := K) h
  rw [List.length_map] at this
  exact this
theorem o_cut2 (h : E1 te δ μ P1 μ1) (hl : E1 ta δ μ1 (D K (.int lo)) μ1) (hh : E1 tb δ μ1 (D K (.int hi)) μ1) (l : LR K P1 μ1 (xs.map enc)) (h0 : 0 ≤ lo) (h1 : 0 ≤ hi) : EO K (tSl (rSlL K) te (tPart ta) (tPart tb)) δ μ (((xs.take hi.toNat).drop lo.toNat).map enc) μ1 := by
  rw [← cutG_two _ h0 h1]
  exact o_slM h (y_some hl) (y_some hh) l
theorem o_cutL (h : E1 te δ μ P1 μ1) (hl : E1 ta δ μ1 (D K (.int lo)) μ1) (l : LR K P1 μ1 (xs.map enc)) (h0 : 0 ≤ lo) : EO K (tSl (rSlL K) te (tPart ta) tNoPart) δ μ ((xs.drop lo.toNat).map enc) μ1 := by
  rw [← cutG_lo _ h0]
  exact o_slM h (y_some hl) y_none l
theorem o_cutH (h : E1 te δ μ P1 μ1) (hh : E1 tb δ μ1 (D K (.int hi)) μ1) (l : LR K P1 μ1 (xs.map enc)) (h1 : 0 ≤ hi) : EO K (tSl (rSlL K) te tNoPart (tPart tb)) δ μ ((xs.take hi.toNat).map enc) μ1 := by
  rw [← cutG_hi _ h1]
  exact o_slM h y_none (y_some hh) l
end
end SY
namespace SY
open PySem PySem.Spec L2 SX
section
variable {K : PySem.W.Frag} {te ta tb : TE} {δ : En} {μ μ1 : Mp} {P : Pr} {C C' : Addr} {b : Bool}
/-- an instance of C -/
def InsY (C : Addr) (P : Pr) (μ : Mp) : Prop := ∀ G v M, P.p G v → Mm G M μ → ∃ p dx fs, v = .ref p ∧ At G M p (.ins C dx fs)
theorem e_isiO (h : E1 ta δ μ P μ1) (ic : IsCls K C) (cl : Cls K C) (hk : PySem.W.kitOne K (.ref C) (.ref C') = some b) (hp : InsY C P μ1) : E1 (tCB (rIsi K) (tCons ta (tCons (tC (.ref C')) tNil))) δ μ (D K (.bool b)) μ1 :=
  e_CB (a_cons h (a_cons (e_cst (P := Cv (.ref C')) fun _ => rfl) a_nil)) fun G H F M vs m mm p Q q => by
    match vs, p with
    | [v, c], ⟨p1, p2, _⟩ =>
      have p2 : c = .ref C' := p2
      subst p2
      obtain ⟨p0, dx, fs, rfl, h3⟩ := hp G v M p1 mm
      exact ⟨.ref p0, .ref C', .ref C, .ref C', b, rfl, .own C', .base (.ins (h3 G H F (Ex.refl _) m) cl ic.ha ic.hn ic.ht ic.hm), hk, q _ G M H (Ex.refl _) m (.bl _) mm⟩
theorem ins_wr {b0 last : Int} {figs : List Int} {μ : Mp} : InsY C (WrP K C b0 figs last) μ := fun G v M h _ => by
  obtain ⟨p, dx, fs, rfl, h1, _⟩ := wr_pre h M
  exact ⟨p, dx, fs, rfl, h1⟩
theorem ins_sh {b0 r : Int} {cs : List (List Int)} {μ : Mp} (h : SR K C P μ b0 r cs) : InsY C P μ := fun G v M hv mm => by
  obtain ⟨p, dx, fs, rfl, h1, _⟩ := h.pre hv mm
  exact ⟨p, dx, fs, rfl, h1⟩
theorem e_isiX (O : DataOut K C) {d : PyData} (h : E1 ta δ μ (D K d) μ1) : E1 (tCB (rIsi K) (tCons ta (tCons (tC (.ref C)) tNil))) δ μ (D K (.bool false)) μ1 :=
  e_CB (a_cons h (a_cons (e_cst (P := Cv (.ref C)) fun _ => rfl) a_nil)) fun G H F M vs m mm p Q q => by
    match vs, p with
    | [v, c], ⟨p1, p2, _⟩ =>
      have p2 : c = .ref C := p2
      subst p2
      have p1 : Dp K G v d := p1
      exact ⟨v, .ref C, .type (tyName d), .ref C, false, rfl, .own C, tyx_of (dm p1 m.ex), O.ki d, q _ G M H (Ex.refl _) m (.bl _) mm⟩
end
end SY
namespace SY
open PySem PySem.Spec L2 SX
theorem eqv_same {d : PyData} (h : SeqAt.shaped d = true) : PyData.eqv d d = true := SeqAt.eqv_refl d (SeqAt.canLay_of_shaped h)
theorem shd_slips (sl : List (Int × Deed)) : SeqAt.shaped (.list (sl.map slipD)) = true := (sh_lst (n := 2) fun x hx => by
  obtain ⟨y, _, rfl⟩ := List.mem_map.mp hx
  exact sh_slip (n := 0) _).ok
theorem shd_deeds (ds : List Deed) : SeqAt.shaped (.list (ds.map deedD)) = true := (sh_lst (n := 1) fun x hx => by
  obtain ⟨y, _, rfl⟩ := List.mem_map.mp hx
  exact sh_deed (n := 0) _).ok
end SY
namespace SY
open PySem PySem.Spec L2 SX
section
variable {K : PySem.W.Frag} {ta : TE} {δ : En} {μ μ1 : Mp} {s : Int × Deed}
theorem e_ixS0 (h : E1 ta δ μ (D K (slipD s)) μ1) : E1 (tOp (rIxT K) ta (tC (.int 0))) δ μ (D K (.int s.1)) μ1 := e_ixT (ds := [.int s.1, deedD s.2]) h e_cI rfl
theorem e_ixS1 (h : E1 ta δ μ (D K (slipD s)) μ1) : E1 (tOp (rIxT K) ta (tC (.int 1))) δ μ (D K (deedD s.2)) μ1 := e_ixT (ds := [.int s.1, deedD s.2]) h e_cI rfl
end
theorem cut_take {cs : List (List Int)} {i : Int} (h : 0 ≤ i) : cutL cs 0 (i + 1) = cs.take (i.toNat + 1) := by
  unfold cutL
  rw [Int.toNat_zero, List.drop_zero, Nat.sub_zero, show (i + 1).toNat = i.toNat + 1 by omega]
end SY
namespace SY
open PySem PySem.Spec L2 SX
theorem plain_deed (x : Deed) : ∀ d ∈ x.L, ∃ i s, d = PyData.int i ∨ d = .str s := fun d hd => by
  cases x <;> simp only [Deed.L, List.mem_cons, List.not_mem_nil, or_false] at hd
  all_goals (first | (rcases hd with rfl | rfl | rfl) | (rcases hd with rfl | rfl) | subst hd) <;> first | exact ⟨0, _, .inr rfl⟩ | exact ⟨_, "", .inl rfl⟩
theorem eqv_deed (x y : Deed) : PyData.eqv (deedD x) (deedD y) = decide (x = y) := by
  rw [Bool.eq_iff_iff, decide_eq_true_eq]
  show PyData.eqvAll x.L y.L = true ↔ _
  rw [eqv_plain (plain_deed x) (plain_deed y)]
  exact ⟨fun h => deedD_inj (by show PyData.tuple x.L = .tuple y.L; rw [h]), fun h => by rw [h]⟩
section
variable {K : PySem.W.Frag} {ta : TE} {δ : En} {μ μ1 : Mp} {x : Deed} {s : Str}
theorem e_eqW (y : Deed) (hy : deedD y = .tuple [.str s]) (h : E1 ta δ μ (D K (deedD x)) μ1) : E1 (tOp (rEqD K) ta (tTup (tCons (tC (.str s)) tNil))) δ μ (D K (.bool (decide (x = y)))) μ1 := by
  refine e_eqD (K := K) (P2 := D K (.tuple [.str s])) (d := deedD x) (e := deedD y) h (e_tup (K := K) (d_cons e_cS d_nil) (by show 1 ≤ 1000; decide)) dr_D ?_ (sh_deed (n := 0) _).ok (sh_deed (n := 0) _).ok (eqv_deed _ _)
  rw [hy]
  exact dr_D
theorem e_neW (y : Deed) (hy : deedD y = .tuple [.str s]) (h : E1 ta δ μ (D K (deedD x)) μ1) : E1 (tOp (rNeD K) ta (tTup (tCons (tC (.str s)) tNil))) δ μ (D K (.bool (!decide (x = y)))) μ1 := by
  refine e_neD (K := K) (P2 := D K (.tuple [.str s])) (d := deedD x) (e := deedD y) h (e_tup (K := K) (d_cons e_cS d_nil) (by show 1 ≤ 1000; decide)) dr_D ?_ (sh_deed (n := 0) _).ok (sh_deed (n := 0) _).ok (eqv_deed _ _)
  rw [hy]
  exact dr_D
end
end SY

set_option Elab.async false
set_option linter.all false
set_option maxRecDepth 100000
/-! SYk: objects of any class, by their fields: frozen, owned, being made; their properties, methods, operators. -/
namespace SY
open PySem PySem.Spec L2 SX
abbrev FsQ := List (Str × Pr)
def FsP (G : Hp) : FsQ → List (Str × V) → Prop
  | [], [] => True
  | q :: fs, p :: vs => (p.1 = q.1 ∧ q.2.p G p.2) ∧ FsP G fs vs
  | _, _ => False
theorem FsP.mono {G G' : Hp} (e : Ex G G') : ∀ {fs : FsQ} {vs : List (Str × V)}, FsP G fs vs → FsP G' fs vs
  | [], [], _ => trivial
  | q :: _, _ :: _, h => ⟨⟨h.1.1, q.2.m _ _ _ e h.1.2⟩, FsP.mono e h.2⟩
  | [], _ :: _, h => h.elim
  | _ :: _, [], h => h.elim
theorem FsP.len {G : Hp} : ∀ {fs : FsQ} {vs : List (Str × V)}, FsP G fs vs → vs.length = fs.length
  | [], [], _ => rfl
  | _ :: _, _ :: _, h => by simp [FsP.len h.2]
  | [], _ :: _, h => h.elim
  | _ :: _, [], h => h.elim
theorem lookup_hd (f g : Str) (y : V) (fs : List (Str × V)) : ((f, y) :: fs).lookup g = if g = f then some y else fs.lookup g := by
  by_cases h : g = f
  · subst h
    simp [List.lookup]
  · have e : (g == f) = false := by simpa using h
    rw [if_neg h]
    simp [List.lookup, e]
def lookP (f : Str) : FsQ → Option Pr
  | [] => none
  | (g, P) :: r => if f = g then some P else lookP f r
theorem FsP.get {G : Hp} {f : Str} {P : Pr} : ∀ {fs : FsQ} {vs : List (Str × V)}, FsP G fs vs → lookP f fs = some P → ∃ v, vs.lookup f = some v ∧ P.p G v
  | [], [], _, h => by cases h
  | (g, Q) :: fs, (g', v) :: vs, h, hl => by
    obtain ⟨⟨h1, h2⟩, h3⟩ := h
    have h1 : g' = g := h1
    subst h1
    rw [lookup_hd]
    unfold lookP at hl
    by_cases e : f = g'
    · rw [if_pos e] at hl ⊢
      cases hl
      exact ⟨v, rfl, h2⟩
    · rw [if_neg e] at hl ⊢
      exact FsP.get h3 hl
  | [], _ :: _, h, _ => h.elim
  | _ :: _, [], h, _ => h.elim
theorem FsP.no {G : Hp} {f : Str} : ∀ {fs : FsQ} {vs : List (Str × V)}, FsP G fs vs → lookP f fs = none → vs.lookup f = none
  | [], [], _, _ => rfl
  | (g, Q) :: fs, (g', v) :: vs, h, hl => by
    obtain ⟨⟨h1, h2⟩, h3⟩ := h
    have h1 : g' = g := h1
    subst h1
    rw [lookup_hd]
    unfold lookP at hl
    by_cases e : f = g'
    · rw [if_pos e] at hl
      cases hl
    · rw [if_neg e] at hl ⊢
      exact FsP.no h3 hl
  | [], _ :: _, h, _ => h.elim
  | _ :: _, [], h, _ => h.elim
def putP (f : Str) (P : Pr) : FsQ → FsQ
  | [] => [(f, P)]
  | (g, Q) :: r => if g = f then (g, P) :: r else (g, Q) :: putP f P r
theorem FsP.put {G : Hp} {f : Str} {P : Pr} {v : V} (hv : P.p G v) : ∀ {fs : FsQ} {vs : List (Str × V)}, FsP G fs vs → FsP G (putP f P fs) (putF f v vs)
  | [], [], _ => ⟨⟨rfl, hv⟩, trivial⟩
  | (g, Q) :: fs, (g', w) :: vs, h => by
    obtain ⟨⟨h1, h2⟩, h3⟩ := h
    have h1 : g' = g := h1
    subst h1
    unfold putP putF
    by_cases e : g' = f
    · rw [if_pos e, if_pos e]
      exact ⟨⟨rfl, hv⟩, h3⟩
    · rw [if_neg e, if_neg e]
      exact ⟨⟨rfl, h2⟩, FsP.put hv h3⟩
  | [], _ :: _, h => h.elim
  | _ :: _, [], h => h.elim
/-- an object that stands still -/
def ObP (C : Addr) (fs : FsQ) : Pr := ⟨fun G v => ∃ p dx vs, v = .ref p ∧ G p = some (.ins C dx vs) ∧ FsP G fs vs, fun _ _ _ e h => by
  obtain ⟨p, dx, vs, h1, h2, h3⟩ := h
  exact ⟨p, dx, vs, h1, e _ _ h2, h3.mono e⟩⟩
/-- an object that is owned -/
def OI (C : Addr) (fs : FsQ) : Ob := ⟨fun G o => ∃ dx vs, o = .ins C dx vs ∧ FsP G fs vs, fun _ _ _ e h => by
  obtain ⟨dx, vs, h1, h3⟩ := h
  exact ⟨dx, vs, h1, h3.mono e⟩⟩
section
variable {E : XK} {K : PySem.W.Frag} {C C2 p : Addr} {te ta tb tc : TE} {tA : TA} {δ : En} {μ μ' μ0 μ1 μ2 rest : Mp} {P Q P1 P2 : Pr} {Ps : List Pr} {fs gs : FsQ} {f : Str} {n : Nat} {PP : PY} {u : TS}
theorem ins_ob {μ : Mp} : InsY C (ObP C fs) μ := fun G v M h _ => by
  obtain ⟨p, dx, vs, rfl, h1, h2⟩ := h
  exact ⟨p, dx, vs, rfl, .G h1⟩
theorem ins_oi {μ : Mp} (n : Nat) (hl : μ[n]? = some (p, OI C fs)) : InsY C (Av p) μ := fun G v M h mm => by
  obtain ⟨o, h1, dx, vs, rfl, h2⟩ := mm.get hl
  exact ⟨p, dx, vs, h, .M h1⟩
theorem e_fldP (h : E1 ta δ μ (ObP C fs) μ1) (cl : Cls K C) (hn : NoAttr K C f) (hl : lookP f fs = some P) : E1 (tFld K ta f) δ μ P μ1 := fun σ G M s mm G1 H F e m1 q z =>
  h σ G M s mm G1 H F e m1 _ fun v G2 M2 H2 e2 m2 r2 => by
    obtain ⟨p, dx, vs, rfl, h1, h2⟩ := r2.1
    obtain ⟨w, h3, h4⟩ := h2.get hl
    exact ⟨p, C, dx, vs, w, rfl, m2.ex _ _ h1, cl, hn, h3, z w G2 M2 H2 e2 m2 ⟨h4, r2.2⟩⟩
theorem e_fldO (n : Nat) (h : E1 ta δ μ (Av p) μ1) (hm : μ1[n]? = some (p, OI C fs)) (cl : Cls K C) (hn : NoAttr K C f) (hl : lookP f fs = some P) : E1 (tFld K ta f) δ μ P μ1 := fun σ G M s mm G1 H F e m1 q z =>
  h σ G M s mm G1 H F e m1 _ fun v G2 M2 H2 e2 m2 r2 => by
    have hv : v = .ref p := r2.1
    subst hv
    obtain ⟨o, h1, dx, vs, rfl, h2⟩ := r2.2.get hm
    obtain ⟨w, h3, h4⟩ := h2.get hl
    exact ⟨p, C, dx, vs, w, rfl, m2.getF h1, cl, hn, h3, z w G2 M2 H2 e2 m2 ⟨h4, r2.2⟩⟩
theorem s_fldO (n : Nat) (h : E1 tc δ μ Q μ1) (h1 : E1 ta δ μ1 (Av p) μ1) (hm : μ1[n]? = some (p, OI C fs)) (cl : Cls K C) (hn : NoAttr K C f) (hl : fs.length < 1000) (k' : PP.nx δ (μ1.set n (p, OI C (putP f Q fs)))) : S1 E (sFld K ta tc f) δ μ PP := fun σ G M s m G1 H F D e m1 hd =>
  h σ G M s m G1 H F e m1 _ fun v G2 M2 H2 e2 m2 r2 => h1 σ G2 M2 (s.mono (e.trans e2)) r2.2 G2 H2 F (Ex.refl _) m2 _ fun x G3 M3 H3 e3 m3 r3 => by
    have hx : x = .ref p := r3.1
    subst hx
    obtain ⟨o, h5, dx, vs, rfl, h6⟩ := r3.2.get hm
    refine ⟨p, C, dx, vs, rfl, m3.getF h5, cl, hn, by rw [h6.len]; exact hl, hd.nx _ G3 _ _ (e2.trans e3) (m3.putF h5) ⟨_, _, k', s.mono ((e.trans e2).trans e3), Mm.set ?_ r3.2 hm⟩⟩
    exact ⟨dx, _, rfl, h6.put (Q.m _ _ _ e3 r2.1)⟩
theorem s_fldO' (n : Nat) (h : E1 tc δ μ Q μ1) (h1 : E1 ta δ μ1 (Av p) μ1) (hm : μ1[n]? = some (p, OI C fs)) (cl : Cls K C) (hn : NoAttr K C f) (hl : fs.length < 1000) (k' : S1 E u δ (μ1.set n (p, OI C (putP f Q fs))) PP) : S1 E (tSeq (sFld K ta tc f) u) δ μ PP :=
  s_seq (N := fun x y => x = δ ∧ y = μ1.set n (p, OI C (putP f Q fs))) (s_fldO n h h1 hm cl hn hl ⟨rfl, rfl⟩) fun x y r => by
    obtain ⟨rfl, rfl⟩ := r
    exact k'
/-! calls that an object takes -/
section
variable {α : Type} {A : α → List Pr} {m : α → Mp} {pre : α → Prop} {R : α → Pr → Mp → Prop} {B : α → Pr} {nm : Str}
theorem sp_run {G : Hp} {M F : Mem} {H : Hp} {vs : List V} {Qk : VK} {E : XK} (x : α) (h1 : Me G (M ++ F) H) (h2 : Mm G M (m x)) (h3 : AP G (A x) vs) (hp : pre x) (k : ∀ v G' M' H', Ex G G' → Me G' (M' ++ F) H' → (∃ Q μ', R x Q μ' ∧ Q.p G' v ∧ Mm G' M' μ') → Qk v H') : sp A m pre R vs H Qk E :=
  ⟨x, G, M, F, h1, ⟨h2, h3, hp⟩, fun v G' M' H' e' m' r => k v G' M' H' e' m' r⟩
theorem y_prop (x : α) (h : E1 ta δ μ P (m x ++ rest)) (hA : A x = [P]) (hi : InsY C P (m x ++ rest)) (hp : pre x) : EY (tProp C (sp A m pre R) [] E ta) δ μ (fun Q μ' => ∃ μ2, R x Q μ2 ∧ μ' = μ2 ++ rest) := fun σ G M s mm G1 H F e m1 q z =>
  h σ G M s mm G1 H F e m1 _ fun v G2 M2 H2 e2 m2 r2 => by
    obtain ⟨a, dx, vs, rfl, hat⟩ := hi G2 v M2 r2.1 r2.2
    obtain ⟨Ma, Mb, rfl, ma, mb⟩ := Mm.cut r2.2
    refine ⟨a, dx, vs, rfl, hat G2 H2 F (Ex.refl _) m2, sp_run (F := Mb ++ F) x (by rw [← List.append_assoc]; exact m2) ma (by rw [hA]; exact ⟨r2.1, trivial⟩) hp fun v G' M' H' e' m' r => ?_⟩
    obtain ⟨Q, μ', r0, r1, r3⟩ := r
    exact z v G' (M' ++ Mb) H' (e2.trans e') (by rw [List.append_assoc]; exact m') ⟨Q, _, ⟨μ', r0, rfl⟩, r1, Mm.app r3 (mb.mono e')⟩
/-- an object without an own attribute of this name -/
def InsN (C : Addr) (nm : Str) (P : Pr) (μ : Mp) : Prop := ∀ G v M, P.p G v → Mm G M μ → ∃ p dx fs, v = .ref p ∧ At G M p (.ins C dx fs) ∧ fs.lookup nm = none
theorem insN_ob {μ : Mp} (h : lookP nm fs = none) : InsN C nm (ObP C fs) μ := fun G v M hv _ => by
  obtain ⟨p, dx, vs, rfl, h1, h2⟩ := hv
  exact ⟨p, dx, vs, rfl, .G h1, h2.no h⟩
theorem insN_oi {μ : Mp} (n : Nat) (hl : μ[n]? = some (p, OI C fs)) (h : lookP nm fs = none) : InsN C nm (Av p) μ := fun G v M hv mm => by
  obtain ⟨o, h1, dx, vs, rfl, h2⟩ := mm.get hl
  exact ⟨p, dx, vs, hv, .M h1, h2.no h⟩
theorem y_meth (x : α) (h : E1 ta δ μ P μ1) (hi : InsN C nm P μ1) (h2 : EA tA δ μ1 Ps (m x ++ rest)) (hA : A x = P :: Ps) (hp : pre x) : EY (tMeth C nm (sp A m pre R) [] E ta tA) δ μ (fun Q μ' => ∃ μ2, R x Q μ2 ∧ μ' = μ2 ++ rest) := fun σ G M s mm G1 H F e m1 q z =>
  h σ G M s mm G1 H F e m1 _ fun v G2 M2 H2 e2 m2 r2 => by
    obtain ⟨a, dx, vs, rfl, hat, hno⟩ := hi G2 v M2 r2.1 r2.2
    refine ⟨a, dx, vs, rfl, hat G2 H2 F (Ex.refl _) m2, hno, h2 σ G2 M2 (s.mono (e.trans e2)) r2.2 G2 H2 F (Ex.refl _) m2 _ fun xs G3 M3 H3 e3 m3 a3 r3 => ?_⟩
    obtain ⟨Ma, Mb, rfl, ma, mb⟩ := Mm.cut r3
    rw [List.append_nil]
    refine sp_run (F := Mb ++ F) x (by rw [← List.append_assoc]; exact m3) ma (by rw [hA]; exact ⟨P.m _ _ _ e3 r2.1, a3⟩) hp fun v G' M' H' e' m' r => ?_
    obtain ⟨Q, μ', r0, r1, r4⟩ := r
    exact z v G' (M' ++ Mb) H' ((e2.trans e3).trans e') (by rw [List.append_assoc]; exact m') ⟨Q, _, ⟨μ', r0, rfl⟩, r1, Mm.app r4 (mb.mono e')⟩
/-- one op other, both of the class C -/
theorem y_binO (x : α) (h1 : E1 ta δ μ P1 μ1) (h2 : E1 tb δ μ1 P2 (m x ++ rest)) (i1 : InsY C P1 (m x ++ rest)) (i2 : InsY C P2 (m x ++ rest)) (hA : A x = [P1, P2]) (hp : pre x) : EY (tOp (rBinO C (sp A m pre R) E) ta tb) δ μ (fun Q μ' => ∃ μ2, R x Q μ2 ∧ μ' = μ2 ++ rest) := fun σ G M s mm G1 H F e m1 q z =>
  h1 σ G M s mm G1 H F e m1 _ fun v G2 M2 H2 e2 m2 r2 => h2 σ G2 M2 (s.mono (e.trans e2)) r2.2 G2 H2 F (Ex.refl _) m2 _ fun w G3 M3 H3 e3 m3 r3 => by
    have p1 := P1.m _ _ _ e3 r2.1
    obtain ⟨a, dx, vs, rfl, ha⟩ := i1 G3 v M3 p1 r3.2
    obtain ⟨b, dy, ws, rfl, hb⟩ := i2 G3 w M3 r3.1 r3.2
    obtain ⟨Ma, Mb, rfl, ma, mb⟩ := Mm.cut r3.2
    refine ⟨a, dx, vs, b, dy, ws, rfl, rfl, ha G3 H3 F (Ex.refl _) m3, hb G3 H3 F (Ex.refl _) m3, sp_run (F := Mb ++ F) x (by rw [← List.append_assoc]; exact m3) ma (by rw [hA]; exact ⟨p1, r3.1, trivial⟩) hp fun v G' M' H' e' m' r => ?_⟩
    obtain ⟨Q, μ', r0, r1, r4⟩ := r
    exact z v G' (M' ++ Mb) H' ((e2.trans e3).trans e') (by rw [List.append_assoc]; exact m') ⟨Q, _, ⟨μ', r0, rfl⟩, r1, Mm.app r4 (mb.mono e')⟩
theorem e_binO {B : α → Pr} (x : α) (h1 : E1 ta δ μ P1 μ1) (h2 : E1 tb δ μ1 P2 μ2) (i1 : InsY C P1 μ2) (i2 : InsY C P2 μ2) (hA : A x = [P1, P2]) (hp : pre x) : E1 (tOp (rBinO C (spD A pre B) E) ta tb) δ μ (B x) μ2 := ((y_binO (m := fun _ => []) (rest := μ2) (R := fun x Q μ => Q = B x ∧ μ = []) x h1 h2 i1 i2 hA hp).imp fun Q μ' r => by
  obtain ⟨_, ⟨rfl, rfl⟩, rfl⟩ := r
  exact ⟨rfl, rfl⟩).one
theorem e_cmpO {B : α → Pr} (x : α) (h1 : E1 ta δ μ P1 μ1) (h2 : E1 tb δ μ1 P2 μ2) (i1 : InsY C P1 μ2) (i2 : InsY C P2 μ2) (hA : A x = [P1, P2]) (hp : pre x) : E1 (tOp (rCmpO C (spD A pre B) E) ta tb) δ μ (B x) μ2 := e_binO x h1 h2 i1 i2 hA hp
theorem e_propD {B : α → Pr} (x : α) (h : E1 ta δ μ P μ1) (hA : A x = [P]) (hi : InsY C P μ1) (hp : pre x) : E1 (tProp C (spD A pre B) [] E ta) δ μ (B x) μ1 := ((y_prop (m := fun _ => []) (rest := μ1) (R := fun x Q μ => Q = B x ∧ μ = []) x h hA hi hp).imp fun Q μ' r => by
  obtain ⟨_, ⟨rfl, rfl⟩, rfl⟩ := r
  exact ⟨rfl, rfl⟩).one
theorem e_methD {B : α → Pr} (x : α) (h : E1 ta δ μ P μ1) (hi : InsN C nm P μ1) (h2 : EA tA δ μ1 Ps μ2) (hA : A x = P :: Ps) (hp : pre x) : E1 (tMeth C nm (spD A pre B) [] E ta tA) δ μ (B x) μ2 := ((y_meth (m := fun _ => []) (rest := μ2) (R := fun x Q μ => Q = B x ∧ μ = []) x h hi h2 hA hp).imp fun Q μ' r => by
  obtain ⟨_, ⟨rfl, rfl⟩, rfl⟩ := r
  exact ⟨rfl, rfl⟩).one
/-- x in o -/
theorem e_inO {b : α → Bool} (x : α) (h1 : E1 ta δ μ P1 μ1) (h2 : E1 tb δ μ1 P2 μ2) (i2 : InsY C P2 μ2) (hA : A x = [P2, P1]) (hp : pre x) : E1 (tOp (rInO C (spD A pre (fun x => D K (.bool (b x)))) E) ta tb) δ μ (D K (.bool (b x))) μ2 := fun σ G M s mm G1 H F e m1 q z =>
  h1 σ G M s mm G1 H F e m1 _ fun v G2 M2 H2 e2 m2 r2 => h2 σ G2 M2 (s.mono (e.trans e2)) r2.2 G2 H2 F (Ex.refl _) m2 _ fun w G3 M3 H3 e3 m3 r3 => by
    obtain ⟨c, dy, ws, rfl, hb⟩ := i2 G3 w M3 r3.1 r3.2
    refine ⟨c, dy, ws, rfl, hb G3 H3 F (Ex.refl _) m3, sp_run (F := M3 ++ F) (M := []) x m3 trivial (by rw [hA]; exact ⟨r3.1, P1.m _ _ _ e3 r2.1, trivial⟩) hp fun v G' M' H' e' m' r => ?_⟩
    obtain ⟨Q, μ', ⟨rfl, rfl⟩, r1, r4⟩ := r
    have hM := r4.nil
    subst hM
    exact ⟨b x, dp_bl r1, z _ G' M3 H' ((e2.trans e3).trans e') m' ⟨.bl _, r3.2.mono e'⟩⟩
end
/-! making -/
/-- the promise of an __init__: the object is owned, without fields; then with these -/
abbrev spMk {β : Type} (K : PySem.W.Frag) (C : Addr) (A : β → List Pr) (pre : β → Prop) (fs : β → FsQ) : Sp := sp (α := Addr × β) (fun x => Av x.1 :: A x.2) (fun x => [(x.1, OI C [])]) (fun x => pre x.2) (fun x Q μ => Q = D K .none ∧ μ = [(x.1, OI C (fs x.2))])
section
variable {β : Type} {A : β → List Pr} {pre : β → Prop} {ff : β → FsQ}
theorem mk_run (x : β) (h : EA tA δ μ (A x) μ1) (hp : pre x) {σ : L2.St} {G : Hp} {M : Mem} (s : Sl G σ δ) (mm : Mm G M μ) {G1 H : Hp} {F : Mem} (e : Ex G G1) (m1 : Me G1 (M ++ F) H) (Qk : VK) (k : ∀ p dx vs G2 M2 H2, Ex G1 G2 → Me G2 ((p, .ins C dx vs) :: (M2 ++ F)) H2 → FsP G2 (ff x) vs → Mm G2 M2 μ1 → Qk (.ref p) H2) : tMake C (spMk K C A pre ff) [] E tA σ H Qk :=
  h σ G M s mm G1 H F e m1 _ fun vs G2 M2 H2 e2 m2 a2 r2 p dx hpn hdn hne => by
    have hp2 : upd H2 dx (.own p) p = none := by rw [upd_ne hne.symm]; exact hpn
    have m3 := (m2.new (o := .own p) hdn).newM (o := .ins C dx []) hp2
    rw [List.append_nil]
    refine sp_run (F := M2 ++ F) (M := [(p, .ins C dx [])]) (p, x) m3 ⟨⟨rfl, dx, [], rfl, trivial⟩, trivial⟩ ⟨rfl, a2⟩ hp fun v G' M' H' e' m' r => ?_
    obtain ⟨Q, μ', ⟨rfl, rfl⟩, r1, r4⟩ := r
    obtain ⟨o, rfl, dx', vs', rfl, h6⟩ := Mm.sing r4
    exact ⟨dp_non r1, k p dx' vs' G' M2 H' (e2.trans e') m' h6 (r2.mono e')⟩
theorem e_mkP (x : β) (h : EA tA δ μ (A x) μ1) (hp : pre x) : E1 (tMake C (spMk K C A pre ff) [] E tA) δ μ (ObP C (ff x)) μ1 := fun σ G M s mm G1 H F e m1 q z =>
  mk_run x h hp s mm e m1 q fun p dx vs G2 M2 H2 e2 m2 h6 r2 => by
    obtain ⟨m3, e3⟩ := m2.freeze
    exact z _ _ M2 H2 (e2.trans e3) m3 ⟨⟨p, dx, vs, rfl, upd_same, h6.mono e3⟩, r2.mono e3⟩
theorem y_mkO (x : β) (h : EA tA δ μ (A x) μ1) (hp : pre x) : EY (tMake C (spMk K C A pre ff) [] E tA) δ μ (fun P μ' => ∃ p, P = Av p ∧ μ' = μ1 ++ [(p, OI C (ff x))]) := fun σ G M s mm G1 H F e m1 q z =>
  mk_run x h hp s mm e m1 q fun p dx vs G2 M2 H2 e2 m2 h6 r2 =>
    z _ _ (M2 ++ [(p, .ins C dx vs)]) H2 e2 (m2.perm (by rw [List.append_assoc]; exact List.perm_middle)) ⟨Av p, _, ⟨p, rfl, rfl⟩, rfl, Mm.app r2 ⟨⟨rfl, dx, vs, rfl, h6⟩, trivial⟩⟩
end
end
end SY

set_option Elab.async false
set_option linter.all false
set_option maxRecDepth 100000
/-! SYl: values that can be read, walks over them, len(set(..)) of deeds; kinds. -/
namespace SY
open PySem PySem.Spec L2 SX
/-- data, or an owned list of data -/
def RD (K : PySem.W.Frag) (P : Pr) (μ : Mp) (d : PyData) : Prop := Imp P (D K d) ∨ ∃ ds, d = .list ds ∧ LR K P μ ds
section
variable {E : XK} {K : PySem.W.Frag} {C : Addr} {te ta tb tc tl : TE} {tt : TT} {tA : TA} {δ δ' : En} {μ μ' μ0 μ1 μ2 rest : Mp} {P Q P1 P2 : Pr} {d e : PyData} {ds es : List PyData} {k : Nat} {g : TG} {vs : List Nat}
theorem rd_D : RD K (D K d) μ d := .inl (Imp.refl _)
theorem rd_L (h : LR K P μ ds) : RD K P μ (.list ds) := .inr ⟨ds, rfl, h⟩
theorem RD.lr (h : RD K P μ (.list ds)) : LR K P μ ds := by
  rcases h with h | ⟨es, he, h⟩
  · intro G v M p mm
    exact lr_D G v M (h G v p) mm
  · cases he
    exact h
theorem RD.dr (h : RD K P μ d) : DR K P μ d := by
  rcases h with h | ⟨es, rfl, h⟩
  · intro G v M F H p mm m
    exact dr_D G v M F H (h G v p) mm m
  · exact dr_L h
theorem e_isiRD {T : String} (h : E1 ta δ μ P μ1) (r : RD K P μ1 d) (hT : T = "int" ∨ T = "bool" ∨ T = "tuple" ∨ T = "list" ∨ T = "str") : E1 (tCB (rIsi K) (tCons ta (tCons (tC (.ty T)) tNil))) δ μ (D K (.bool (isTy d T))) μ1 :=
  e_CB (a_cons h (a_cons (e_cst (P := Cv (.ty T)) fun _ => rfl) a_nil)) fun G H F M vs m mm p Q q => by
    match vs, p with
    | [v, c], ⟨p1, p2, _⟩ =>
      have p2 : c = .ty T := p2
      subst p2
      have p1 : Dp K H v d := r.dr G v M F H p1 mm m
      refine ⟨v, .ty T, .type (tyName d), .type T, isTy d T, rfl, .ty T, tyx_of p1, kit_ty ?_, q _ G M H (Ex.refl _) m (.bl _) mm⟩
      unfold isTy
      cases p1 <;> dsimp only [tyName] <;> rcases hT with rfl | rfl | rfl | rfl | rfl <;> decide +kernel
/-- [e for x in l], l can be read -/
theorem o_mapLR {α : Type} {enc out : α → PyData} {xs : List α} (hs : E1 tl δ μ P μ1) (hl : LR K P μ1 (xs.map enc)) (hn : xs.length ≤ 100000) (hb : ∀ x, x ∈ xs → E1 te ((wipeY δ vs).set k (some (D K (enc x)))) μ1 (D K (out x)) μ1) (hk : k ∈ vs := by decide) : EO K (tLc (iList K tl) (gName k) tYes te vs) δ μ (xs.map out) μ1 := by
  have hw := i_listR hs hl (List.Sublist.refl μ1)
  rw [List.length_map] at hw
  have := o_lc (K := K) (g := gName k) (tt := tYes) (te := te) (vs := vs) (kp := μ1) (fun _ => μ1) (fun _ => true) (fun i => ((xs.map out)[i]?).getD .none) hw hn (fun i hi => by
    have hx : xs[i]? = some xs[i] := List.getElem?_eq_getElem hi
    refine ⟨_, g_name hk, t_yes, fun _ => ?_, fun z => by cases z⟩
    rw [getD_map hx, getD_map hx]
    exact hb xs[i] (List.getElem_mem hi)) (fun _ => List.Sublist.refl _)
  rw [kept_mapM (enc := out) (out := out) fun i x h => getD_map h] at this
  exact this
theorem o_filtLR {α : Type} {enc out : α → PyData} {p : α → Bool} {xs : List α} (hs : E1 tl δ μ P μ1) (hl : LR K P μ1 (xs.map enc)) (hn : xs.length ≤ 100000) (hb : ∀ x, x ∈ xs → T1 tt ((wipeY δ vs).set k (some (D K (enc x)))) μ1 (p x) μ1)
    (hb2 : ∀ x, x ∈ xs → p x = true → E1 te ((wipeY δ vs).set k (some (D K (enc x)))) μ1 (D K (out x)) μ1) (hk : k ∈ vs := by decide) : EO K (tLc (iList K tl) (gName k) tt te vs) δ μ ((xs.filter p).map out) μ1 := by
  have hw := i_listR hs hl (List.Sublist.refl μ1)
  rw [List.length_map] at hw
  have := o_lc (K := K) (g := gName k) (tt := tt) (te := te) (vs := vs) (kp := μ1) (fun _ => μ1) (fun i => ((xs[i]?).map p).getD false) (fun i => ((xs.map out)[i]?).getD .none) hw hn (fun i hi => by
    have hx : xs[i]? = some xs[i] := List.getElem?_eq_getElem hi
    refine ⟨_, g_name hk, ?_, fun z => ?_, fun _ => rfl⟩
    · rw [getD_map hx, hx]
      exact hb xs[i] (List.getElem_mem hi)
    · rw [hx] at z
      rw [getD_map hx, getD_map hx]
      exact hb2 xs[i] (List.getElem_mem hi) z) (fun _ => List.Sublist.refl _)
  rw [kept_filter (p := p) (out := out) fun i x h => ⟨by rw [h]; rfl, getD_map h⟩] at this
  exact this
/-! deeds in a set -/
def keyD : PyData → Key
  | .int i => .inl i
  | .str x => .inr x
  | _ => .inl 0
def keysOf (x : Deed) : List Key := x.L.map keyD
theorem keysOf_inj {x y : Deed} (h : keysOf x = keysOf y) : x = y := by
  have h1 := plain_deed x
  have h2 := plain_deed y
  refine deedD_inj ?_
  show PyData.tuple x.L = .tuple y.L
  congr 1
  unfold keysOf at h
  generalize x.L = l at h h1
  generalize y.L = l' at h h2
  induction l generalizing l' with
  | nil => cases l' with
    | nil => rfl
    | cons _ _ => cases h
  | cons a l ih => cases l' with
    | nil => cases h
    | cons b l' =>
      simp only [List.map_cons, List.cons.injEq] at h
      rw [ih (fun d hd => h1 d (List.mem_cons_of_mem _ hd)) l' h.2 (fun d hd => h2 d (List.mem_cons_of_mem _ hd))]
      obtain ⟨i, s, h3⟩ := h1 a List.mem_cons_self
      obtain ⟨j, t, h4⟩ := h2 b List.mem_cons_self
      have h5 := h.1
      rcases h3 with rfl | rfl <;> rcases h4 with rfl | rfl <;> simp_all [keyD]
theorem uniq_map {α β : Type} [DecidableEq α] [DecidableEq β] {f : α → β} (hf : ∀ x y, f x = f y → x = y) : ∀ xs : List α, uniq (xs.map f) = (uniq xs).map f
  | [] => rfl
  | x :: xs => by
    rw [List.map_cons]
    unfold uniq
    by_cases h : x ∈ xs
    · rw [if_pos h, if_pos (List.mem_map_of_mem h), uniq_map hf xs]
    · rw [if_neg h, if_neg (fun z => by obtain ⟨y, hy, e⟩ := List.mem_map.mp z; exact h (hf _ _ e ▸ hy)), uniq_map hf xs]
      rfl
theorem keys_at {G : Hp} : ∀ {l : List PyData} {vs : List V}, (∀ d ∈ l, ∃ i s, d = PyData.int i ∨ d = .str s) → DpAll K G vs l → vs = l.map fun d => keyV (keyD d)
  | [], _, _, h => by cases h; rfl
  | d :: l, _, hp, h => by
    cases h with
    | cons h1 h2 =>
      rw [keys_at (fun x hx => hp x (List.mem_cons_of_mem _ hx)) h2, List.map_cons]
      obtain ⟨i, s, h3⟩ := hp d List.mem_cons_self
      rcases h3 with rfl | rfl
      · rw [dp_int h1]
        rfl
      · rw [dp_str h1]
        rfl
theorem refs_at {G H : Hp} (hG : Ex G H) : ∀ {xs : List Deed} {vs : List V}, DpAll K G vs (xs.map deedD) → ∃ ks : List (Addr × List Key), vs = (ks.map fun p => V.ref p.1) ∧ ks.map (·.2) = xs.map keysOf ∧ ∀ p ∈ ks, SqT K H p.1 (p.2.map keyV)
  | [], _, h => by cases h; exact ⟨[], rfl, rfl, fun _ h => by cases h⟩
  | x :: xs, _, h => by
    cases h with
    | cons h1 h2 =>
      obtain ⟨ks, rfl, h4, h5⟩ := refs_at hG h2
      obtain ⟨a, ws, rfl, h6, h7⟩ := dp_tup h1
      refine ⟨(a, keysOf x) :: ks, rfl, by simp [h4], fun p hp => ?_⟩
      rcases List.mem_cons.mp hp with rfl | hp
      · have := keys_at (plain_deed x) h7
        rw [this] at h6
        show SqT K H a ((keysOf x).map keyV)
        unfold keysOf
        rw [List.map_map]
        exact ex_t hG h6
      · exact h5 p hp
/-- len(set(deeds)) -/
theorem e_lenSet {xs : List Deed} (h : E1 ta δ μ P μ1) (hl : LR K P μ1 (xs.map deedD)) (hn : xs.length ≤ 60) : E1 (tLenSetE K ta) δ μ (D K (.int ((uniq xs).length : Nat))) μ1 := fun σ G M s m G1 H F e m1 q z =>
  h σ G M s m G1 H F e m1 _ fun v G2 M2 H2 e2 m2 r2 => by
    obtain ⟨a, vs, rfl, h3, h4⟩ := hl.at G2 v M2 F H2 r2.1 r2.2 m2
    obtain ⟨ks, rfl, h5, h6⟩ := refs_at m2.ex h4
    have hlen : ks.length = xs.length := by
      have := congrArg List.length h5
      simpa using this
    refine ⟨a, ks, rfl, h3, h6, by omega, z _ G2 M2 H2 e2 m2 ⟨?_, r2.2⟩⟩
    rw [h5, uniq_map (fun x y => keysOf_inj), List.length_map]
    exact .int _
/-! kinds -/
def kdF (K : PySem.W.Frag) (b r : Int) (ds : List Deed) (m : Int) : FsQ := [("_base", D K (.int b)), ("_rows", D K (.int r)), ("_deeds", D K (.list (ds.map deedD))), ("_most", D K (.int m))]
def KdP (K : PySem.W.Frag) (C : Addr) (b r : Int) (ds : List Deed) (m : Int) : Pr := ObP C (kdF K b r ds m)
end
/-- a kind -/
structure GoodKd (b r : Int) (ds : List Deed) (m : Int) : Prop where
  b2 : 2 ≤ b
  b12 : b ≤ 12
  r1 : 1 ≤ r
  r4 : r ≤ 4
  pw : b ^ r.toNat ≤ 1000
  m1 : 1 ≤ m
  m3 : m ≤ 3
  n1 : 1 ≤ ds.length
  n8 : ds.length ≤ 8
  nd : ds.Nodup
  ok : ∀ x ∈ ds, x ∈ allDeeds b r
/-- in the order of a kind -/
def inOrder (b r : Int) (ds : List Deed) : List Deed := (allDeeds b r).filter fun x => decide (x ∈ ds)
/-- the deed that is told so -/
def undeed (b r : Int) (d : PyData) : Deed := ((allDeeds b r).find? fun x => PyData.eqv (deedD x) d).getD .right
theorem undeed_eq {b r : Int} {x : Deed} (h : x ∈ allDeeds b r) : undeed b r (deedD x) = x := by
  unfold undeed
  cases hf : (allDeeds b r).find? fun y => PyData.eqv (deedD y) (deedD x) with
  | none =>
    have := List.find?_eq_none.mp hf x h
    rw [eqv_deed] at this
    simp at this
  | some y =>
    have := List.find?_some hf
    rw [eqv_deed, decide_eq_true_eq] at this
    exact this
def areDeedsD (b r : Int) : PyData → Bool
  | .list ds => decide (1 ≤ ds.length ∧ ds.length ≤ 8) && (ds.all (isDeedD b r) && decide ((ds.map (undeed b r)).Nodup))
  | _ => false
theorem all_deeds {b r : Int} : ∀ {ds : List PyData}, ds.all (isDeedD b r) = true → ∃ xs : List Deed, ds = xs.map deedD ∧ ∀ x ∈ xs, x ∈ allDeeds b r
  | [], _ => ⟨[], rfl, fun _ h => by cases h⟩
  | d :: ds, h => by
    rw [List.all_cons, Bool.and_eq_true] at h
    obtain ⟨x, hx, rfl⟩ := isDeed_iff.mp h.1
    obtain ⟨xs, rfl, hxs⟩ := all_deeds h.2
    exact ⟨x :: xs, rfl, fun y hy => by
      rcases List.mem_cons.mp hy with rfl | hy
      · exact hx
      · exact hxs y hy⟩
theorem map_undeed {b r : Int} : ∀ {xs : List Deed}, (∀ x ∈ xs, x ∈ allDeeds b r) → (xs.map deedD).map (undeed b r) = xs
  | [], _ => rfl
  | x :: xs, h => by
    rw [List.map_cons, List.map_cons, undeed_eq (h x List.mem_cons_self), map_undeed fun y hy => h y (List.mem_cons_of_mem _ hy)]
theorem areDeeds_good {b r : Int} {xs : List Deed} (h : ∀ x ∈ xs, x ∈ allDeeds b r) : areDeedsD b r (.list (xs.map deedD)) = (decide (1 ≤ xs.length ∧ xs.length ≤ 8) && decide (xs.Nodup)) := by
  unfold areDeedsD
  dsimp only
  rw [map_undeed h, List.length_map, List.all_eq_true.mpr fun d hd => by
    obtain ⟨x, hx, rfl⟩ := List.mem_map.mp hd
    exact isDeed_iff.mpr ⟨x, h x hx, rfl⟩, Bool.true_and]
end SY
namespace SY
open PySem PySem.Spec L2 SX
/-- a new list back, owned -/
abbrev spO {α : Type} (K : PySem.W.Frag) (A : α → List Pr) (pre : α → Prop) (B : α → List PyData) : Sp := sp A (fun _ => []) pre (fun x Q μ => ∃ q, Q = Av q ∧ μ = [(q, OL K (B x))])
/-- the promise of an __init__ that reads what is owned -/
abbrev spMkR {β : Type} (K : PySem.W.Frag) (C : Addr) (A : β → List Pr) (pre : Mp → β → Prop) (fs : β → FsQ) : Sp := sp (α := Addr × Mp × β) (fun x => Av x.1 :: A x.2.2) (fun x => (x.1, OI C []) :: x.2.1) (fun x => pre x.2.1 x.2.2) (fun x Q μ => Q = D K .none ∧ μ = (x.1, OI C (fs x.2.2)) :: x.2.1)
section
variable {E : XK} {K : PySem.W.Frag} {C : Addr} {ta tb : TE} {tA : TA} {δ : En} {μ μ1 μ2 : Mp} {P : Pr} {Ps : List Pr} {nm : Str}
section
variable {α : Type} {A : α → List Pr} {pre : α → Prop} {B : α → List PyData}
theorem EO.of_y {te : TE} {ds : List PyData} (h : EY te δ μ (fun Q μ' => ∃ μ2, (∃ q, Q = Av q ∧ μ2 = [(q, OL K ds)]) ∧ μ' = μ2 ++ μ1)) : EO K te δ μ ds μ1 := fun σ G M s mm G1 H F e m1 q z => h σ G M s mm G1 H F e m1 q fun v G2 M2 H2 e2 m2 r2 => by
  obtain ⟨Q, _, ⟨_, ⟨a, rfl, rfl⟩, rfl⟩, hv, h2⟩ := r2
  have hv : v = .ref a := hv
  subst hv
  match M2, h2 with
  | (b, o) :: M0, ⟨⟨h3, vs, h4, h5⟩, h6⟩ =>
    have h3 : b = a := h3
    have h4 : o = .lst vs := h4
    subst h3 h4
    have h6 : Mm G2 M0 μ1 := h6
    exact z _ G2 (M0 ++ [(b, .lst vs)]) H2 e2 (m2.perm (by rw [List.append_assoc]; exact List.perm_middle)) ⟨b, vs, M0, rfl, rfl, h5, h6⟩
theorem o_callO (x : α) (h : EA tA δ μ (A x) μ1) (hp : pre x) : EO K (tCall (spO K A pre B) [] E tA) δ μ (B x) μ1 := EO.of_y (y_call (m := fun _ => []) (rest := μ1) x h hp)
theorem o_propO (x : α) (h : E1 ta δ μ P μ1) (hA : A x = [P]) (hi : InsY C P μ1) (hp : pre x) : EO K (tProp C (spO K A pre B) [] E ta) δ μ (B x) μ1 := EO.of_y (y_prop (m := fun _ => []) (rest := μ1) x h hA hi hp)
theorem o_methO (x : α) (h : E1 ta δ μ P μ1) (hi : InsN C nm P μ1) (h2 : EA tA δ μ1 Ps μ2) (hA : A x = P :: Ps) (hp : pre x) : EO K (tMeth C nm (spO K A pre B) [] E ta tA) δ μ (B x) μ2 := EO.of_y (y_meth (m := fun _ => []) (rest := μ2) x h hi h2 hA hp)
theorem back_O {x : α} {q : Addr} {ds : List PyData} {μ : Mp} (h : ds = B x) : BackY (fun x Q μ => ∃ q, Q = Av q ∧ μ = [(q, OL K (B x))]) x (Av q) (μ ++ [(q, OL K ds)]) := backY_mk ⟨q, rfl, rfl⟩ (Imp.refl _) (by rw [h]; exact List.sublist_append_right _ _)
end
section
variable {β : Type} {A : β → List Pr} {pre : Mp → β → Prop} {ff : β → FsQ}
theorem mkR_run (x : β) (h : EA tA δ μ (A x) μ1) (hp : pre μ1 x) {σ : L2.St} {G : Hp} {M : Mem} (s : Sl G σ δ) (mm : Mm G M μ) {G1 H : Hp} {F : Mem} (e : Ex G G1) (m1 : Me G1 (M ++ F) H) (Qk : VK) (k : ∀ p dx vs G2 M2 H2, Ex G1 G2 → Me G2 ((p, .ins C dx vs) :: (M2 ++ F)) H2 → FsP G2 (ff x) vs → Mm G2 M2 μ1 → Qk (.ref p) H2) : tMake C (spMkR K C A pre ff) [] E tA σ H Qk :=
  h σ G M s mm G1 H F e m1 _ fun vs G2 M2 H2 e2 m2 a2 r2 p dx hpn hdn hne => by
    have hp2 : upd H2 dx (.own p) p = none := by rw [upd_ne hne.symm]; exact hpn
    have m3 := (m2.new (o := .own p) hdn).newM (o := .ins C dx []) hp2
    rw [List.append_nil]
    refine sp_run (F := F) (M := (p, .ins C dx []) :: M2) (p, μ1, x) m3 ⟨⟨rfl, dx, [], rfl, trivial⟩, r2⟩ ⟨rfl, a2⟩ hp fun v G' M' H' e' m' r => ?_
    obtain ⟨Q, μ', ⟨rfl, rfl⟩, r1, r4⟩ := r
    match M', r4 with
    | (b, o) :: M3, ⟨⟨h3, dx', vs', h4, h5⟩, h6⟩ =>
      have h3 : b = p := h3
      have h4 : o = .ins C dx' vs' := h4
      subst h3 h4
      exact ⟨dp_non r1, k b dx' vs' G' M3 H' (e2.trans e') m' h5 h6⟩
theorem e_mkR (x : β) (h : EA tA δ μ (A x) μ1) (hp : pre μ1 x) : E1 (tMake C (spMkR K C A pre ff) [] E tA) δ μ (ObP C (ff x)) μ1 := fun σ G M s mm G1 H F e m1 q z =>
  mkR_run x h hp s mm e m1 q fun p dx vs G2 M2 H2 e2 m2 h6 r2 => by
    obtain ⟨m3, e3⟩ := m2.freeze
    exact z _ _ M2 H2 (e2.trans e3) m3 ⟨⟨p, dx, vs, rfl, upd_same, h6.mono e3⟩, r2.mono e3⟩
theorem y_mkRO (x : β) (h : EA tA δ μ (A x) μ1) (hp : pre μ1 x) : EY (tMake C (spMkR K C A pre ff) [] E tA) δ μ (fun P μ' => ∃ p, P = Av p ∧ μ' = μ1 ++ [(p, OI C (ff x))]) := fun σ G M s mm G1 H F e m1 q z =>
  mkR_run x h hp s mm e m1 q fun p dx vs G2 M2 H2 e2 m2 h6 r2 =>
    z _ _ (M2 ++ [(p, .ins C dx vs)]) H2 e2 (m2.perm (by rw [List.append_assoc]; exact List.perm_middle)) ⟨Av p, _, ⟨p, rfl, rfl⟩, rfl, Mm.app r2 ⟨⟨rfl, dx, vs, rfl, h6⟩, trivial⟩⟩
end
end
end SY
namespace SY
open PySem PySem.Spec L2 SX
theorem any_deed (xs : List Deed) (x : Deed) : ((xs.map deedD).any fun z => PyData.eqv z (deedD x)) = decide (x ∈ xs) := by
  rw [List.any_map]
  induction xs with
  | nil => rfl
  | cons y xs ih =>
    rw [List.any_cons, ih]
    show (PyData.eqv (deedD y) (deedD x) || _) = _
    rw [eqv_deed, Bool.eq_iff_iff]
    simp only [Bool.or_eq_true, decide_eq_true_eq, List.mem_cons]
    exact ⟨fun h => h.elim (fun h => .inl h.symm) .inr, fun h => h.elim (fun h => .inl h.symm) .inr⟩
theorem allDeeds_len {b r : Int} (hb : 2 ≤ b ∧ b ≤ 12) (hr : 1 ≤ r ∧ r ≤ 4) : (allDeeds b r).length ≤ 70 := by
  have h1 : r.toNat * (b - 1).toNat ≤ 4 * 11 := Nat.mul_le_mul (by omega) (by omega)
  simp only [allDeeds, List.length_append, List.length_cons, List.length_nil, offsOf_len, readsOf_len, copiesOf_len]
  omega
theorem dlen_map_deed (xs : List Deed) (h : xs.length ≤ 100000) : ∀ d ∈ xs.map deedD, dlen d ≤ 100000 := fun d hd => by
  obtain ⟨x, _, rfl⟩ := List.mem_map.mp hd
  exact Nat.le_trans (dlen_deed x) (by decide)
end SY
namespace SY
open PySem PySem.Spec L2 SX
theorem isWhole_int {i lo hi : Int} (h : lo ≤ i ∧ i ≤ hi) : isWhole (.int i) lo hi = true := by
  show (true && (decide (lo ≤ i) && decide (i ≤ hi))) = true
  rw [decide_eq_true h.1, decide_eq_true h.2]
  rfl
end SY
namespace SY
open PySem PySem.Spec L2 SX
def inKd (b r : Int) (ds : List Deed) (d : PyData) : Bool := isDeedD b r d && ds.any fun x => PyData.eqv (deedD x) d
theorem inKd_deed {b r : Int} {ds : List Deed} (h : ∀ x ∈ ds, x ∈ allDeeds b r) (x : Deed) : inKd b r ds (deedD x) = decide (x ∈ ds) := by
  unfold inKd
  have h1 : (ds.any fun y => PyData.eqv (deedD y) (deedD x)) = decide (x ∈ ds) := by
    have := any_deed ds x
    rw [List.any_map] at this
    exact this
  rw [h1]
  by_cases hx : x ∈ ds
  · rw [decide_eq_true hx, Bool.and_true]
    exact isDeed_iff.mpr ⟨x, h x hx, rfl⟩
  · rw [decide_eq_false hx, Bool.and_false]
theorem eqv_deedsA : ∀ (a b : List Deed), PyData.eqvAll (a.map deedD) (b.map deedD) = decide (a = b)
  | [], [] => rfl
  | [], _ :: _ => by simp [PyData.eqvAll]
  | _ :: _, [] => by simp [PyData.eqvAll]
  | x :: xs, y :: ys => by
    show (PyData.eqv (deedD x) (deedD y) && PyData.eqvAll (xs.map deedD) (ys.map deedD)) = _
    rw [eqv_deed, eqv_deedsA xs ys, Bool.eq_iff_iff]
    simp only [Bool.and_eq_true, decide_eq_true_eq, List.cons.injEq]
theorem eqv_deeds (a b : List Deed) : PyData.eqv (.list (a.map deedD)) (.list (b.map deedD)) = decide (a = b) := eqv_deedsA a b
end SY

set_option Elab.async false
set_option linter.all false
set_option maxRecDepth 100000
/-! SYm: pop at a place; drawing some of a list. -/
namespace SY
open PySem PySem.Spec L2 SX
theorem dpa_erase {K : PySem.W.Frag} {G : Hp} : ∀ {xs : List V} {ds : List PyData} {i : Nat}, DpAll K G xs ds → DpAll K G (xs.eraseIdx i) (ds.eraseIdx i)
  | _, [], _, h => by cases h; exact .nil
  | _, d :: ds, i, h => by
    cases h with
    | cons h1 h2 =>
      cases i with
      | zero => exact h2
      | succ i => exact .cons h1 (dpa_erase h2)
section
variable {E : XK} {K : PySem.W.Frag} {te ta : TE} {δ : En} {μ μ1 : Mp} {ds : List PyData} {ad : Addr} {i : Int}
theorem e_popAt (n : Nat) (h : E1 te δ μ (Av ad) μ) (h2 : E1 ta δ μ (D K (.int i)) μ1) (hl0 : ∃ (n' : Nat) (ds' : List PyData), μ[n']? = some (ad, OL K ds')) (hl : μ1[n]? = some (ad, OL K ds)) (hi : 0 ≤ i ∧ i < ds.length) (hz : ds.length ≤ 100000) :
    E1 (tBM K "list" rPopAt te (tCons ta tNil)) δ μ (D K (ds.getD i.toNat .none)) (μ1.set n (ad, OL K (ds.eraseIdx i.toNat))) := fun σ G M s m G1 H F e m1 q z =>
  h σ G M s m G1 H F e m1 _ fun v G2 M2 H2 e2 m2 r2 => by
    have hv : v = .ref ad := r2.1
    subst hv
    obtain ⟨n', ds', hn'⟩ := hl0
    obtain ⟨o, h5, xs, rfl, h6⟩ := r2.2.get hn'
    refine ⟨.inl ⟨rfl, xs, SqL.of (m2.getF h5)⟩, h2 σ G2 M2 (s.mono (e.trans e2)) r2.2 G2 H2 F (Ex.refl _) m2 _ fun y G3 M3 H3 e3 m3 r3 => ?_⟩
    obtain ⟨o, h7, ys, rfl, h8⟩ := r3.2.get hl
    rw [dp_int r3.1]
    have hyl := dpa_len h8
    have hk : i.toNat < ys.length := by omega
    have hd : i.toNat < ds.length := by omega
    refine ⟨ad, ys, i, i.toNat, ys[i.toNat], rfl, rfl, m3.getF h7, by omega, by omega, ?_, List.getElem?_eq_getElem hk, z _ G3 _ _ (e2.trans e3) (m3.putF h7) ⟨?_, Mm.set (q' := OL K (ds.eraseIdx i.toNat)) ⟨_, rfl, dpa_erase h8⟩ r3.2 hl⟩⟩
    · unfold PySem.seqIndex?
      simp only [if_neg (by omega : ¬ i < 0), decide_eq_true hi.1, decide_eq_true (by omega : i < (ys.length : Int)), Bool.and_self, if_true]
    · rw [List.getD_eq_getElem?_getD, List.getElem?_eq_getElem hd, Option.getD_some]
      obtain ⟨w, hw, hp⟩ := dpa_at h8 (List.getElem?_eq_getElem hd)
      rw [List.getElem?_eq_getElem hk] at hw
      cases hw
      exact hp
end
/-- some of a list in drawn order: those drawn, those left, the deck -/
def someS (xs : List Deed) (Dk : Deck) : Nat → List Deed × List Deed × Deck
  | 0 => ([], xs, Dk)
  | n + 1 =>
    let t := someS xs Dk n
    (t.1 ++ [t.2.1.getD (dv t.2.2 t.2.1.length).toNat .right], t.2.1.eraseIdx (dv t.2.2 t.2.1.length).toNat, dn t.2.2 t.2.1.length)
theorem map_erase {α β : Type} {f : α → β} : ∀ {l : List α} {k : Nat}, (l.map f).eraseIdx k = (l.eraseIdx k).map f
  | [], _ => rfl
  | _ :: _, 0 => rfl
  | x :: l, k + 1 => by
    show f x :: (l.map f).eraseIdx k = f x :: (l.eraseIdx k).map f
    rw [map_erase]
theorem erase_perm {α : Type} : ∀ {l : List α} {k : Nat} (h : k < l.length), (l[k] :: l.eraseIdx k).Perm l
  | _ :: _, 0, _ => List.Perm.refl _
  | x :: l, k + 1, h => (List.Perm.swap x _ _).trans ((erase_perm (l := l) (k := k) (by simpa using h)).cons x)
theorem someS_ok {xs : List Deed} {Dk : Deck} : ∀ n, n ≤ xs.length → (someS xs Dk n).1.length = n ∧ (someS xs Dk n).2.1.length + n = xs.length ∧ ((someS xs Dk n).1 ++ (someS xs Dk n).2.1).Perm xs
  | 0, _ => ⟨rfl, rfl, List.Perm.refl _⟩
  | n + 1, h => by
    obtain ⟨h1, h2, h3⟩ := someS_ok (xs := xs) (Dk := Dk) n (by omega)
    unfold someS
    dsimp only
    generalize (someS xs Dk n).1 = s at h1 h3 ⊢
    generalize (someS xs Dk n).2.1 = l at h2 h3 ⊢
    generalize (someS xs Dk n).2.2 = D
    have hk0 : 0 ≤ dv D l.length := dv_lo (by omega)
    have hk1 : dv D l.length < l.length := dv_hi (by omega)
    have hk : (dv D l.length).toNat < l.length := by omega
    generalize (dv D l.length).toNat = k at hk
    refine ⟨by simp [h1], by rw [List.length_eraseIdx_of_lt hk]; omega, ?_⟩
    refine List.Perm.trans ?_ h3
    rw [List.append_assoc]
    refine List.Perm.append_left s ?_
    rw [List.getD_eq_getElem?_getD, List.getElem?_eq_getElem hk, Option.getD_some]
    exact erase_perm hk
/-- the number of numbers of rows with at most 1,000 columns -/
def rowsN (b : Int) : Int := if b ≤ 5 then 4 else if b ≤ 10 then 3 else 2
theorem rowsN_eq {b : Int} (hb : 2 ≤ b ∧ b ≤ 12) : (((((List.range 4).map fun (n : Nat) => 1 + (n : Int)).filter fun r => decide (b ^ r.toNat ≤ 1000)).length : Nat) : Int) = rowsN b := by
  have : b = 2 ∨ b = 3 ∨ b = 4 ∨ b = 5 ∨ b = 6 ∨ b = 7 ∨ b = 8 ∨ b = 9 ∨ b = 10 ∨ b = 11 ∨ b = 12 := by omega
  rcases this with rfl | rfl | rfl | rfl | rfl | rfl | rfl | rfl | rfl | rfl | rfl <;> decide
theorem rowsN_rng {b : Int} : 2 ≤ rowsN b ∧ rowsN b ≤ 4 := by
  unfold rowsN
  split <;> (try split) <;> omega
theorem rowsN_pow {b r : Int} (hb : 2 ≤ b ∧ b ≤ 12) (hr : 1 ≤ r ∧ r ≤ rowsN b) : b ^ r.toNat ≤ 1000 := by
  have h1 : b = 2 ∨ b = 3 ∨ b = 4 ∨ b = 5 ∨ b = 6 ∨ b = 7 ∨ b = 8 ∨ b = 9 ∨ b = 10 ∨ b = 11 ∨ b = 12 := by omega
  have h4 := rowsN_rng (b := b)
  have h2 : r = 1 ∨ r = 2 ∨ r = 3 ∨ r = 4 := by omega
  rcases h1 with rfl | rfl | rfl | rfl | rfl | rfl | rfl | rfl | rfl | rfl | rfl <;> rcases h2 with rfl | rfl | rfl | rfl <;> first | decide | (exact absurd hr.2 (by decide))
end SY
namespace SY
open PySem PySem.Spec L2 SX
def Deed.args : Deed → List Int
  | .off d => [d]
  | .read j d => [j, d]
  | .copy j => [j]
  | _ => []
theorem cut_args (x : Deed) : cutG x.L (some 1) none = (Deed.args x).map .int := by cases x <;> rfl
end SY
namespace SY
open PySem PySem.Spec L2 SX
theorem e_neB {K : PySem.W.Frag} {ta tb : TE} {δ : En} {μ μ1 μ2 : Mp} {a b : Bool} (h1 : E1 ta δ μ (D K (.bool a)) μ1) (h2 : E1 tb δ μ1 (D K (.bool b)) μ2) : E1 (tOp rNe ta tb) δ μ (D K (.bool (!decide (a = b)))) μ2 :=
  e_opD h1 h2 fun G H x y p1 p2 Q q => by
    rw [dp_bl p1, dp_bl p2]
    exact ⟨rfl, q _ (by rw [show decide (V.bl a = V.bl b) = decide (a = b) by rw [decide_eq_decide]; exact ⟨fun h => by cases h; rfl, fun h => by rw [h]⟩]; exact .bl _)⟩
theorem e_notBl {K : PySem.W.Frag} {ta tb : TE} {δ : En} {μ μ1 μ2 : Mp} {a b : Bool} (h1 : E1 ta δ μ (D K (.bool a)) μ1) (h2 : E1 tb δ μ1 (D K (.bool b)) μ2) : E1 (tOp rNotB ta tb) δ μ (D K (.bool (!decide (a = b)))) μ2 :=
  e_opD h1 h2 fun G H x y p1 p2 Q q => by
    rw [dp_bl p1, dp_bl p2]
    exact ⟨a, b, rfl, rfl, q _ (.bl _)⟩
theorem e_isBl {K : PySem.W.Frag} {ta tb : TE} {δ : En} {μ μ1 μ2 : Mp} {a b : Bool} (h1 : E1 ta δ μ (D K (.bool a)) μ1) (h2 : E1 tb δ μ1 (D K (.bool b)) μ2) : E1 (tOp rIsB ta tb) δ μ (D K (.bool (decide (a = b)))) μ2 :=
  e_opD h1 h2 fun G H x y p1 p2 Q q => by
    rw [dp_bl p1, dp_bl p2]
    exact ⟨a, b, rfl, rfl, q _ (.bl _)⟩
theorem allDeeds_lo {b r : Int} (hb : 2 ≤ b ∧ b ≤ 12) (hr : 1 ≤ r ∧ r ≤ 4) : 8 ≤ (allDeeds b r).length := by
  have h1 : 1 * 1 ≤ r.toNat * (b - 1).toNat := Nat.mul_le_mul (by omega) (by omega)
  simp only [allDeeds, List.length_append, List.length_cons, List.length_nil, offsOf_len, readsOf_len, copiesOf_len]
  omega
theorem in_offs {b : Int} {x : Deed} (h : x ∈ offsOf b) : ∃ d, x = .off d := by
  obtain ⟨d, _, rfl⟩ := List.mem_map.mp h
  exact ⟨_, rfl⟩
theorem in_reads {b r : Int} {x : Deed} (h : x ∈ readsOf b r) : ∃ j d, x = .read j d := by
  obtain ⟨j, _, h⟩ := List.mem_flatMap.mp h
  obtain ⟨d, _, rfl⟩ := List.mem_map.mp h
  exact ⟨_, _, rfl⟩
theorem in_copies {r : Int} {x : Deed} (h : x ∈ copiesOf r) : ∃ j, x = .copy j := by
  obtain ⟨d, _, rfl⟩ := List.mem_map.mp h
  exact ⟨_, rfl⟩
theorem offsOf_nodup (b : Int) : (offsOf b).Nodup := by
  unfold offsOf List.Nodup
  rw [List.pairwise_map, List.pairwise_map]
  exact List.Pairwise.imp (fun h => by intro e; injection e; omega) List.nodup_range
theorem readsOf_nodup (b r : Int) : (readsOf b r).Nodup := by
  unfold readsOf List.Nodup
  rw [List.pairwise_flatMap]
  refine ⟨fun j _ => ?_, ?_⟩
  · rw [List.pairwise_map, List.pairwise_map]
    exact List.Pairwise.imp (fun h => by intro e; injection e; omega) List.nodup_range
  · refine List.Pairwise.imp (fun h x hx y hy => ?_) List.nodup_range
    obtain ⟨_, _, rfl⟩ := List.mem_map.mp hx
    obtain ⟨_, _, rfl⟩ := List.mem_map.mp hy
    intro e
    injection e
    omega
theorem copiesOf_nodup (r : Int) : (copiesOf r).Nodup := by
  unfold copiesOf List.Nodup
  rw [List.pairwise_map]
  exact List.Pairwise.imp (fun h => by intro e; injection e; omega) List.nodup_range
theorem allDeeds_nodup (b r : Int) : (allDeeds b r).Nodup := by
  unfold allDeeds
  refine List.nodup_append.mpr ⟨by decide, List.nodup_append.mpr ⟨offsOf_nodup b, List.nodup_append.mpr ⟨readsOf_nodup b r, List.nodup_append.mpr ⟨copiesOf_nodup r, by decide, ?_⟩, ?_⟩, ?_⟩, ?_⟩
  · intro x hx y hy e
    obtain ⟨j, rfl⟩ := in_copies hx
    subst e
    simp at hy
  · intro x hx y hy e
    obtain ⟨j, d, rfl⟩ := in_reads hx
    subst e
    rcases List.mem_append.mp hy with h | h
    · obtain ⟨_, h⟩ := in_copies h
      cases h
    · simp at h
  · intro x hx y hy e
    obtain ⟨d, rfl⟩ := in_offs hx
    subst e
    rcases List.mem_append.mp hy with h | h
    · obtain ⟨_, _, h⟩ := in_reads h
      cases h
    · rcases List.mem_append.mp h with h | h
      · obtain ⟨_, h⟩ := in_copies h
        cases h
      · simp at h
  · intro x hx y hy e
    subst e
    rcases List.mem_append.mp hy with h | h
    · obtain ⟨_, rfl⟩ := in_offs h
      simp at hx
    · rcases List.mem_append.mp h with h | h
      · obtain ⟨_, _, rfl⟩ := in_reads h
        simp at hx
      · rcases List.mem_append.mp h with h | h
        · obtain ⟨_, rfl⟩ := in_copies h
          simp at hx
        · simp only [List.mem_cons, List.not_mem_nil, or_false] at hx h
          rcases hx with rfl | rfl <;> rcases h with h | h | h <;> cases h
theorem mem_inOrder {b r : Int} {xs : List Deed} {x : Deed} : x ∈ inOrder b r xs ↔ x ∈ allDeeds b r ∧ x ∈ xs := by
  unfold inOrder
  rw [List.mem_filter, decide_eq_true_eq]
theorem inOrder_perm {b r : Int} {xs : List Deed} (hn : xs.Nodup) (h : ∀ x ∈ xs, x ∈ allDeeds b r) : (inOrder b r xs).Perm xs :=
  (List.perm_ext_iff_of_nodup ((allDeeds_nodup b r).filter _) hn).mpr fun x => by
    show x ∈ inOrder b r xs ↔ _
    rw [mem_inOrder]
    exact ⟨fun z => z.2, fun z => ⟨h x z, z⟩⟩
theorem inOrder_idem {b r : Int} {xs : List Deed} : inOrder b r (inOrder b r xs) = inOrder b r xs := by
  unfold inOrder
  refine List.filter_congr fun x hx => ?_
  rw [decide_eq_decide, List.mem_filter, decide_eq_true_eq]
  exact ⟨fun z => z.2, fun z => ⟨hx, z⟩⟩
theorem GoodKd.order {b r m : Int} {xs : List Deed} (g : GoodKd b r xs m) : GoodKd b r (inOrder b r xs) m := by
  have hp := inOrder_perm g.nd g.ok
  have hl := hp.length_eq
  exact ⟨g.b2, g.b12, g.r1, g.r4, g.pw, g.m1, g.m3, by rw [hl]; exact g.n1, by rw [hl]; exact g.n8, hp.nodup_iff.mpr g.nd, fun x hx => (mem_inOrder.mp hx).1⟩
theorem someS_good {b r m : Int} {Dk : Deck} {n : Nat} (hb : 2 ≤ b ∧ b ≤ 12) (hr : 1 ≤ r ∧ r ≤ 4) (hpw : b ^ r.toNat ≤ 1000) (hm : 1 ≤ m ∧ m ≤ 3) (hn : 1 ≤ n ∧ n ≤ 8) : GoodKd b r (someS (allDeeds b r) Dk n).1 m := by
  obtain ⟨h1, h2, h3⟩ := someS_ok (xs := allDeeds b r) (Dk := Dk) n (Nat.le_trans hn.2 (allDeeds_lo hb hr))
  refine ⟨hb.1, hb.2, hr.1, hr.2, hpw, hm.1, hm.2, by omega, by omega, (List.nodup_append.mp (h3.nodup_iff.mpr (allDeeds_nodup b r))).1, fun x hx => h3.mem_iff.mp (List.mem_append_left _ hx)⟩
end SY
namespace SY
open PySem PySem.Spec L2 SX
/-! kinds together -/
def orK (b r : Int) (ds es : List Deed) : List Deed := inOrder b r (ds ++ es.filter fun x => !decide (x ∈ ds))
def andK (b r : Int) (ds es : List Deed) : List Deed := inOrder b r (ds.filter fun x => decide (x ∈ es))
theorem mem_orK {b r : Int} {ds es : List Deed} {x : Deed} : x ∈ orK b r ds es ↔ x ∈ allDeeds b r ∧ (x ∈ ds ∨ x ∈ es) := by
  unfold orK
  rw [mem_inOrder, List.mem_append, List.mem_filter, Bool.not_eq_true', decide_eq_false_iff_not]
  refine ⟨fun h => ⟨h.1, h.2.elim .inl fun z => .inr z.1⟩, fun h => ⟨h.1, ?_⟩⟩
  by_cases z : x ∈ ds
  · exact .inl z
  · exact .inr ⟨h.2.resolve_left z, z⟩
theorem mem_andK {b r : Int} {ds es : List Deed} {x : Deed} : x ∈ andK b r ds es ↔ x ∈ allDeeds b r ∧ (x ∈ ds ∧ x ∈ es) := by
  unfold andK
  rw [mem_inOrder, List.mem_filter, decide_eq_true_eq]
theorem inOrder_ext {b r : Int} {ds es : List Deed} (h : ∀ x, x ∈ allDeeds b r → (x ∈ ds ↔ x ∈ es)) : inOrder b r ds = inOrder b r es := by
  unfold inOrder
  exact List.filter_congr fun x hx => by rw [decide_eq_decide]; exact h x hx
/-- a kind's deeds, out of a pool of at most eight, one of them in any case -/
structure InPool (b r : Int) (pool : List Deed) (x0 : Deed) (ds : List Deed) : Prop where
  sub : ∀ x ∈ ds, x ∈ pool
  has : x0 ∈ ds
  ord : inOrder b r ds = ds
structure GoodPool (b r : Int) (pool : List Deed) : Prop where
  b2 : 2 ≤ b
  b12 : b ≤ 12
  r1 : 1 ≤ r
  r4 : r ≤ 4
  pw : b ^ r.toNat ≤ 1000
  n8 : pool.length ≤ 8
  nd : pool.Nodup
  ok : ∀ x ∈ pool, x ∈ allDeeds b r
theorem sub_len {xs pool : List Deed} (hx : xs.Nodup) (hp : pool.Nodup) (h : ∀ x ∈ xs, x ∈ pool) : xs.length ≤ pool.length := by
  have : xs.Perm (pool.filter fun x => decide (x ∈ xs)) := (List.perm_ext_iff_of_nodup hx (hp.filter _)).mpr fun x => by
    rw [List.mem_filter, decide_eq_true_eq]
    exact ⟨fun z => ⟨h x z, z⟩, fun z => z.2⟩
  rw [this.length_eq]
  exact List.length_filter_le _ _
theorem GoodPool.kd {b r m : Int} {pool ds : List Deed} (g : GoodPool b r pool) (hm : 1 ≤ m ∧ m ≤ 3) (h1 : 1 ≤ ds.length) (hn : ds.Nodup) (hs : ∀ x ∈ ds, x ∈ pool) : GoodKd b r ds m :=
  ⟨g.b2, g.b12, g.r1, g.r4, g.pw, hm.1, hm.2, h1, Nat.le_trans (sub_len hn g.nd hs) g.n8, hn, fun x hx => g.ok x (hs x hx)⟩
theorem InPool.nd {b r : Int} {pool ds : List Deed} {x0 : Deed} (h : InPool b r pool x0 ds) : ds.Nodup := by
  rw [← h.ord]
  exact (allDeeds_nodup b r).filter _
theorem InPool.pos {b r : Int} {pool ds : List Deed} {x0 : Deed} (h : InPool b r pool x0 ds) : 1 ≤ ds.length := List.length_pos_of_mem h.has
theorem InPool.kd {b r m : Int} {pool ds : List Deed} {x0 : Deed} (h : InPool b r pool x0 ds) (g : GoodPool b r pool) (hm : 1 ≤ m ∧ m ≤ 3) : GoodKd b r ds m := g.kd hm h.pos h.nd h.sub
theorem InPool.or_nd {b r : Int} {pool ds es : List Deed} {x0 : Deed} (h : InPool b r pool x0 ds) (h2 : InPool b r pool x0 es) : (ds ++ es.filter fun x => !decide (x ∈ ds)).Nodup :=
  List.nodup_append.mpr ⟨h.nd, h2.nd.filter _, fun x hx y hy e => by
    subst e
    rw [List.mem_filter, Bool.not_eq_true', decide_eq_false_iff_not] at hy
    exact hy.2 hx⟩
theorem InPool.or_kd {b r m : Int} {pool ds es : List Deed} {x0 : Deed} (h : InPool b r pool x0 ds) (h2 : InPool b r pool x0 es) (g : GoodPool b r pool) (hm : 1 ≤ m ∧ m ≤ 3) : GoodKd b r (ds ++ es.filter fun x => !decide (x ∈ ds)) m :=
  g.kd hm (Nat.le_trans h.pos (by rw [List.length_append]; omega)) (h.or_nd h2) fun x hx => by
    rcases List.mem_append.mp hx with hx | hx
    · exact h.sub x hx
    · exact h2.sub x (List.mem_filter.mp hx).1
theorem InPool.and_kd {b r m : Int} {pool ds es : List Deed} {x0 : Deed} (h : InPool b r pool x0 ds) (h2 : InPool b r pool x0 es) (g : GoodPool b r pool) (hm : 1 ≤ m ∧ m ≤ 3) : GoodKd b r (ds.filter fun x => decide (x ∈ es)) m :=
  g.kd hm (List.length_pos_of_mem (a := x0) (List.mem_filter.mpr ⟨h.has, decide_eq_true h2.has⟩)) (h.nd.filter _) fun x hx => h.sub x (List.mem_filter.mp hx).1
theorem InPool.orK {b r : Int} {pool ds es : List Deed} {x0 : Deed} (h : InPool b r pool x0 ds) (h2 : InPool b r pool x0 es) (g : GoodPool b r pool) : InPool b r pool x0 (orK b r ds es) :=
  ⟨fun x hx => (mem_orK.mp hx).2.elim (h.sub x) (h2.sub x), mem_orK.mpr ⟨g.ok _ (h.sub _ h.has), .inl h.has⟩, inOrder_idem⟩
theorem InPool.andK {b r : Int} {pool ds es : List Deed} {x0 : Deed} (h : InPool b r pool x0 ds) (h2 : InPool b r pool x0 es) (g : GoodPool b r pool) : InPool b r pool x0 (andK b r ds es) :=
  ⟨fun x hx => h.sub x (mem_andK.mp hx).2.1, mem_andK.mpr ⟨g.ok _ (h.sub _ h.has), h.has, h2.has⟩, inOrder_idem⟩
theorem InPool.eq {b r : Int} {pool ds es : List Deed} {x0 : Deed} (h : InPool b r pool x0 ds) (h2 : InPool b r pool x0 es) : ds = es ↔ ∀ x ∈ pool, (x ∈ ds ↔ x ∈ es) := by
  refine ⟨fun e x _ => by rw [e], fun z => ?_⟩
  rw [← h.ord, ← h2.ord]
  refine inOrder_ext fun x _ => ⟨fun hx => (z x (h.sub x hx)).mp hx, fun hx => (z x (h2.sub x hx)).mpr hx⟩
end SY
namespace SY
open PySem PySem.Spec L2 SX
def rMax2 : List V → Hp → VK → Prop := fun xs H Q => ∃ i j, xs = [.int i, .int j] ∧ Q (.int (if j > i then j else i)) H
def rMin2 : List V → Hp → VK → Prop := fun xs H Q => ∃ i j, xs = [.int i, .int j] ∧ Q (.int (if j < i then j else i)) H
theorem k_max2 {X : Cx} (hc : X.calm = true) : CallR X (.builtin "max") rMax2 := call_max2 hc
theorem k_min2 {X : Cx} (hc : X.calm = true) : CallR X (.builtin "min") rMin2 := call_min2 hc
section
variable {K : PySem.W.Frag} {ta tb : TE} {δ : En} {μ μ1 μ2 : Mp} {i j : Int}
theorem e_max2 (h1 : E1 ta δ μ (D K (.int i)) μ1) (h2 : E1 tb δ μ1 (D K (.int j)) μ2) : E1 (tCB rMax2 (tCons ta (tCons tb tNil))) δ μ (D K (.int (if j > i then j else i))) μ2 :=
  e_CB (a_cons h1 (a_cons h2 a_nil)) fun G H F M vs m mm p Q q => by
    match vs, p with
    | [v, w], ⟨p1, p2, _⟩ =>
      rw [dp_int p1, dp_int p2]
      exact ⟨i, j, rfl, q _ G M H (Ex.refl _) m (.int _) mm⟩
theorem e_min2 (h1 : E1 ta δ μ (D K (.int i)) μ1) (h2 : E1 tb δ μ1 (D K (.int j)) μ2) : E1 (tCB rMin2 (tCons ta (tCons tb tNil))) δ μ (D K (.int (if j < i then j else i))) μ2 :=
  e_CB (a_cons h1 (a_cons h2 a_nil)) fun G H F M vs m mm p Q q => by
    match vs, p with
    | [v, w], ⟨p1, p2, _⟩ =>
      rw [dp_int p1, dp_int p2]
      exact ⟨i, j, rfl, q _ G M H (Ex.refl _) m (.int _) mm⟩
end
end SY
namespace SY
open PySem PySem.Spec L2 SX
structure PK (b r : Int) (pool : List Deed) (x0 : Deed) (ds : List Deed) (m : Int) : Prop where
  g : GoodPool b r pool
  i : InPool b r pool x0 ds
  m1 : 1 ≤ m
  m3 : m ≤ 3
section
variable {b r m m2 : Int} {pool ds es : List Deed} {x0 : Deed}
theorem PK.or (h : PK b r pool x0 ds m) (h2 : PK b r pool x0 es m2) : PK b r pool x0 (orK b r ds es) (if m > m2 then m else m2) :=
  ⟨h.g, h.i.orK h2.i h.g, by have := h.m1; have := h2.m1; split <;> omega, by have := h.m3; have := h2.m3; split <;> omega⟩
theorem PK.and (h : PK b r pool x0 ds m) (h2 : PK b r pool x0 es m2) : PK b r pool x0 (andK b r ds es) (if m < m2 then m else m2) :=
  ⟨h.g, h.i.andK h2.i h.g, by have := h.m1; have := h2.m1; split <;> omega, by have := h.m3; have := h2.m3; split <;> omega⟩
theorem PK.kd (h : PK b r pool x0 ds m) : GoodKd b r ds m := h.i.kd h.g ⟨h.m1, h.m3⟩
theorem PK.len (h : PK b r pool x0 ds m) : ds.length ≤ 1000 := Nat.le_trans h.kd.n8 (by decide)
theorem PK.mm (h : PK b r pool x0 ds m) : 1 ≤ m ∧ m ≤ 3 := ⟨h.m1, h.m3⟩
theorem pk_or (h : PK b r pool x0 ds m) (h2 : PK b r pool x0 es m2) : GoodKd b r (ds ++ es.filter fun x => !decide (x ∈ ds)) (if m > m2 then m else m2) ∧ ds.length ≤ 1000 ∧ es.length ≤ 1000 := ⟨h.i.or_kd h2.i h.g (h.or h2).mm, h.len, h2.len⟩
theorem pk_and (h : PK b r pool x0 ds m) (h2 : PK b r pool x0 es m2) : GoodKd b r (ds.filter fun x => decide (x ∈ es)) (if m < m2 then m else m2) ∧ ds.length ≤ 1000 ∧ es.length ≤ 1000 := ⟨h.i.and_kd h2.i h.g (h.and h2).mm, h.len, h2.len⟩
theorem pk_in (h : PK b r pool x0 ds m) (h2 : PK b r pool x0 es m2) : ds.length ≤ 1000 ∧ es.length ≤ 1000 := ⟨h.len, h2.len⟩
/-- equal as kinds -/
theorem PK.eq (h : PK b r pool x0 ds m) (h2 : PK b r pool x0 es m2) (hd : ∀ x, x ∈ pool → (x ∈ ds ↔ x ∈ es)) : ds = es := (h.i.eq h2.i).mpr hd
theorem PK.sub (h : PK b r pool x0 ds m) {x : Deed} (hx : x ∈ ds) : x ∈ allDeeds b r := h.g.ok x (h.i.sub x hx)
end
end SY
namespace SY
open PySem PySem.Spec L2 SX
section
variable {b r m m2 m3 : Int} {pool ds es fs : List Deed} {x0 : Deed}
theorem PK.or_comm (h : PK b r pool x0 ds m) (h2 : PK b r pool x0 es m2) : orK b r es ds = orK b r ds es :=
  PK.eq (h2.or h) (h.or h2) fun x hx => by simp only [mem_orK]; grind
theorem PK.and_comm (h : PK b r pool x0 ds m) (h2 : PK b r pool x0 es m2) : andK b r es ds = andK b r ds es :=
  PK.eq (h2.and h) (h.and h2) fun x hx => by simp only [mem_andK]; grind
theorem PK.and_or (h : PK b r pool x0 ds m) (h2 : PK b r pool x0 es m2) : andK b r ds (orK b r ds es) = ds :=
  PK.eq (h.and (h.or h2)) h fun x hx => by have := h.g.ok x hx; simp only [mem_andK, mem_orK]; grind
theorem PK.or_and (h : PK b r pool x0 ds m) (h2 : PK b r pool x0 es m2) : orK b r ds (andK b r ds es) = ds :=
  PK.eq (h.or (h.and h2)) h fun x hx => by have := h.g.ok x hx; simp only [mem_andK, mem_orK]; grind
theorem PK.or_eq (h : PK b r pool x0 ds m) (h2 : PK b r pool x0 es m2) : decide (orK b r ds es = es) = ds.all fun x => decide (x ∈ es) := by
  rw [Bool.eq_iff_iff, decide_eq_true_eq, List.all_eq_true]
  refine ⟨fun e x hx => by rw [decide_eq_true_eq, ← e, mem_orK]; exact ⟨h.sub hx, .inl hx⟩, fun z => PK.eq (h.or h2) h2 fun x hx => ?_⟩
  have := h.g.ok x hx
  have := z x
  rw [decide_eq_true_eq] at this
  simp only [mem_orK]
  grind
theorem PK.and_eq (h : PK b r pool x0 ds m) (h2 : PK b r pool x0 es m2) : decide (andK b r ds es = ds) = ds.all fun x => decide (x ∈ es) := by
  rw [Bool.eq_iff_iff, decide_eq_true_eq, List.all_eq_true]
  refine ⟨fun e x hx => by rw [decide_eq_true_eq]; rw [← e, mem_andK] at hx; exact hx.2.2, fun z => PK.eq (h.and h2) h fun x hx => ?_⟩
  have := h.g.ok x hx
  have := z x
  rw [decide_eq_true_eq] at this
  simp only [mem_andK]
  grind
theorem PK.eq_in (h : PK b r pool x0 ds m) (h2 : PK b r pool x0 es m2) : decide (ds = es) = ((ds.all fun x => decide (x ∈ es)) && es.all fun x => decide (x ∈ ds)) := by
  rw [Bool.eq_iff_iff, decide_eq_true_eq, Bool.and_eq_true, List.all_eq_true, List.all_eq_true]
  refine ⟨fun e => by subst e; exact ⟨fun x hx => decide_eq_true hx, fun x hx => decide_eq_true hx⟩, fun z => PK.eq h h2 fun x _ => ⟨fun hx => of_decide_eq_true (z.1 x hx), fun hx => of_decide_eq_true (z.2 x hx)⟩⟩
theorem all_and (h : PK b r pool x0 ds m) (h2 : PK b r pool x0 es m2) : ((andK b r ds es).all fun x => decide (x ∈ ds)) = true ∧ ((andK b r ds es).all fun x => decide (x ∈ es)) = true :=
  ⟨List.all_eq_true.mpr fun x hx => decide_eq_true (mem_andK.mp hx).2.1, List.all_eq_true.mpr fun x hx => decide_eq_true (mem_andK.mp hx).2.2⟩
theorem all_or (h : PK b r pool x0 ds m) (h2 : PK b r pool x0 es m2) : (ds.all fun x => decide (x ∈ orK b r ds es)) = true ∧ (es.all fun x => decide (x ∈ orK b r ds es)) = true :=
  ⟨List.all_eq_true.mpr fun x hx => decide_eq_true (mem_orK.mpr ⟨h.sub hx, .inl hx⟩), List.all_eq_true.mpr fun x hx => decide_eq_true (mem_orK.mpr ⟨h2.sub hx, .inr hx⟩)⟩
end
end SY
namespace SY
open PySem PySem.Spec L2 SX
section
variable {b r m m2 m3 : Int} {pool ds es fs : List Deed} {x0 : Deed}
theorem PK.t1 (h : PK b r pool x0 ds m) (h2 : PK b r pool x0 es m2) (h3 : PK b r pool x0 fs m3) : orK b r (orK b r ds es) fs = orK b r ds (orK b r es fs) :=
  PK.eq ((h.or h2).or h3) (h.or (h2.or h3)) fun x hx => by have := h.g.ok x hx; simp only [mem_orK]; grind
theorem PK.t2 (h : PK b r pool x0 ds m) (h2 : PK b r pool x0 es m2) (h3 : PK b r pool x0 fs m3) : andK b r (andK b r ds es) fs = andK b r ds (andK b r es fs) :=
  PK.eq ((h.and h2).and h3) (h.and (h2.and h3)) fun x hx => by have := h.g.ok x hx; simp only [mem_andK]; grind
theorem PK.t3 (h : PK b r pool x0 ds m) (h2 : PK b r pool x0 es m2) (h3 : PK b r pool x0 fs m3) : andK b r ds (orK b r es fs) = orK b r (andK b r ds es) (andK b r ds fs) :=
  PK.eq (h.and (h2.or h3)) ((h.and h2).or (h.and h3)) fun x hx => by have := h.g.ok x hx; simp only [mem_andK, mem_orK]; grind
theorem PK.t4 (h : PK b r pool x0 ds m) (h2 : PK b r pool x0 es m2) (h3 : PK b r pool x0 fs m3) : orK b r ds (andK b r es fs) = andK b r (orK b r ds es) (orK b r ds fs) :=
  PK.eq (h.or (h2.and h3)) ((h.or h2).and (h.or h3)) fun x hx => by have := h.g.ok x hx; simp only [mem_andK, mem_orK]; grind
end
def mxI (i j : Int) : Int := if i > j then i else j
def mnI (i j : Int) : Int := if i < j then i else j
theorem mx1 (i j k : Int) : mxI (mxI i j) k = mxI i (mxI j k) := by unfold mxI; (repeat' split) <;> omega
theorem mx2 (i j k : Int) : mnI (mnI i j) k = mnI i (mnI j k) := by unfold mnI; (repeat' split) <;> omega
theorem mx3 (i j k : Int) : mnI i (mxI j k) = mxI (mnI i j) (mnI i k) := by unfold mnI mxI; (repeat' split) <;> omega
theorem mx4 (i j k : Int) : mxI i (mnI j k) = mnI (mxI i j) (mxI i k) := by unfold mnI mxI; (repeat' split) <;> omega
end SY
namespace SY
open PySem PySem.Spec L2 SX
/-- a kind with the first deed of the pool and any of the others: the deeds, and the deck behind them -/
def kindS (pool : List Deed) (Dk : Deck) : Nat → List Deed × Deck
  | 0 => ([pool.getD 0 .right], Dk)
  | n + 1 =>
    let t := kindS pool Dk n
    (if dv t.2 2 = 1 then t.1 ++ [pool.getD (n + 1) .right] else t.1, dn t.2 2)
theorem kindS_ok {pool : List Deed} {Dk : Deck} (hp : 1 ≤ pool.length) : ∀ n, n + 1 ≤ pool.length → (∀ x ∈ (kindS pool Dk n).1, x ∈ pool.take (n + 1)) ∧ pool.getD 0 .right ∈ (kindS pool Dk n).1 ∧ (kindS pool Dk n).1.length ≤ n + 1 ∧ (pool.Nodup → (kindS pool Dk n).1.Nodup)
  | 0, _ => by
    match pool, hp with
    | y :: ys, _ => exact ⟨fun x hx => by simpa [kindS] using hx, by simp [kindS], by simp [kindS], fun _ => by simp [kindS]⟩
  | n + 1, h => by
    obtain ⟨h1, h2, h3, h4⟩ := kindS_ok (pool := pool) (Dk := Dk) hp n (by omega)
    have hn : n + 1 < pool.length := by omega
    have ht : pool.take (n + 1 + 1) = pool.take (n + 1) ++ [pool[n + 1]] := List.take_succ_eq_append_getElem hn
    have hg : pool.getD (n + 1) .right = pool[n + 1] := by rw [List.getD_eq_getElem?_getD, List.getElem?_eq_getElem hn, Option.getD_some]
    unfold kindS
    dsimp only
    rw [ht]
    split
    · rw [hg]
      refine ⟨fun x hx => ?_, List.mem_append_left _ h2, by simp; omega, fun hd => List.nodup_append.mpr ⟨h4 hd, by simp, fun x hx y hy e => ?_⟩⟩
      · rcases List.mem_append.mp hx with hx | hx
        · exact List.mem_append_left _ (h1 x hx)
        · exact List.mem_append_right _ hx
      · have hy : y = pool[n + 1] := by simpa using hy
        subst e hy
        have := h1 _ hx
        have hq : (pool.take (n + 1 + 1)).Nodup := hd.sublist (List.take_sublist _ _)
        rw [ht] at hq
        exact (List.nodup_append.mp hq).2.2 _ this _ (by simp) rfl
    · exact ⟨fun x hx => List.mem_append_left _ (h1 x hx), h2, by omega, h4⟩
def kindD (ds : List Deed) (m : Int) : PyData := .tuple [.list (ds.map deedD), .int m]
end SY

set_option Elab.async false
set_option linter.all false
set_option maxRecDepth 100000
/-! SYn: a comprehension of values of any kind. -/
namespace SY
open PySem PySem.Spec L2 SX
theorem AP.snoc {G : Hp} : ∀ {Ps : List Pr} {vs : List V} {P : Pr} {v : V}, AP G Ps vs → P.p G v → AP G (Ps ++ [P]) (vs ++ [v])
  | [], [], _, _, _, h => ⟨h, trivial⟩
  | _ :: _, _ :: _, _, _, ⟨h1, h2⟩, h => ⟨h1, AP.snoc h2 h⟩
section
variable {E : XK} {K : PySem.W.Frag} {te : TE} {δ : En} {μ : Mp} {n : Nat} {X : Nat → Pr} {wi : TI} {g : TG} {vs : List Nat}
theorem e_lcP {kp : Mp} (Ms : Nat → Mp) (PF : Nat → Pr) (hw : IY wi δ μ n X (Ms 0) kp) (hn : n ≤ 100000)
    (hb : ∀ i, i < n → ∃ δ'', G1 g (X i) (wipeY δ vs) δ'' vs ∧ E1 te δ'' (Ms i) (PF i) (Ms (i + 1))) (hk : ∀ i, kp.Sublist (Ms i) := by intros; exact List.nil_sublist _) :
    E1 (tLc wi g tYes te vs) δ μ (Lp ((List.range n).map PF)) (Ms n) := fun σ G M s m G1 H F e m1 Q q =>
  hw σ G M s m G1 H F e m1 _ fun J G2 M2 H2 e2 m2 r2 => by
    rintro ⟨⟨Gd, Y, W, hG, hY⟩⟩ D hD
    refine lc_it W (fun i H' => ∃ G' M' ws, Ex G2 G' ∧ Me G' (M' ++ (D, .lst ws) :: F) H' ∧ Mm G' M' (Ms i) ∧ AP G' ((List.range i).map PF) ws) ?_ ?_ ?_ ?_
    · exact ⟨G2, M2, [], Ex.refl _, by rw [mem_mid]; exact m2.newMid hD, r2, trivial⟩
    · rintro i H' _ ⟨G', M', ws, e', m', r', _⟩
      obtain ⟨Mk, h1, h2⟩ := r'.sub (hk i)
      exact hG G' M' _ H' Mk e' m' h1 h2
    · rintro i x H' H4 hi ⟨G', M', ws, e', m', r', da⟩ y
      obtain ⟨Mk, hk1, hk2⟩ := r'.sub (hk i)
      obtain ⟨G4, e4, m4, px⟩ := hY i G' M' _ H' x H4 Mk hi e' m' hk1 hk2 y
      obtain ⟨δ'', hg, he⟩ := hb i hi
      have s4 : Sl G4 (wipe σ vs) (wipeY δ vs) := (s.mono (((e.trans e2).trans e').trans e4)).wipe vs
      refine hg _ G4 M' _ H4 x s4 px m4 _ fun σ5 s5 w5 => ⟨by rw [w5.wipe, wipe_wipe], t_yes σ5 G4 M' s5 (r'.mono e4) G4 H4 _ (Ex.refl _) m4 _ fun G5 M5 H5 e5 m5 r5 => ?_⟩
      have hlw : ws.length = i := by rw [AP.len da, List.length_map, List.length_range]
      rw [if_pos rfl]
      refine he σ5 G5 M5 (s5.mono e5) r5 G5 H5 _ (Ex.refl _) m5 _ fun y G6 M6 H6 e6 m6 r6 => ?_
      have hm : (M6 ++ (D, HO.lst ws) :: F)[M6.length]? = some (D, .lst ws) := by
        rw [List.getElem?_append_right (Nat.le_refl _), Nat.sub_self]
        rfl
      refine ⟨ws, m6.get hm, sz_ok (by omega), G6, M6, ws ++ [y], ((e'.trans e4).trans e5).trans e6, ?_, r6.2, ?_⟩
      · have := m6.put (o' := .lst (ws ++ [y])) hm
        rw [List.set_append_right _ _ (Nat.le_refl _), Nat.sub_self] at this
        exact this
      · rw [List.range_succ, List.map_append]
        exact AP.snoc (AP.mono da ((e4.trans e5).trans e6)) r6.1
    · rintro H' ⟨G', M', ws, e', m', r', da⟩
      rw [mem_mid] at m'
      obtain ⟨m3, e3⟩ := m'.freezeLast
      exact q _ _ M' H' ((e2.trans e').trans e3) m3 ⟨⟨D, ws, rfl, upd_same, AP.mono da e3⟩, r'.mono e3⟩
end
end SY
namespace SY
open PySem PySem.Spec L2 SX
theorem atI_range {α : Type} {f : Nat → α} {n : Nat} {i : Int} (h : 0 ≤ i ∧ i < n) : atI ((List.range n).map f) i = some (f i.toNat) :=
  atI_int h.1 (by rw [List.getElem?_map, List.getElem?_range (by omega)]; rfl)
def kdk (pool : List Deed) (Dk : Deck) : Nat → Deck
  | 0 => Dk
  | n + 1 => dn (kindS pool (kdk pool Dk n) (pool.length - 1)).2 3
def kds (pool : List Deed) (Dk : Deck) (n : Nat) : List Deed := (kindS pool (kdk pool Dk n) (pool.length - 1)).1
def kdm (pool : List Deed) (Dk : Deck) (n : Nat) : Int := 1 + dv (kindS pool (kdk pool Dk n) (pool.length - 1)).2 3
theorem kds_ok {b r : Int} {pool : List Deed} (g : GoodPool b r pool) (h1 : 1 ≤ pool.length) (Dk : Deck) (n : Nat) : GoodKd b r (kds pool Dk n) (kdm pool Dk n) ∧ PK b r pool (pool.getD 0 .right) (inOrder b r (kds pool Dk n)) (kdm pool Dk n) := by
  obtain ⟨h2, h3, h4, h5⟩ := kindS_ok (pool := pool) (Dk := kdk pool Dk n) h1 (pool.length - 1) (by omega)
  have h6 : ∀ x ∈ kds pool Dk n, x ∈ pool := fun x hx => List.mem_of_mem_take (h2 x hx)
  have h7 : (kds pool Dk n).Nodup := h5 g.nd
  have m0 : 0 ≤ dv (kindS pool (kdk pool Dk n) (pool.length - 1)).2 3 := dv_lo (by decide)
  have m1 : dv (kindS pool (kdk pool Dk n) (pool.length - 1)).2 3 < 3 := dv_hi (by decide)
  have hm : 1 ≤ kdm pool Dk n ∧ kdm pool Dk n ≤ 3 := by unfold kdm; omega
  have hk : GoodKd b r (kds pool Dk n) (kdm pool Dk n) := g.kd hm (List.length_pos_of_mem h3) h7 h6
  exact ⟨hk, g, ⟨fun x hx => h6 x (mem_inOrder.mp hx).2, mem_inOrder.mpr ⟨hk.ok _ h3, h3⟩, inOrder_idem⟩, hm.1, hm.2⟩
theorem someS_pool {b r : Int} {Dk : Deck} {n : Nat} (hb : 2 ≤ b ∧ b ≤ 12) (hr : 1 ≤ r ∧ r ≤ 4) (hpw : b ^ r.toNat ≤ 1000) (hn : 1 ≤ n ∧ n ≤ 8) : GoodPool b r (someS (allDeeds b r) Dk n).1 ∧ 1 ≤ (someS (allDeeds b r) Dk n).1.length := by
  have g := someS_good (m := 1) (Dk := Dk) (n := n) hb hr hpw (by decide) hn
  exact ⟨⟨g.b2, g.b12, g.r1, g.r4, g.pw, g.n8, g.nd, g.ok⟩, g.n1⟩
end SY
namespace SY
open PySem PySem.Spec L2 SX
theorem LeTrans {a b c : En} (h1 : Le a b) (h2 : Le b c) : Le a c := ⟨h1.1.trans h2.1, fun k P h => by
  obtain ⟨P1, h3, h4⟩ := h2.2 k P h
  obtain ⟨P0, h5, h6⟩ := h1.2 k P1 h3
  exact ⟨P0, h5, fun G v z => h4 G v (h6 G v z)⟩⟩
end SY

set_option Elab.async false
set_option linter.all false
set_option maxRecDepth 100000
/-! SYo: what raises. -/
namespace SY
open PySem PySem.Spec L2 SX
abbrev EXY := Value → Option Addr → Mp → Prop
def EXY.po (X : EXY) : Value → Option Addr → Hp → Mem → Prop := fun c d G M => ∃ μ, X c d μ ∧ Mm G M μ
/-- an expression that raises, surely -/
def ER (E : XK) (te : TE) (δ : En) (μ : Mp) (X : EXY) : Prop := ∀ σ G M, Sl G σ δ → Mm G M μ → EvR E te σ G M X.po
/-- a promise: comes back, or raises -/
def spX {α : Type} (A : α → List Pr) (m : α → Mp) (pre : α → Prop) (R : α → Pr → Mp → Prop) (Xc : α → EXY) : Sp :=
  specX (fun x G M vs => Mm G M (m x) ∧ AP G (A x) vs ∧ pre x) (fun x _ G v M' => ∃ Q μ', R x Q μ' ∧ Q.p G v ∧ Mm G M' μ') (fun x _ => (Xc x).po)
def BackX {α : Type} (Xc : α → EXY) (x : α) : EXY := fun c d μ => ∃ μ2, Xc x c d μ2 ∧ μ2.Sublist μ
section
variable {P : Program} {w : World} {K : PySem.W.Frag} {mg : Str → Option Value} {base : Heap} {α : Type} {A : α → List Pr} {m : α → Mp} {pre : α → Prop} {R : α → Pr → Mp → Prop} {Xc : α → EXY}
theorem fn_YX {x qual : Str} {st : Stmt} {f : Addr} {fd : FuncData} {N ps : List Str} {k : Nat} (F : Fun K x qual st f fd) (S : FnScope N ps (defScope st)) (len : ∀ x, (A x).length = ps.length)
    (body : ∀ (cdv : Value) (Ar : Around) (outer : List Env) (s : Shared) (H : Hp) (E : XK), Room k (Ar.deeper (PyProof.Rows.envOfC qual (defScope st) s.heap.objs.size f cdv)) →
      ∃ t, PSs (cxOf (L2.CX P w) P w K mg base N qual (defScope st) f cdv Ar outer s H E) (defBody st) t ∧ ∀ x, pre x → S1 E t (startY N (A x)) (m x) { nx := fun _ μ => BackY R x (D K .none) μ, rt := BackY R x, ex := BackX Xc x }) :
    FnOk P w K mg base (L2.CX P w) (k + 1) f fd ps (spX A m pre R Xc) := by
  refine fn_svX F S (fun x G M vs h => by rw [AP.len h.2.1, len]) fun cdv Ar outer s H E hr => ?_
  obtain ⟨t, ht, hs⟩ := body cdv Ar outer s H E hr
  refine ⟨t, ht, fun x G M vs h => ?_⟩
  have hb : ∀ {Q : Pr} {μ : Mp} {G' : Hp} {v : V} {M' : Mem} {F : Mem} {H' : Hp}, BackY R x Q μ → Q.p G' v → Mm G' M' μ → Me G' (M' ++ F) H' → ∃ M2, Me G' (M2 ++ F) H' ∧ ∃ Q2 μ2, R x Q2 μ2 ∧ Q2.p G' v ∧ Mm G' M2 μ2 := by
    intro Q μ G' v M' F H' hq hp hm he
    obtain ⟨Q2, μ2, h1, h2, h3⟩ := backY_of hq
    obtain ⟨M2, h4, h5⟩ := hm.sub h3
    exact ⟨M2, he.sub (List.Sublist.append_right h4 F), Q2, μ2, h1, h2 _ _ hp, h5⟩
  intro G1 H F DD e m1 hd
  refine hs x h.2.2 _ G M (sl_start h.2.1) h.1 G1 H F DD e m1 ⟨?_, ?_, ?_, ?_, ?_⟩
  · rintro σ2 G2 M2 H2 e2 m2 ⟨δ2, μ2, n0, n1, n2⟩
    obtain ⟨M3, m3, r⟩ := hb n0 .non n2 m2
    exact hd.nx σ2 G2 M3 H2 e2 m3 r
  · rintro v G2 M2 H2 e2 m2 ⟨Q2, μ2, n0, n1, n2⟩
    obtain ⟨M3, m3, r⟩ := hb n0 n1 n2 m2
    exact hd.rt v G2 M3 H2 e2 m3 r
  · rintro σ2 G2 M2 H2 e2 m2 ⟨δ2, μ2, n0, _⟩
    exact n0.elim
  · rintro σ2 G2 M2 H2 e2 m2 ⟨δ2, μ2, n0, _⟩
    exact n0.elim
  · rintro c d G2 M2 H2 e2 m2 ⟨μ2, ⟨μ3, n0, n1⟩, n2⟩
    obtain ⟨M3, h4, h5⟩ := n2.sub n1
    exact hd.ex c d G2 M3 H2 e2 (m2.sub (List.Sublist.append_right h4 F)) ⟨μ3, n0, h5⟩
end
section
variable {E : XK} {K : PySem.W.Frag} {te ta tb : TE} {tA tr : TA} {δ δ' : En} {μ μ1 μ2 rest : Mp} {Q : Pr} {u : TS} {P : PY} {g : TG} {X : EXY} {c : Value}
theorem s_retR (h : ER E te δ μ P.ex) : S1 E (tRet te) δ μ P := fun σ G M s mm => sv_retR (h σ G M s mm)
theorem s_asgR (h : ER E te δ μ P.ex) : S1 E (tAsg te g) δ μ P := fun σ G M s mm => sv_setR (h σ G M s mm)
theorem s_dropR (h : ER E te δ μ P.ex) : S1 E (tDrop te) δ μ P := fun σ G M s mm => sv_dropR (h σ G M s mm)
theorem er_lst1 (h : ER E te δ μ X) : ER E (tLst (tCons te tr)) δ μ X := fun σ G M s mm => er_lst (er_one (h σ G M s mm))
theorem ER.imp {X' : EXY} (h : ER E te δ μ X) (i : ∀ c d μ, X c d μ → X' c d μ) : ER E te δ μ X' := fun σ G M s mm G1 H F e m1 x Q => h σ G M s mm G1 H F e m1 (fun c d G2 M2 H2 e2 m2 ⟨μ2, h2, h3⟩ => x c d G2 M2 H2 e2 m2 ⟨μ2, i c d μ2 h2, h3⟩) Q
section
variable {α : Type} {A : α → List Pr} {m : α → Mp} {pre : α → Prop} {R : α → Pr → Mp → Prop} {Xc : α → EXY}
/-- a call that comes back -/
theorem y_callX {EE : XK} (x : α) (h : EA tA δ μ (A x) (m x ++ rest)) (hp : pre x) (hx : ∀ c d μ, ¬ Xc x c d μ) : EY (tCall (spX A m pre R Xc) [] EE tA) δ μ (fun Q μ' => ∃ μ2, R x Q μ2 ∧ μ' = μ2 ++ rest) := fun σ G M s mm G1 H F e m1 q z =>
  h σ G M s mm G1 H F e m1 _ fun vs G2 M2 H2 e2 m2 a2 r2 => by
    obtain ⟨Ma, Mb, rfl, ma, mb⟩ := Mm.cut r2
    refine ⟨x, G2, Ma, Mb ++ F, by rw [← List.append_assoc]; exact m2, ⟨ma, by rw [List.append_nil]; exact a2, hp⟩, fun v G' M' H' e' m' ⟨Q, μ', r0, r1, r2⟩ => ?_, fun c d G' M' H' e' m' ⟨μ', r0, _⟩ => absurd r0 (hx c d μ')⟩
    exact z v G' (M' ++ Mb) H' (e2.trans e') (by rw [List.append_assoc]; exact m') ⟨Q, _, ⟨μ', r0, rfl⟩, r1, Mm.app r2 (mb.mono e')⟩
/-- a call that raises -/
theorem er_callX (x : α) (h : EA tA δ μ (A x) (m x ++ rest)) (hp : pre x) (hr : ∀ Q μ, ¬ R x Q μ) : ER E (tCall (spX A m pre R Xc) [] E tA) δ μ (fun c d μ' => ∃ μ2, Xc x c d μ2 ∧ μ' = μ2 ++ rest) := fun σ G M s mm G1 H F e m1 z q =>
  h σ G M s mm G1 H F e m1 _ fun vs G2 M2 H2 e2 m2 a2 r2 => by
    obtain ⟨Ma, Mb, rfl, ma, mb⟩ := Mm.cut r2
    refine ⟨x, G2, Ma, Mb ++ F, by rw [← List.append_assoc]; exact m2, ⟨ma, by rw [List.append_nil]; exact a2, hp⟩, fun v G' M' H' e' m' ⟨Q, μ', r0, _⟩ => absurd r0 (hr Q μ'), fun c d G' M' H' e' m' ⟨μ', r0, r1⟩ => ?_⟩
    exact z c d G' (M' ++ Mb) H' (e2.trans e') (by rw [List.append_assoc]; exact m') ⟨_, ⟨μ', r0, rfl⟩, Mm.app r1 (mb.mono e')⟩
end
end
end SY
namespace SY
open PySem PySem.Spec L2 SX
section
variable {E : XK} {K : PySem.W.Frag} {δ : En} {μ : Mp} {P : PY} {i : Nat}
theorem s_tryAs {tw : WX → TS} {ts : Addr → Value → Option Addr → TS} {c : Value} {Wout : WX} (X : EXY) (hB : ∀ (W : WX) (σ : L2.St), S1 (fun cls d H => W cls d σ H) (tw W) δ μ { P with ex := X })
    (hS : ∀ cls d a μ2, X cls d μ2 → PySem.W.exmOne K cls c = some true ∧ S1 E (ts a cls d) (δ.set i (some (Av a))) μ2 { P with nx := fun δ' μ' => P.nx (δ'.set i none) μ', bk := fun δ' μ' => P.bk (δ'.set i none) μ', ct := fun δ' μ' => P.ct (δ'.set i none) μ' }) :
    S1 E (fun D σ H => tw (wAs K c i ts Wout D) D σ H) δ μ P := fun σ G M s mm =>
  sv_tryAs (P := P.po) X.po (fun W => hB W σ σ G M s mm) fun cls d a G2 M2 e2 ⟨μ2, hx, h2⟩ => by
    obtain ⟨h3, h4⟩ := hS cls d a μ2 hx
    refine ⟨h3, (h4 _ G2 M2 ((s.mono e2).set (P := Av a) (v := .ref a) (by rfl)) h2).imp ?_ ?_ ?_ ?_ ?_⟩
    · rintro G3 σ3 M3 _ ⟨δ3, μ3, n0, n1, n2⟩
      exact ⟨_, μ3, n0, n1.none2, n2⟩
    · exact fun _ _ _ _ z => z
    · rintro G3 σ3 M3 _ ⟨δ3, μ3, n0, n1, n2⟩
      exact ⟨_, μ3, n0, n1.none2, n2⟩
    · rintro G3 σ3 M3 _ ⟨δ3, μ3, n0, n1, n2⟩
      exact ⟨_, μ3, n0, n1.none2, n2⟩
    · exact fun _ _ _ _ _ z => z
end
end SY

set_option Elab.async false
set_option linter.all false
set_option maxRecDepth 100000
/-! SYp: what raises: calls at slots, makes, operators, try, isinstance of the error. -/
namespace SY
open PySem PySem.Spec L2 SX
/-- raises, surely; the wish is told at the slots -/
def ES (EE : L2.St → XK) (te : TE) (δ : En) (μ : Mp) (X : EXY) : Prop := ∀ σ G M, Sl G σ δ → Mm G M μ → EvR (EE σ) te σ G M X.po
def SS (EE : L2.St → XK) (t : TS) (δ : En) (μ : Mp) (P : PY) : Prop := ∀ σ G M, Sl G σ δ → Mm G M μ → Sv (EE σ) t σ G M P.po
/-- the error's class, without a dict; what is owned then -/
abbrev Er (c : Addr) (μ0 : Mp) : EXY := fun cl d μ => cl = .ref c ∧ d = none ∧ μ = μ0
section
variable {EE : L2.St → XK} {E : XK} {K : PySem.W.Frag} {te ta tb : TE} {tA tr : TA} {δ δ' : En} {μ μ1 μ2 rest : Mp} {Q P1 P2 : Pr} {u : TS} {P : PY} {g : TG} {X X' : EXY} {R : Pr → Mp → Prop} {k : Nat}
theorem ss_setY (h : EY te δ μ R) (k' : ∀ q μ', R q μ' → P.nx (δ.set k (some q)) μ') : SS EE (tAsg te (gName k)) δ μ P := fun σ G M s mm => s_setY (E := EE σ) h k' σ G M s mm
theorem ss_set (h : E1 te δ μ Q μ1) (k' : P.nx (δ.set k (some Q)) μ1) : SS EE (tAsg te (gName k)) δ μ P := fun σ G M s mm => s_set (E := EE σ) h k' σ G M s mm
theorem ss_setR (h : ES EE te δ μ P.ex) : SS EE (tAsg te g) δ μ P := fun σ G M s mm => sv_setR (h σ G M s mm)
theorem ss_dropY (h : EY te δ μ R) (k' : ∀ q μ', R q μ' → P.nx δ μ') : SS EE (tDrop te) δ μ P := fun σ G M s mm => s_dropY (E := EE σ) h k' σ G M s mm
theorem ss_drop (h : E1 te δ μ Q μ1) (k' : P.nx δ μ1) : SS EE (tDrop te) δ μ P := fun σ G M s mm => s_drop (E := EE σ) h k' σ G M s mm
theorem ss_dropR (h : ES EE te δ μ P.ex) : SS EE (tDrop te) δ μ P := fun σ G M s mm => sv_dropR (h σ G M s mm)
theorem ss_ret (h : E1 te δ μ Q μ1) (k' : P.rt Q μ1) : SS EE (tRet te) δ μ P := fun σ G M s mm => s_ret (E := EE σ) h k' σ G M s mm
theorem ss_retR (h : ES EE te δ μ P.ex) : SS EE (tRet te) δ μ P := fun σ G M s mm => sv_retR (h σ G M s mm)
theorem s_doR (h : ES (fun _ => E) te δ μ P.ex) : S1 E (tSeq (tDrop te) u) δ μ P := s_seq (N := fun _ _ => False) (fun σ G M s mm => sv_dropR (h σ G M s mm)) fun _ _ z => z.elim
theorem s_letR (h : ES (fun _ => E) te δ μ P.ex) : S1 E (tSeq (tAsg te g) u) δ μ P := s_seq (N := fun _ _ => False) (fun σ G M s mm => sv_setR (h σ G M s mm)) fun _ _ z => z.elim
theorem s_retS (h : ES (fun _ => E) te δ μ P.ex) : S1 E (tRet te) δ μ P := fun σ G M s mm => sv_retR (h σ G M s mm)
theorem ES.imp (h : ES EE te δ μ X) (i : ∀ c d μ, X c d μ → X' c d μ) : ES EE te δ μ X' := fun σ G M s mm G1 H F e m1 x Q => h σ G M s mm G1 H F e m1 (fun c d G2 M2 H2 e2 m2 ⟨μ2, h2, h3⟩ => x c d G2 M2 H2 e2 m2 ⟨μ2, i c d μ2 h2, h3⟩) Q
theorem ES.er {c : Addr} (h : ES EE te δ μ (Er c μ1)) (i : X (.ref c) none μ1) : ES EE te δ μ X := h.imp fun c d μ ⟨h1, h2, h3⟩ => by subst h1 h2 h3; exact i
theorem es_lst1 (h : ES EE te δ μ X) : ES EE (tLst (tCons te tr)) δ μ X := fun σ G M s mm => er_lst (er_one (h σ G M s mm))
section
variable {α : Type} {A : α → List Pr} {m : α → Mp} {pre : α → Prop} {Rx : α → Pr → Mp → Prop} {Xc : α → EXY}
/-- a call that comes back -/
theorem y_callS (x : α) (h : EA tA δ μ (A x) (m x ++ rest)) (hp : pre x) (hx : ∀ c d μ, ¬ Xc x c d μ) : EY (tCallS (spX A m pre Rx Xc) EE tA) δ μ (fun Q μ' => ∃ μ2, Rx x Q μ2 ∧ μ' = μ2 ++ rest) := fun σ G M s mm G1 H F e m1 q z =>
  h σ G M s mm G1 H F e m1 _ fun vs G2 M2 H2 e2 m2 a2 r2 => by
    obtain ⟨Ma, Mb, rfl, ma, mb⟩ := Mm.cut r2
    refine ⟨x, G2, Ma, Mb ++ F, by rw [← List.append_assoc]; exact m2, ⟨ma, a2, hp⟩, fun v G' M' H' e' m' ⟨Q, μ', r0, r1, r2⟩ => ?_, fun c d G' M' H' e' m' ⟨μ', r0, _⟩ => absurd r0 (hx c d μ')⟩
    exact z v G' (M' ++ Mb) H' (e2.trans e') (by rw [List.append_assoc]; exact m') ⟨Q, _, ⟨μ', r0, rfl⟩, r1, Mm.app r2 (mb.mono e')⟩
/-- a call that raises -/
theorem es_callS (x : α) (h : EA tA δ μ (A x) (m x ++ rest)) (hp : pre x) (hr : ∀ Q μ, ¬ Rx x Q μ) : ES EE (tCallS (spX A m pre Rx Xc) EE tA) δ μ (fun c d μ' => ∃ μ2, Xc x c d μ2 ∧ μ' = μ2 ++ rest) := fun σ G M s mm G1 H F e m1 z q =>
  h σ G M s mm G1 H F e m1 _ fun vs G2 M2 H2 e2 m2 a2 r2 => by
    obtain ⟨Ma, Mb, rfl, ma, mb⟩ := Mm.cut r2
    refine ⟨x, G2, Ma, Mb ++ F, by rw [← List.append_assoc]; exact m2, ⟨ma, a2, hp⟩, fun v G' M' H' e' m' ⟨Q, μ', r0, _⟩ => absurd r0 (hr Q μ'), fun c d G' M' H' e' m' ⟨μ', r0, r1⟩ => ?_⟩
    exact z c d G' (M' ++ Mb) H' (e2.trans e') (by rw [List.append_assoc]; exact m') ⟨_, ⟨μ', r0, rfl⟩, Mm.app r1 (mb.mono e')⟩
/-- one op other, both of the class C: comes back -/
theorem y_binS {C : Addr} (x : α) (h1 : E1 ta δ μ P1 μ1) (h2 : E1 tb δ μ1 P2 (m x ++ rest)) (i1 : InsY C P1 (m x ++ rest)) (i2 : InsY C P2 (m x ++ rest)) (hA : A x = [P1, P2]) (hp : pre x) (hx : ∀ c d μ, ¬ Xc x c d μ) : EY (tBinOS C (spX A m pre Rx Xc) EE ta tb) δ μ (fun Q μ' => ∃ μ2, Rx x Q μ2 ∧ μ' = μ2 ++ rest) := fun σ G M s mm G1 H F e m1 q z =>
  h1 σ G M s mm G1 H F e m1 _ fun v G2 M2 H2 e2 m2 r2 => h2 σ G2 M2 (s.mono (e.trans e2)) r2.2 G2 H2 F (Ex.refl _) m2 _ fun w G3 M3 H3 e3 m3 r3 => by
    have p1 := P1.m _ _ _ e3 r2.1
    obtain ⟨a, dx, vs, rfl, ha⟩ := i1 G3 v M3 p1 r3.2
    obtain ⟨b, dy, ws, rfl, hb⟩ := i2 G3 w M3 r3.1 r3.2
    obtain ⟨Ma, Mb, rfl, ma, mb⟩ := Mm.cut r3.2
    refine ⟨a, dx, vs, b, dy, ws, rfl, rfl, ha G3 H3 F (Ex.refl _) m3, hb G3 H3 F (Ex.refl _) m3, x, G3, Ma, Mb ++ F, by rw [← List.append_assoc]; exact m3, ⟨ma, by rw [hA]; exact ⟨p1, r3.1, trivial⟩, hp⟩, fun v G' M' H' e' m' ⟨Q, μ', r0, r1, r4⟩ => ?_, fun c d G' M' H' e' m' ⟨μ', r0, _⟩ => absurd r0 (hx c d μ')⟩
    exact z v G' (M' ++ Mb) H' ((e2.trans e3).trans e') (by rw [List.append_assoc]; exact m') ⟨Q, _, ⟨μ', r0, rfl⟩, r1, Mm.app r4 (mb.mono e')⟩
/-- .. raises -/
theorem es_binS {C : Addr} (x : α) (h1 : E1 ta δ μ P1 μ1) (h2 : E1 tb δ μ1 P2 (m x ++ rest)) (i1 : InsY C P1 (m x ++ rest)) (i2 : InsY C P2 (m x ++ rest)) (hA : A x = [P1, P2]) (hp : pre x) (hr : ∀ Q μ, ¬ Rx x Q μ) : ES EE (tBinOS C (spX A m pre Rx Xc) EE ta tb) δ μ (fun c d μ' => ∃ μ2, Xc x c d μ2 ∧ μ' = μ2 ++ rest) := fun σ G M s mm G1 H F e m1 z q =>
  h1 σ G M s mm G1 H F e m1 _ fun v G2 M2 H2 e2 m2 r2 => h2 σ G2 M2 (s.mono (e.trans e2)) r2.2 G2 H2 F (Ex.refl _) m2 _ fun w G3 M3 H3 e3 m3 r3 => by
    have p1 := P1.m _ _ _ e3 r2.1
    obtain ⟨a, dx, vs, rfl, ha⟩ := i1 G3 v M3 p1 r3.2
    obtain ⟨b, dy, ws, rfl, hb⟩ := i2 G3 w M3 r3.1 r3.2
    obtain ⟨Ma, Mb, rfl, ma, mb⟩ := Mm.cut r3.2
    refine ⟨a, dx, vs, b, dy, ws, rfl, rfl, ha G3 H3 F (Ex.refl _) m3, hb G3 H3 F (Ex.refl _) m3, x, G3, Ma, Mb ++ F, by rw [← List.append_assoc]; exact m3, ⟨ma, by rw [hA]; exact ⟨p1, r3.1, trivial⟩, hp⟩, fun v G' M' H' e' m' ⟨Q, μ', r0, _⟩ => absurd r0 (hr Q μ'), fun c d G' M' H' e' m' ⟨μ', r0, r1⟩ => ?_⟩
    exact z c d G' (M' ++ Mb) H' ((e2.trans e3).trans e') (by rw [List.append_assoc]; exact m') ⟨_, ⟨μ', r0, rfl⟩, Mm.app r1 (mb.mono e')⟩
end
/-! what comes back or raises, by a test; what is owned stays -/
abbrev spT {α : Type} (A : α → List Pr) (m : α → Mp) (pre : α → Prop) (ok : α → Bool) (B : α → Pr) (c : Addr) : Sp :=
  spX A m pre (fun x Q μ => ok x = true ∧ Q = B x ∧ μ = m x) (fun x => fun cl d μ => ok x = false ∧ cl = .ref c ∧ d = none ∧ μ = m x)
section
variable {α : Type} {A : α → List Pr} {m : α → Mp} {pre : α → Prop} {ok : α → Bool} {B : α → Pr} {c : Addr}
theorem e_callT (x : α) (h : EA tA δ μ (A x) (m x)) (hp : pre x) (hk : ok x = true) : E1 (tCallS (spT A m pre ok B c) EE tA) δ μ (B x) (m x) := ((y_callS (m := m) (rest := []) x (by rw [List.append_nil]; exact h) hp fun c d μ z => by rw [hk] at z; cases z.1).imp fun Q μ' r => by
  obtain ⟨_, ⟨_, rfl, rfl⟩, rfl⟩ := r
  exact ⟨rfl, List.append_nil _⟩).one
theorem es_callT (x : α) (h : EA tA δ μ (A x) (m x)) (hp : pre x) (hk : ok x = false) : ES EE (tCallS (spT A m pre ok B c) EE tA) δ μ (Er c (m x)) := (es_callS (m := m) (rest := []) x (by rw [List.append_nil]; exact h) hp fun Q μ z => by rw [hk] at z; cases z.1).imp fun c d μ' r => by
  obtain ⟨_, ⟨_, rfl, rfl, rfl⟩, rfl⟩ := r
  exact ⟨rfl, rfl, List.append_nil _⟩
theorem e_binT {C : Addr} (x : α) (h1 : E1 ta δ μ P1 μ1) (h2 : E1 tb δ μ1 P2 (m x)) (i1 : InsY C P1 (m x)) (i2 : InsY C P2 (m x)) (hA : A x = [P1, P2]) (hp : pre x) (hk : ok x = true) : E1 (tBinOS C (spT A m pre ok B c) EE ta tb) δ μ (B x) (m x) :=
  ((y_binS (m := m) (rest := []) x h1 (by rw [List.append_nil]; exact h2) (by rw [List.append_nil]; exact i1) (by rw [List.append_nil]; exact i2) hA hp fun c d μ z => by rw [hk] at z; cases z.1).imp fun Q μ' r => by
  obtain ⟨_, ⟨_, rfl, rfl⟩, rfl⟩ := r
  exact ⟨rfl, List.append_nil _⟩).one
theorem es_binT {C : Addr} (x : α) (h1 : E1 ta δ μ P1 μ1) (h2 : E1 tb δ μ1 P2 (m x)) (i1 : InsY C P1 (m x)) (i2 : InsY C P2 (m x)) (hA : A x = [P1, P2]) (hp : pre x) (hk : ok x = false) : ES EE (tBinOS C (spT A m pre ok B c) EE ta tb) δ μ (Er c (m x)) :=
  (es_binS (m := m) (rest := []) x h1 (by rw [List.append_nil]; exact h2) (by rw [List.append_nil]; exact i1) (by rw [List.append_nil]; exact i2) hA hp fun Q μ z => by rw [hk] at z; cases z.1).imp fun c d μ' r => by
  obtain ⟨_, ⟨_, rfl, rfl, rfl⟩, rfl⟩ := r
  exact ⟨rfl, rfl, List.append_nil _⟩
/-- where it does not raise -/
abbrev spTG {α : Type} (A : α → List Pr) (m : α → Mp) (pre : α → Prop) (ok : α → Bool) (B : α → Pr) : Sp := sp A m (fun x => pre x ∧ ok x = true) (fun x Q μ => Q = B x ∧ μ = m x)
theorem spT_calm {P : Program} {w : World} {mg : Str → Option Value} {base : Heap} {CX : CXT} {k : Nat} {f : Addr} {fd : FuncData} {ps : List Str} (F : FnOk P w K mg base CX k f fd ps (spT A m pre ok B c)) : FnOk P w K mg base CX k f fd ps (spTG A m pre ok B) :=
  F.imp fun vs H Q E h => by
    obtain ⟨x, G, M, Fr, m1, ⟨p1, p2, p3, p4⟩, q⟩ := h
    exact ⟨x, G, M, Fr, m1, ⟨p1, p2, p3⟩, fun v G' M' H' e' m' ⟨Q', μ', ⟨_, r0⟩, r1⟩ => q v G' M' H' e' m' ⟨Q', μ', r0, r1⟩, fun c d G' M' H' _ _ ⟨_, z, _⟩ => by
      have z := z.1
      rw [p4] at z
      cases z⟩
theorem e_callG (x : α) (h : EA tA δ μ (A x) (m x)) (hp : pre x) (hk : ok x = true) : E1 (tCall (spTG A m pre ok B) [] E tA) δ μ (B x) (m x) := e_callR (pre := fun x => pre x ∧ ok x = true) x h ⟨hp, hk⟩
theorem e_binG {C : Addr} (x : α) (h1 : E1 ta δ μ P1 μ1) (h2 : E1 tb δ μ1 P2 (m x)) (i1 : InsY C P1 (m x)) (i2 : InsY C P2 (m x)) (hA : A x = [P1, P2]) (hp : pre x) (hk : ok x = true) : E1 (tOp (rBinO C (spTG A m pre ok B) E) ta tb) δ μ (B x) (m x) :=
  ((y_binO (m := m) (rest := []) (pre := fun x => pre x ∧ ok x = true) (R := fun x Q μ => Q = B x ∧ μ = m x) x h1 (by rw [List.append_nil]; exact h2) (by rw [List.append_nil]; exact i1) (by rw [List.append_nil]; exact i2) hA ⟨hp, hk⟩).imp fun Q μ' r => by
  obtain ⟨_, ⟨rfl, rfl⟩, rfl⟩ := r
  exact ⟨rfl, List.append_nil _⟩).one
theorem back_T {x : α} {Q : Pr} {μ : Mp} (hk : ok x = true) (h : Imp Q (B x)) (hm : (m x).Sublist μ) : BackY (fun x Q μ => ok x = true ∧ Q = B x ∧ μ = m x) x Q μ := backY_mk ⟨hk, rfl, rfl⟩ h hm
theorem exc_T {x : α} {μ : Mp} (hk : ok x = false) (hm : (m x).Sublist μ) : BackX (fun x => fun cl d μ => ok x = false ∧ cl = .ref c ∧ d = none ∧ μ = m x) x (.ref c) none μ := ⟨_, ⟨hk, rfl, rfl, rfl⟩, hm⟩
end
/-! making -/
abbrev spMkX {β : Type} (K : PySem.W.Frag) (C : Addr) (A : β → List Pr) (pre : Mp → β → Prop) (ok : β → Bool) (fs : β → FsQ) (c : Addr) : Sp :=
  spX (α := Addr × Mp × β) (fun x => Av x.1 :: A x.2.2) (fun x => (x.1, OI C []) :: x.2.1) (fun x => pre x.2.1 x.2.2) (fun x Q μ => ok x.2.2 = true ∧ Q = D K .none ∧ μ = (x.1, OI C (fs x.2.2)) :: x.2.1) (fun x => fun cl d μ => ok x.2.2 = false ∧ cl = .ref c ∧ d = none ∧ μ = x.2.1)
section
variable {β : Type} {A : β → List Pr} {pre : Mp → β → Prop} {ok : β → Bool} {ff : β → FsQ} {C c : Addr}
theorem e_mkX (x : β) (h : EA tA δ μ (A x) μ1) (hp : pre μ1 x) (hk : ok x = true) : E1 (tMakeS C (spMkX K C A pre ok ff c) EE tA) δ μ (ObP C (ff x)) μ1 := fun σ G M s mm G1 H F e m1 q z =>
  h σ G M s mm G1 H F e m1 _ fun vs G2 M2 H2 e2 m2 a2 r2 p dx hpn hdn hne => by
    have hp2 : upd H2 dx (.own p) p = none := by rw [upd_ne hne.symm]; exact hpn
    have m3 := (m2.new (o := .own p) hdn).newM (o := .ins C dx []) hp2
    refine ⟨(p, μ1, x), G2, (p, .ins C dx []) :: M2, F, m3, ⟨⟨⟨rfl, dx, [], rfl, trivial⟩, r2⟩, ⟨rfl, a2⟩, hp⟩, fun v G' M' H' e' m' r => ?_, fun cl d G' M' H' _ _ ⟨_, r0, _⟩ => by
      have r0 := r0.1
      rw [hk] at r0
      cases r0⟩
    obtain ⟨Q, μ', ⟨_, rfl, rfl⟩, r1, r4⟩ := r
    match M', r4 with
    | (b, o) :: M3, ⟨⟨h3, dx', vs', h4, h5⟩, h6⟩ =>
      have h3 : b = p := h3
      have h4 : o = .ins C dx' vs' := h4
      subst h3 h4
      obtain ⟨m4, e4⟩ := m'.freeze
      exact ⟨dp_non r1, z _ _ M3 H' ((e2.trans e').trans e4) m4 ⟨⟨b, dx', vs', rfl, upd_same, h5.mono e4⟩, (h6 : Mm G' M3 μ1).mono e4⟩⟩
theorem es_mkX (x : β) (h : EA tA δ μ (A x) μ1) (hp : pre μ1 x) (hk : ok x = false) : ES EE (tMakeS C (spMkX K C A pre ok ff c) EE tA) δ μ (Er c μ1) := fun σ G M s mm G1 H F e m1 z q =>
  h σ G M s mm G1 H F e m1 _ fun vs G2 M2 H2 e2 m2 a2 r2 p dx hpn hdn hne => by
    have hp2 : upd H2 dx (.own p) p = none := by rw [upd_ne hne.symm]; exact hpn
    have m3 := (m2.new (o := .own p) hdn).newM (o := .ins C dx []) hp2
    refine ⟨(p, μ1, x), G2, (p, .ins C dx []) :: M2, F, m3, ⟨⟨⟨rfl, dx, [], rfl, trivial⟩, r2⟩, ⟨rfl, a2⟩, hp⟩, fun v G' M' H' e' m' ⟨_, _, r0, _⟩ => (by
      have r0 := r0.1
      rw [hk] at r0
      cases r0), fun cl d G' M' H' e' m' ⟨μ', ⟨_, h1, h2, h3⟩, h4⟩ => z cl d G' M' H' (e2.trans e') m' ⟨μ', ⟨h1, h2, h3⟩, h4⟩⟩
/-- where it does not raise -/
theorem spMkX_calm {P : Program} {w : World} {mg : Str → Option Value} {base : Heap} {CX : CXT} {k : Nat} {f : Addr} {fd : FuncData} {ps : List Str} (F : FnOk P w K mg base CX k f fd ps (spMkX K C A pre ok ff c)) : FnOk P w K mg base CX k f fd ps (spMkR K C A (fun μ x => pre μ x ∧ ok x = true) ff) :=
  F.imp fun vs H Q E h => by
    obtain ⟨x, G, M, Fr, m1, ⟨p1, p2, p3, p4⟩, q⟩ := h
    exact ⟨x, G, M, Fr, m1, ⟨p1, p2, p3⟩, fun v G' M' H' e' m' ⟨Q', μ', ⟨_, r0⟩, r1⟩ => q v G' M' H' e' m' ⟨Q', μ', r0, r1⟩, fun c d G' M' H' _ _ ⟨_, z, _⟩ => by
      have z := z.1
      rw [p4] at z
      cases z⟩
end
/-! try -/
theorem s_tryS {i : Nat} {tw : WX → TS} {ts : Addr → Value → Option Addr → TS} {c : Value} {Wout : WX} (X : EXY) (hB : ∀ W : WX, SS (WE W) (tw W) δ μ { P with ex := X })
    (hS : ∀ cls d a μ2, X cls d μ2 → PySem.W.exmOne K cls c = some true ∧ S1 E (ts a cls d) (δ.set i (some (Av a))) μ2 { P with nx := fun δ' μ' => P.nx (δ'.set i none) μ', bk := fun δ' μ' => P.bk (δ'.set i none) μ', ct := fun δ' μ' => P.ct (δ'.set i none) μ' }) :
    S1 E (fun D σ H => tw (wAs K c i ts Wout D) D σ H) δ μ P := fun σ G M s mm =>
  sv_tryAs (P := P.po) X.po (fun W => hB W σ G M s mm) fun cls d a G2 M2 e2 ⟨μ2, hx, h2⟩ => by
    obtain ⟨h3, h4⟩ := hS cls d a μ2 hx
    refine ⟨h3, (h4 _ G2 M2 ((s.mono e2).set (P := Av a) (v := .ref a) (by rfl)) h2).imp ?_ ?_ ?_ ?_ ?_⟩
    · rintro G3 σ3 M3 _ ⟨δ3, μ3, n0, n1, n2⟩
      exact ⟨_, μ3, n0, n1.none2, n2⟩
    · exact fun _ _ _ _ z => z
    · rintro G3 σ3 M3 _ ⟨δ3, μ3, n0, n1, n2⟩
      exact ⟨_, μ3, n0, n1.none2, n2⟩
    · rintro G3 σ3 M3 _ ⟨δ3, μ3, n0, n1, n2⟩
      exact ⟨_, μ3, n0, n1.none2, n2⟩
    · exact fun _ _ _ _ _ z => z
/-- the body comes back -/
theorem s_tryN {i : Nat} {tw : WX → TS} {ts : Addr → Value → Option Addr → TS} {c : Value} {Wout : WX} (hB : ∀ W : WX, SS (WE W) (tw W) δ μ { P with ex := fun _ _ _ => False }) : S1 E (fun D σ H => tw (wAs K c i ts Wout D) D σ H) δ μ P :=
  s_tryS (fun _ _ _ => False) hB fun _ _ _ _ z => z.elim
/-- the body raises this -/
theorem s_tryE {i : Nat} {tw : WX → TS} {ts : Addr → Value → Option Addr → TS} {c : Value} {Wout : WX} {C : Addr} (hB : ∀ W : WX, SS (WE W) (tw W) δ μ { P with ex := Er C μ1 }) (hm : PySem.W.exmOne K (.ref C) c = some true)
    (hS : ∀ a, S1 E (ts a (.ref C) none) (δ.set i (some (Av a))) μ1 { P with nx := fun δ' μ' => P.nx (δ'.set i none) μ', bk := fun δ' μ' => P.bk (δ'.set i none) μ', ct := fun δ' μ' => P.ct (δ'.set i none) μ' }) : S1 E (fun D σ H => tw (wAs K c i ts Wout D) D σ H) δ μ P :=
  s_tryS (Er C μ1) hB fun cls d a μ2 ⟨h1, h2, h3⟩ => by subst h1 h2 h3; exact ⟨hm, hS a⟩
/-! isinstance of the error -/
theorem e_isC {a Dc : Addr} {b : Bool} {c : V} {cv : Value} (hD : ExcC K Dc) (h : E1 ta δ μ (Av a) μ1) (hcv : ∀ u, RelV c u → u = cv) (hk : PySem.W.kitOne K (.ref Dc) cv = some b) : E1 (tCB (rIsC K (.ref Dc) none a) (tCons ta (tCons (tC c) tNil))) δ μ (D K (.bool b)) μ1 :=
  e_CB (a_cons h (a_cons (e_cst (P := Cv c) fun _ => rfl) a_nil)) fun G H F M vs m mm p Q q => by
    match vs, p with
    | [v, w], ⟨p1, p2, _⟩ =>
      have p1 : v = .ref a := p1
      have p2 : w = c := p2
      subst p1 p2
      exact ⟨Dc, rfl, rfl, hD, w, cv, b, rfl, hcv, hk, q _ G M H (Ex.refl _) m (.bl _) mm⟩
theorem ap_cv {G : Hp} : ∀ {cs vs : List V}, AP G (cs.map Cv) vs → vs = cs
  | [], [], _ => rfl
  | _ :: _, _ :: _, h => by
    obtain ⟨h1, h2⟩ := h
    have h1 : _ = _ := h1
    rw [h1, ap_cv h2]
  | [], _ :: _, h => h.elim
  | _ :: _, [], h => h.elim
theorem a_cs {cs : List V} : ∀ {ts : TA}, (∀ σ H Q, Q cs H → ts σ H Q) → EA ts δ μ (cs.map Cv) μ := fun ht σ G M s mm G1 H F e m1 Q q => ht σ H Q (q cs G1 M H (Ex.refl _) m1 (by
  clear q ht
  induction cs with
  | nil => trivial
  | cons c cs ih => exact ⟨rfl, ih⟩) (mm.mono e))
theorem e_isCT {a Dc : Addr} {b : Bool} {tt : TA} {cs : List V} {us : List Value} (hD : ExcC K Dc) (h : E1 ta δ μ (Av a) μ1) (ht : ∀ σ H Q, Q cs H → tt σ H Q) (hl : cs.length ≤ 1000) (hcs : Paired ClsV cs us) (hk : PySem.W.kitAny K (.ref Dc) us = some b) : E1 (tCB (rIsCT K (.ref Dc) none a) (tCons ta (tCons (tTup tt) tNil))) δ μ (D K (.bool b)) μ1 :=
  e_CB (a_cons h (a_cons (e_tupP (a_cs ht) (by simpa using hl)) a_nil)) fun G H F M vs m mm p Q q => by
    match vs, p with
    | [v, w], ⟨p1, p2, _⟩ =>
      have p1 : v = .ref a := p1
      subst p1
      obtain ⟨tp, ws, rfl, h3, h4⟩ := p2
      have := ap_cv h4
      subst this
      exact ⟨Dc, rfl, rfl, hD, tp, ws, us, b, rfl, m.ex _ _ h3, hcs, hk, q _ G M H (Ex.refl _) m (.bl _) mm⟩
end
end SY
namespace SY
open PySem PySem.Spec L2 SX
theorem GoodKd.or_nd {b r m m2 : Int} {ds es : List Deed} (g : GoodKd b r ds m) (g2 : GoodKd b r es m2) : (ds ++ es.filter fun x => !decide (x ∈ ds)).Nodup :=
  List.nodup_append.mpr ⟨g.nd, g2.nd.filter _, fun x hx y hy e => by
    subst e
    rw [List.mem_filter, Bool.not_eq_true', decide_eq_false_iff_not] at hy
    exact hy.2 hx⟩
theorem GoodKd.or_ok {b r m m2 : Int} {ds es : List Deed} (g : GoodKd b r ds m) (g2 : GoodKd b r es m2) : ∀ x ∈ (ds ++ es.filter fun x => !decide (x ∈ ds)), x ∈ allDeeds b r := fun x hx => by
  rcases List.mem_append.mp hx with hx | hx
  · exact g.ok x hx
  · exact g2.ok x (List.mem_filter.mp hx).1
theorem GoodKd.or_perm {b r m m2 : Int} {ds es : List Deed} (g : GoodKd b r ds m) (g2 : GoodKd b r es m2) : (orK b r ds es).Perm (ds ++ es.filter fun x => !decide (x ∈ ds)) := inOrder_perm (g.or_nd g2) (g.or_ok g2)
theorem GoodKd.or_kd {b r m m2 : Int} {ds es : List Deed} (g : GoodKd b r ds m) (g2 : GoodKd b r es m2) (h1 : 1 ≤ (ds ++ es.filter fun x => !decide (x ∈ ds)).length) (h8 : (ds ++ es.filter fun x => !decide (x ∈ ds)).length ≤ 8) : GoodKd b r (ds ++ es.filter fun x => !decide (x ∈ ds)) (mxI m m2) := by
  have a1 := g.m1
  have a2 := g.m3
  have a3 := g2.m1
  have a4 := g2.m3
  exact ⟨g.b2, g.b12, g.r1, g.r4, g.pw, by unfold mxI; split <;> omega, by unfold mxI; split <;> omega, h1, h8, g.or_nd g2, g.or_ok g2⟩
theorem GoodKd.and_perm {b r m : Int} {ds : List Deed} (g : GoodKd b r ds m) (es : List Deed) : (andK b r ds es).Perm (ds.filter fun x => decide (x ∈ es)) := inOrder_perm (g.nd.filter _) fun x hx => g.ok x (List.mem_filter.mp hx).1
theorem GoodKd.and_kd {b r m b2 r2 m2 : Int} {ds es : List Deed} (g : GoodKd b r ds m) (g2 : GoodKd b2 r2 es m2) (h1 : 1 ≤ (ds.filter fun x => decide (x ∈ es)).length) : GoodKd b r (ds.filter fun x => decide (x ∈ es)) (mnI m m2) := by
  have a1 := g.m1
  have a2 := g.m3
  have a3 := g2.m1
  have a4 := g2.m3
  exact ⟨g.b2, g.b12, g.r1, g.r4, g.pw, by unfold mnI; split <;> omega, by unfold mnI; split <;> omega, h1, Nat.le_trans (List.length_filter_le _ _) g.n8, g.nd.filter _, fun x hx => g.ok x (List.mem_filter.mp hx).1⟩
end SY
namespace SY
open PySem PySem.Spec L2 SX
/-! two kinds by a sign -/
def okTwo (b r b2 r2 : Int) (xs : List Deed) : Bool := (decide (b = b2) && decide (r = r2)) && (decide (1 ≤ xs.length) && decide (xs.length ≤ 8))
def twoK (b r : Int) (ds es : List Deed) (t : Bool) : List Deed := if t then andK b r ds es else orK b r ds es
def twoM (m m2 : Int) (t : Bool) : Int := if t then mnI m m2 else mxI m m2
/-- [True, True, False] -/
def errD : PyData := .list [.bool true, .bool true, .bool false]
def toldP (K : PySem.W.Frag) (k : Bool) (P : Pr) : Pr := if k then Lp [P] else D K errD
section
variable {E : XK} {K : PySem.W.Frag} {ta : TE} {δ : En} {μ μ1 : Mp} {P P1 : Pr} {Ps : List Pr} {tA : TA}
theorem e_lenLp (h : E1 ta δ μ (Lp Ps) μ1) : E1 (tCB (rLenS K) (tCons ta tNil)) δ μ (D K (.int (Ps.length : Int))) μ1 :=
  e_CB1 h fun G H F M v m mm p Q q => by
    obtain ⟨a, xs, rfl, h3, h4⟩ := p
    exact ⟨a, xs, rfl, .inl (SqL.of (m.ex _ _ h3)), q _ G M H (Ex.refl _) m (by rw [AP.len h4]; exact .int _) mm⟩
end
end SY
namespace SY
open PySem PySem.Spec L2 SX
section
variable {E : XK} {K : PySem.W.Frag} {C : Addr} {ta tb : TE} {δ : En} {μ μ1 μ2 : Mp} {P1 : Pr} {d : PyData}
/-- an own comparison with data -/
theorem e_cmpXD {α : Type} {A : α → List Pr} {pre : α → Prop} {B : α → Pr} (x : α) (O : DataOut K C) (h1 : E1 ta δ μ P1 μ1) (h2 : E1 tb δ μ1 (D K d) μ2) (i1 : InsY C P1 μ2) (hA : A x = [P1, D K d]) (hp : pre x) : E1 (tOp (rCmpX K C (spD A pre B) E) ta tb) δ μ (B x) μ2 := fun σ G M s mm G1 H F e m1 q z =>
  h1 σ G M s mm G1 H F e m1 _ fun v G2 M2 H2 e2 m2 r2 => h2 σ G2 M2 (s.mono (e.trans e2)) r2.2 G2 H2 F (Ex.refl _) m2 _ fun w G3 M3 H3 e3 m3 r3 => by
    have p1 := P1.m _ _ _ e3 r2.1
    obtain ⟨a, dx, vs, rfl, ha⟩ := i1 G3 v M3 p1 r3.2
    refine ⟨a, dx, vs, .type (tyName d), rfl, ha G3 H3 F (Ex.refl _) m3, tyx_of (dm r3.1 m3.ex), O.nf d, sp_run (m := fun _ => []) (M := []) (F := M3 ++ F) x m3 trivial (by rw [hA]; exact ⟨p1, r3.1, trivial⟩) hp fun v G' M' H' e' m' r => ?_⟩
    obtain ⟨Q, μ', ⟨rfl, rfl⟩, r1, r4⟩ := r
    have h0 := r4.nil
    subst h0
    exact z v G' M3 H' ((e2.trans e3).trans e') m' ⟨r1, r3.2.mono e'⟩
end
theorem filter_orK {b r : Int} {ds es : List Deed} {p : Deed → Bool} (h : ∀ x ∈ allDeeds b r, p x = true ↔ (x ∈ ds ∨ x ∈ es)) : (allDeeds b r).filter p = orK b r ds es := by
  unfold orK inOrder
  refine List.filter_congr fun x hx => ?_
  rw [Bool.eq_iff_iff, h x hx, decide_eq_true_eq, List.mem_append, List.mem_filter, Bool.not_eq_true', decide_eq_false_iff_not]
  by_cases z : x ∈ ds <;> simp [z]
theorem filter_andK {b r : Int} {ds es : List Deed} {p : Deed → Bool} (h : ∀ x ∈ allDeeds b r, p x = true ↔ (x ∈ ds ∧ x ∈ es)) : (allDeeds b r).filter p = andK b r ds es := by
  unfold andK inOrder
  refine List.filter_congr fun x hx => ?_
  rw [Bool.eq_iff_iff, h x hx, decide_eq_true_eq, List.mem_filter, decide_eq_true_eq]
theorem okTwo_same {b r : Int} {xs : List Deed} : okTwo b r b r xs = (decide (1 ≤ xs.length) && decide (xs.length ≤ 8)) := by
  unfold okTwo
  simp
theorem okTwo_other {b r b2 r2 : Int} {xs : List Deed} (h : ¬ (b = b2 ∧ r = r2)) : okTwo b r b2 r2 xs = false := by
  unfold okTwo
  by_cases h1 : b = b2
  · rw [decide_eq_false fun z => h ⟨h1, z⟩]
    simp
  · rw [decide_eq_false h1]
    simp
theorem eqv_nil (ds : List Deed) : PyData.eqv (.list (ds.map deedD)) (.list []) = decide (ds.length = 0) := by
  cases ds <;> rfl
/-- what two good kinds give by a sign, where it is let -/
theorem GoodKd.two {b r m m2 : Int} {ds es : List Deed} {t : Bool} (g : GoodKd b r ds m) (g2 : GoodKd b r es m2) (h : okTwo b r b r (twoK b r ds es t) = true) : GoodKd b r (twoK b r ds es t) (twoM m m2 t) := by
  rw [okTwo_same] at h
  simp only [Bool.and_eq_true, decide_eq_true_eq] at h
  cases t
  · have hp := g.or_perm g2
    have hl : (orK b r ds es).length = _ := hp.length_eq
    have h1 : 1 ≤ (orK b r ds es).length := h.1
    have h2 : (orK b r ds es).length ≤ 8 := h.2
    exact (g.or_kd g2 (by omega) (by omega)).order
  · have hp := g.and_perm es
    have hl : (andK b r ds es).length = _ := hp.length_eq
    have h1 : 1 ≤ (andK b r ds es).length := h.1
    exact (g.and_kd g2 (by omega)).order
theorem mem_inOrder' {b r m : Int} {xs : List Deed} (g : GoodKd b r xs m) {x : Deed} : x ∈ inOrder b r xs ↔ x ∈ xs := by
  rw [mem_inOrder]
  exact ⟨fun h => h.2, fun h => ⟨g.ok x h, h⟩⟩
theorem all_inOrder {b r m m2 : Int} {xs ys : List Deed} (g : GoodKd b r xs m) (g2 : GoodKd b r ys m2) : ((inOrder b r xs).all fun x => decide (x ∈ inOrder b r ys)) = xs.all fun x => decide (x ∈ ys) := by
  rw [Bool.eq_iff_iff, List.all_eq_true, List.all_eq_true]
  simp only [decide_eq_true_eq, mem_inOrder' g, mem_inOrder' g2]
theorem eq_inOrder {b r m m2 : Int} {xs ys : List Deed} (g : GoodKd b r xs m) (g2 : GoodKd b r ys m2) : (inOrder b r xs = inOrder b r ys) ↔ (xs.length = ys.length ∧ ∀ x ∈ xs, x ∈ ys) := by
  constructor
  · intro h
    have h1 := (inOrder_perm g.nd g.ok).symm.trans (h ▸ inOrder_perm g2.nd g2.ok)
    exact ⟨h1.length_eq, fun x hx => h1.mem_iff.mp hx⟩
  · rintro ⟨h1, h2⟩
    have hq : xs.Perm (ys.filter fun x => decide (x ∈ xs)) := (List.perm_ext_iff_of_nodup g.nd (g2.nd.filter _)).mpr fun x => by
      rw [List.mem_filter, decide_eq_true_eq]
      exact ⟨fun z => ⟨h2 x z, z⟩, fun z => z.2⟩
    have hl : (ys.filter fun x => decide (x ∈ xs)).length = ys.length := by
      have := hq.length_eq
      omega
    have hp : xs.Perm ys := by
      rw [List.filter_eq_self.mpr (List.length_filter_eq_length_iff.mp hl)] at hq
      exact hq
    exact inOrder_ext fun x _ => hp.mem_iff
end SY
namespace SY
open PySem PySem.Spec L2 SX
theorem E1.cast {te : TE} {δ : En} {μ μ' : Mp} {P P1 : Pr} (h : E1 te δ μ P μ') (e : P = P1) : E1 te δ μ P1 μ' := e ▸ h
theorem orK_comm {b r : Int} {ds es : List Deed} : orK b r ds es = orK b r es ds := by
  rw [← filter_orK (b := b) (r := r) (ds := es) (es := ds) (p := fun x => decide (x ∈ es) || decide (x ∈ ds)) fun x _ => by simp]
  exact (filter_orK fun x _ => by simp; exact or_comm).symm
theorem mxI_comm (i j : Int) : mxI i j = mxI j i := by unfold mxI; split <;> split <;> omega
theorem mnI_comm (i j : Int) : mnI i j = mnI j i := by unfold mnI; split <;> split <;> omega
/-- the rest of all deeds, up to eight -/
def restK (b r : Int) (J : List Deed) : List Deed := ((allDeeds b r).filter fun x => !decide (x ∈ J)).take 8
theorem mem_restK {b r : Int} {J : List Deed} {x : Deed} (h : x ∈ restK b r J) : x ∈ allDeeds b r ∧ x ∉ J := by
  have h := List.mem_of_mem_take h
  rw [List.mem_filter, Bool.not_eq_true', decide_eq_false_iff_not] at h
  exact h
theorem restK_kd {b r m : Int} {J xs : List Deed} (g : GoodKd b r xs m) (h : restK b r J ≠ []) : GoodKd b r (restK b r J) 2 :=
  ⟨g.b2, g.b12, g.r1, g.r4, g.pw, by decide, by decide, List.length_pos_iff.mpr h, by unfold restK; rw [List.length_take]; exact Nat.min_le_left _ _, ((allDeeds_nodup b r).filter _).sublist (List.take_sublist _ _), fun x hx => (mem_restK hx).1⟩
theorem restK_and {b r : Int} {J : List Deed} : okTwo b r b r (andK b r J (inOrder b r (restK b r J))) = false := by
  have : andK b r J (inOrder b r (restK b r J)) = [] := List.eq_nil_iff_forall_not_mem.mpr fun x hx => by
    obtain ⟨_, h1, h2⟩ := mem_andK.mp hx
    exact (mem_restK (mem_inOrder.mp h2).2).2 h1
  rw [okTwo_same, this]
  rfl
theorem restK_all {b r m : Int} {J xs : List Deed} (g : GoodKd b r xs m) (h : restK b r J ≠ []) : ((inOrder b r (restK b r J)).all fun x => decide (x ∈ J)) = false := by
  obtain ⟨x, hx⟩ := List.exists_mem_of_ne_nil _ h
  rw [List.all_eq_false]
  refine ⟨x, mem_inOrder.mpr ⟨(mem_restK hx).1, hx⟩, ?_⟩
  rw [decide_eq_true_eq]
  exact (mem_restK hx).2
end SY
namespace SY
open PySem PySem.Spec L2 SX
/-- another base, another number of rows -/
def strB (Dk : Deck) (b : Int) : Int × Deck := if ¬ dv Dk 3 = 1 ∨ b > 10 then (2 + (b - 1 + dv (dn Dk 3) 8) % 9, dn (dn Dk 3) 8) else (b, dn Dk 3)
def strR (Dk : Deck) (b r : Int) : Int × Deck := if ¬ dv Dk 3 = 0 ∨ (strB Dk b).1 ^ r.toNat > 1000 then (1 + (r + dv (strB Dk b).2 2) % 3, dn (strB Dk b).2 2) else (r, (strB Dk b).2)
theorem pow_le3 {b : Int} (hb : 2 ≤ b ∧ b ≤ 10) {r : Int} (hr : 1 ≤ r ∧ r ≤ 3) : b ^ r.toNat ≤ 1000 := rowsN_pow (by omega) (by unfold rowsN; split <;> (try split) <;> omega)
theorem str_ok {Dk : Deck} {b r : Int} (hb : 2 ≤ b ∧ b ≤ 12) (hr : 1 ≤ r ∧ r ≤ 4) (hp : b ^ r.toNat ≤ 1000) : (2 ≤ (strB Dk b).1 ∧ (strB Dk b).1 ≤ 12) ∧ (1 ≤ (strR Dk b r).1 ∧ (strR Dk b r).1 ≤ 4) ∧ (strB Dk b).1 ^ (strR Dk b r).1.toNat ≤ 1000 ∧ ¬ (b = (strB Dk b).1 ∧ r = (strR Dk b r).1) := by
  have h0 : 0 ≤ dv (dn Dk 3) 8 := dv_lo (by decide)
  have h1 : dv (dn Dk 3) 8 < 8 := dv_hi (by decide)
  have h2 : 0 ≤ dv (strB Dk b).2 2 := dv_lo (by decide)
  have h3 : dv (strB Dk b).2 2 < 2 := dv_hi (by decide)
  have hB : (2 ≤ (strB Dk b).1 ∧ (strB Dk b).1 ≤ 10) ∧ (¬ (strB Dk b).1 = b ∨ dv Dk 3 = 1) := by
    unfold strB
    split
    · rename_i h
      dsimp only
      generalize dv (dn Dk 3) 8 = d at h0 h1 ⊢
      refine ⟨by omega, .inl ?_⟩
      omega
    · rename_i h
      dsimp only
      omega
  unfold strR
  generalize (strB Dk b).1 = ob at hB ⊢
  generalize dv (strB Dk b).2 2 = d at h2 h3 ⊢
  split
  · dsimp only
    refine ⟨by omega, by omega, pow_le3 hB.1 (by omega), fun z => ?_⟩
    have := z.2
    omega
  · rename_i h
    dsimp only
    have h4 : ¬ (ob ^ r.toNat > 1000) := fun z => h (.inr z)
    have h5 : dv Dk 3 = 0 := by
      by_cases q : dv Dk 3 = 0
      · exact q
      · exact absurd (.inl q) h
    exact ⟨by omega, by omega, by omega, fun z => by omega⟩
/-- the deeds that are words alone, and one off -/
def shortK (xs : List Deed) : List Deed := (xs.filter fun x => decide (x.L.length = 1)) ++ [.off 1]
theorem shortK_kd {b r m ob orr : Int} {xs : List Deed} (g : GoodKd b r xs m) (hb : 2 ≤ ob ∧ ob ≤ 12) (hr : 1 ≤ orr ∧ orr ≤ 4) (hp : ob ^ orr.toNat ≤ 1000) : GoodKd ob orr (shortK xs) m := by
  have h1 : ∀ x ∈ (xs.filter fun x => decide (x.L.length = 1)), x ∈ [Deed.forget, .again, .swap, .out, .twice] := fun x hx => by
    rw [List.mem_filter, decide_eq_true_eq] at hx
    have h2 := g.ok x hx.1
    have h3 := hx.2
    rw [mem_all] at h2
    cases x <;> simp_all [Deed.L]
  have hl := sub_len (g.nd.filter _) (by decide) h1
  have hl : (xs.filter fun x => decide (x.L.length = 1)).length ≤ 5 := hl
  refine ⟨hb.1, hb.2, hr.1, hr.2, hp, g.m1, g.m3, ?_, ?_, ?_, ?_⟩
  · unfold shortK
    rw [List.length_append]
    simp
  · unfold shortK
    rw [List.length_append]
    simp only [List.length_cons, List.length_nil]
    omega
  · unfold shortK
    refine List.nodup_append.mpr ⟨g.nd.filter _, by simp, fun x hx y hy e => ?_⟩
    have := h1 x hx
    subst e
    have hy : x = .off 1 := by simpa using hy
    subst hy
    simp at this
  · intro x hx
    unfold shortK at hx
    rw [mem_all]
    rcases List.mem_append.mp hx with hx | hx
    · have := h1 x hx
      simp only [List.mem_cons, List.not_mem_nil, or_false] at this
      rcases this with rfl | rfl | rfl | rfl | rfl <;> simp
    · have hx : x = .off 1 := by simpa using hx
      subst hx
      simp
      omega
/-- what some are drawn of -/
structure PoolOk (b r : Int) (pool : List Deed) : Prop where
  nd : pool.Nodup
  ok : ∀ x ∈ pool, x ∈ allDeeds b r
  n1 : 1 ≤ pool.length
  n70 : pool.length ≤ 70
theorem PoolOk.all {b r : Int} (hb : 2 ≤ b ∧ b ≤ 12) (hr : 1 ≤ r ∧ r ≤ 4) : PoolOk b r (allDeeds b r) := ⟨allDeeds_nodup b r, fun _ h => h, by have := allDeeds_lo hb hr; omega, allDeeds_len hb hr⟩
theorem PoolOk.some {b r : Int} {pool : List Deed} (g : PoolOk b r pool) {Dk : Deck} {n : Nat} (h1 : 1 ≤ n) (h : n ≤ pool.length) : PoolOk b r (someS pool Dk n).1 := by
  obtain ⟨h2, h3, h4⟩ := someS_ok (xs := pool) (Dk := Dk) n h
  have := g.n70
  exact ⟨(List.nodup_append.mp (h4.nodup_iff.mpr g.nd)).1, fun x hx => g.ok x (h4.mem_iff.mp (List.mem_append_left _ hx)), by omega, by omega⟩
theorem PoolOk.kd {b r m : Int} {pool : List Deed} (g : PoolOk b r pool) (hb : 2 ≤ b ∧ b ≤ 12) (hr : 1 ≤ r ∧ r ≤ 4) (hp : b ^ r.toNat ≤ 1000) (hm : 1 ≤ m ∧ m ≤ 3) (h8 : pool.length ≤ 8) : GoodKd b r pool m := ⟨hb.1, hb.2, hr.1, hr.2, hp, hm.1, hm.2, g.n1, h8, g.nd, g.ok⟩
theorem GoodKd.rev {b r m m2 : Int} {xs : List Deed} (g : GoodKd b r xs m) (hm : 1 ≤ m2 ∧ m2 ≤ 3) : GoodKd b r xs.reverse m2 := ⟨g.b2, g.b12, g.r1, g.r4, g.pw, hm.1, hm.2, by rw [List.length_reverse]; exact g.n1, by rw [List.length_reverse]; exact g.n8, (List.reverse_perm xs).nodup_iff.mpr g.nd, fun x hx => g.ok x (List.mem_reverse.mp hx)⟩
end SY

set_option Elab.async false
set_option linter.all false
set_option maxRecDepth 100000
/-! SYq: while; owned lists of anything; pools; what is owned told otherwise. -/
namespace SY
open PySem PySem.Spec L2 SX
section
variable {E : XK} {K : PySem.W.Frag} {te ta tb : TE} {tc tt : TT} {tA tr : TA} {δ δ' : En} {μ μ' μ1 μ2 rest : Mp} {Q P1 : Pr} {u t : TS} {P : PY} {Ps : List Pr} {ad : Addr} {i : Int}
theorem s_while (Iv : Nat → En → Mp → Prop) (m0 : Nat) (h0 : Iv m0 δ μ)
    (hs : ∀ m δ' μ', Iv m δ' μ' → ∃ b μ2, T1 tc δ' μ' b μ2 ∧ (b = true → S1 E t δ' μ2 { P with nx := fun δ2 μ2 => ∃ m', m' < m ∧ Iv m' δ2 μ2, ct := fun δ2 μ2 => ∃ m', m' < m ∧ Iv m' δ2 μ2, bk := P.nx }) ∧ (b = false → P.nx δ' μ2)) : S1 E (tWhile tc t) δ μ P := fun σ G M s mm G1 H F D e m1 hd => by
  refine ⟨fun m σ' H' => ∃ G' M' δ' μ', Iv m δ' μ' ∧ Ex G1 G' ∧ Me G' (M' ++ F) H' ∧ Sl G' σ' δ' ∧ Mm G' M' μ', ⟨m0, G1, M, δ, μ, h0, Ex.refl _, m1, s.mono e, mm.mono e⟩, ?_⟩
  rintro m σ' H' ⟨G', M', δ', μ', ii, e', m', s', r'⟩
  obtain ⟨b, μ2, ht, h1, h2⟩ := hs m δ' μ' ii
  refine ht σ' G' M' s' r' G' H' F (Ex.refl _) m' _ fun G2 M2 H2 e2 m2 r2 => ?_
  cases b with
  | true =>
    rw [if_pos rfl]
    refine ⟨fun σ3 H3 => ∃ m', m' < m ∧ ∃ G' M' δ' μ', Iv m' δ' μ' ∧ Ex G1 G' ∧ Me G' (M' ++ F) H3 ∧ Sl G' σ3 δ' ∧ Mm G' M' μ', fun _ _ z => z, ?_⟩
    refine h1 rfl σ' G2 M2 (s'.mono e2) r2 G2 H2 F _ (Ex.refl _) m2 ⟨?_, ?_, ?_, ?_, ?_⟩
    · exact fun σ2 G3 M3 H3 e3 m3 ⟨x, y, ⟨k, l, n1⟩, n2, n3⟩ => ⟨k, l, G3, M3, x, y, n1, (e'.trans e2).trans e3, m3, n2, n3⟩
    · exact fun v G3 M3 H3 e3 m3 r => hd.rt v G3 M3 H3 ((e'.trans e2).trans e3) m3 r
    · exact fun v G3 M3 H3 e3 m3 r => hd.nx v G3 M3 H3 ((e'.trans e2).trans e3) m3 r
    · exact fun σ2 G3 M3 H3 e3 m3 ⟨x, y, ⟨k, l, n1⟩, n2, n3⟩ => ⟨k, l, G3, M3, x, y, n1, (e'.trans e2).trans e3, m3, n2, n3⟩
    · exact fun c v G3 M3 H3 e3 m3 r => hd.ex c v G3 M3 H3 ((e'.trans e2).trans e3) m3 r
  | false =>
    rw [if_neg Bool.false_ne_true]
    exact hd.nx σ' G2 M2 H2 (e'.trans e2) m2 ⟨δ', μ2, h2 rfl, s'.mono e2, r2⟩
/-- what is owned, told otherwise -/
def Mi (μ μ' : Mp) : Prop := ∀ G M, Mm G M μ → Mm G M μ'
theorem Mi.refl : Mi μ μ := fun _ _ h => h
theorem Mi.cons {a : Addr} {o o' : Ob} (h : ∀ G x, o.p G x → o'.p G x) (i : Mi μ μ') : Mi ((a, o) :: μ) ((a, o') :: μ') := fun G M m => by
  match M, m with
  | _ :: M, ⟨⟨h1, h2⟩, h3⟩ => exact ⟨⟨h1, h _ _ h2⟩, i G M h3⟩
theorem Mi.same {x : Addr × Ob} (i : Mi μ μ') : Mi (x :: μ) (x :: μ') := Mi.cons (fun _ _ h => h) i
theorem s_mem (i : Mi μ μ') (h : S1 E t δ μ' P) : S1 E t δ μ P := fun σ G M s mm => h σ G M s (i G M mm)
theorem E1.mem (h : E1 te δ μ Q μ1) (i : Mi μ1 μ2) : E1 te δ μ Q μ2 := fun σ G M s m => (h σ G M s m).imp fun G1 v M1 _ r => ⟨r.1, i _ _ r.2⟩
/-! owned lists of anything -/
def OLP (Ps : List Pr) : Ob := ⟨fun G o => ∃ vs, o = .lst vs ∧ AP G Ps vs, fun _ _ _ e h => by obtain ⟨vs, h1, h2⟩ := h; exact ⟨vs, h1, AP.mono h2 e⟩⟩
theorem olp_nil {G : Hp} {o : HO} (h : (OL K []).p G o) : (OLP []).p G o := by
  obtain ⟨vs, h1, h2⟩ := h
  cases h2
  exact ⟨[], h1, trivial⟩
theorem e_appendP (n : Nat) (h : E1 te δ μ (Av ad) μ) (h2 : E1 ta δ μ Q μ1) (hl0 : ∃ (n' : Nat) (Ps' : List Pr), μ[n']? = some (ad, OLP Ps')) (hl : μ1[n]? = some (ad, OLP Ps)) (hz : Ps.length ≤ 100000) :
    E1 (tBM K "list" rAppend te (tCons ta tNil)) δ μ (D K .none) (μ1.set n (ad, OLP (Ps ++ [Q]))) := fun σ G M s m G1 H F e m1 q z =>
  h σ G M s m G1 H F e m1 _ fun v G2 M2 H2 e2 m2 r2 => by
    have hv : v = .ref ad := r2.1
    subst hv
    obtain ⟨n', ds', hn'⟩ := hl0
    obtain ⟨o, h5, xs, rfl, h6⟩ := r2.2.get hn'
    refine ⟨.inl ⟨rfl, xs, SqL.of (m2.getF h5)⟩, h2 σ G2 M2 (s.mono (e.trans e2)) r2.2 G2 H2 F (Ex.refl _) m2 _ fun y G3 M3 H3 e3 m3 r3 => ?_⟩
    obtain ⟨o, h7, ys, rfl, h8⟩ := r3.2.get hl
    refine ⟨ad, ys, y, rfl, rfl, m3.getF h7, sz_ok (by rw [AP.len h8]; exact hz), z _ G3 _ _ (e2.trans e3) (m3.putF h7) ⟨.non, Mm.set ?_ r3.2 hl⟩⟩
    exact ⟨_, rfl, AP.snoc h8 r3.1⟩
theorem e_ixOLP (n : Nat) (h1 : E1 ta δ μ (Av ad) μ1) (h2 : E1 tb δ μ1 (D K (.int i)) μ2) (hl : μ2[n]? = some (ad, OLP Ps)) (hx : atI Ps i = some Q) : E1 (tOp (rIxL K) ta tb) δ μ Q μ2 :=
  e_op h1 h2 fun G H F M x y m mm p1 p2 q z => by
    rw [dp_int p2]
    have hv : x = .ref ad := p1
    subst hv
    obtain ⟨o, h3, vs, rfl, h4⟩ := mm.get hl
    obtain ⟨v, h5, h6⟩ := ixLp h4 hx
    exact ⟨ad, vs, i, v, rfl, rfl, SqL.of (m.getF h3), h5, z _ G M H (Ex.refl _) m h6 mm⟩
theorem ap_set {G : Hp} {v : V} (hv : Q.p G v) : ∀ {Ps : List Pr} {vs : List V} {j : Nat}, AP G Ps vs → AP G (Ps.set j Q) (vs.set j v)
  | [], [], _, _ => trivial
  | _ :: _, _ :: _, 0, h => ⟨hv, h.2⟩
  | _ :: _, _ :: _, j + 1, h => ⟨h.1, ap_set hv (j := j) h.2⟩
  | [], _ :: _, _, h => h.elim
  | _ :: _, [], _, h => h.elim
theorem s_setOLP {tx ti : TE} {n : Nat} (h : E1 te δ μ Q μ1) (h1 : E1 tx δ μ1 (Av ad) μ1) (h2 : E1 ti δ μ1 (D K (.int i)) μ1) (hl : μ1[n]? = some (ad, OLP Ps)) (hi : 0 ≤ i ∧ i < Ps.length) (k' : P.nx δ (μ1.set n (ad, OLP (Ps.set i.toNat Q)))) : S1 E (tAsg te (gSub tx ti rSetL)) δ μ P := fun σ G M s m G1 H F DD e m1 hd =>
  h σ G M s m G1 H F e m1 _ fun v G2 M2 H2 e2 m2 r2 => h1 σ G2 M2 (s.mono (e.trans e2)) r2.2 G2 H2 F (Ex.refl _) m2 _ fun x G3 M3 H3 e3 m3 r3 => h2 σ G3 M3 (s.mono ((e.trans e2).trans e3)) r3.2 G3 H3 F (Ex.refl _) m3 _ fun y G4 M4 H4 e4 m4 r4 => by
    have hx : x = .ref ad := r3.1
    subst hx
    rw [dp_int r4.1]
    obtain ⟨o, h5, xs, rfl, h6⟩ := r4.2.get hl
    have hxl := AP.len h6
    have hj : ixN xs.length i = some i.toNat := by
      unfold ixN
      rw [if_pos hi.1, if_pos (by rw [hxl]; exact hi.2)]
    refine ⟨ad, xs, i, i.toNat, rfl, rfl, m4.getF h5, hj, hd.nx _ G4 _ _ ((e2.trans e3).trans e4) (m4.putF h5) ⟨_, _, k', s.mono (((e.trans e2).trans e3).trans e4), Mm.set ?_ r4.2 hl⟩⟩
    exact ⟨_, rfl, ap_set (Q.m _ _ _ (e3.trans e4) r2.1) h6⟩
theorem s_frzP {μa μb : Mp} (k : Nat) (hk : δ[k]? = some (some (Av ad))) (h : S1 E t (δ.set k (some (Lp Ps))) (μa ++ μb) P) : S1 E t δ (μa ++ (ad, OLP Ps) :: μb) P := fun σ G M s m => by
  obtain ⟨Ma, Mb', rfl, ma, mb⟩ := Mm.cut m
  obtain ⟨⟨p, o⟩, Mb, rfl⟩ : ∃ x y, Mb' = x :: y := by
    match Mb', mb with
    | x :: y, _ => exact ⟨x, y, rfl⟩
  obtain ⟨⟨h1, xs, rfl, h2⟩, mb⟩ := mb
  have h1 : p = ad := h1
  subst h1
  intro G1 H F D e m1 hd
  rw [List.append_assoc] at m1
  obtain ⟨m3, e3⟩ := m1.freezeMid
  have e13 := e.trans e3
  refine h σ _ (Ma ++ Mb) ⟨by simp [s.1], fun j q hj => ?_⟩ (Mm.app (ma.mono e13) (mb.mono e13)) _ H F D (Ex.refl _) (by rw [List.append_assoc]; exact m3) (hd.up e3)
  rw [List.getElem?_set] at hj
  split at hj
  · rename_i hkj
    subst hkj
    split at hj
    · cases hj
      obtain ⟨v, hv, hp⟩ := s.get hk
      have hp : v = .ref p := hp
      subst hp
      exact ⟨_, hv, p, xs, rfl, upd_same, AP.mono h2 e13⟩
    · cases hj
  · obtain ⟨v, hv, hp⟩ := s.get hj
    exact ⟨v, hv, q.m _ _ _ e13 hp⟩
/-! len(set(ints)) -/
theorem e_lenSetI {ns : List Int} (h : E1 ta δ μ P1 μ1) (hl : LR K P1 μ1 (ns.map .int)) (hn : ns.length < 64) (hd : ns.Nodup) : E1 (tLenSetI K ta) δ μ (D K (.int (ns.length : Int))) μ1 := fun σ G M s m G1 H F e m1 q z =>
  h σ G M s m G1 H F e m1 _ fun v G2 M2 H2 e2 m2 r2 => by
    obtain ⟨a, vs, rfl, h3, h4⟩ := hl.at G2 v M2 F H2 r2.1 r2.2 m2
    rw [dpAll_ints h4] at h3
    exact ⟨a, ns, rfl, h3, hn, hd, z _ G2 M2 H2 e2 m2 ⟨.int _, r2.2⟩⟩
end
/-! pools: as a deck, another mixing -/
def mix2 (b c : Int) : Int := ((((b + 7919 * c * c) % 2147483647 * 48271 + 101 * c) % 2147483629) * (((b + 7919 * c * c) % 2147483647 * 48271 + 101 * c) % 2147483629) + 16807 * c) % 2147483587
def dv2 (D : Deck) (n : Int) : Int := if D.a > 0 then D.a % n else (mix2 D.b (D.c + 1) / 32) % n
def dn2 (D : Deck) (n : Int) : Deck := if D.a > 0 then ⟨D.a / n, D.b, D.c⟩ else ⟨D.a, D.b, D.c + 1⟩
theorem dv2_lo {D : Deck} {n : Int} (h : 0 < n) : 0 ≤ dv2 D n := by
  unfold dv2
  split <;> exact Int.emod_nonneg _ (by omega)
theorem dv2_hi {D : Deck} {n : Int} (h : 0 < n) : dv2 D n < n := by
  unfold dv2
  split <;> exact Int.emod_lt_of_pos _ h
def DKb (k : Nat) (D : Deck) : Ob := ⟨fun _ o => o = D.ho ∧ 0 ≤ D.c ∧ D.c ≤ k, fun _ _ _ _ h => h⟩
theorem dkb_up {k k' : Nat} {D : Deck} (h : k ≤ k') {G : Hp} {o : HO} (p : (DKb k D).p G o) : (DKb k' D).p G o := ⟨p.1, p.2.1, by have := p.2.2; omega⟩
abbrev drawPre2 : (Addr × Nat × Deck × Int) → Hp → Mem → List V → Prop := fun x G M vs => vs = [.ref x.1, .int x.2.2.2] ∧ 0 < x.2.2.2 ∧ x.2.2.2 < 2 ^ 200 ∧ (0 ≤ x.2.2.1.c ∧ x.2.2.1.c < 2 ^ 60) ∧ M[x.2.1]? = some (x.1, x.2.2.1.ho)
abbrev drawPost2 : (Addr × Nat × Deck × Int) → Mem → Post := fun x M => isV (.int (dv2 x.2.2.1 x.2.2.2)) (M.set x.2.1 (x.1, (dn2 x.2.2.1 x.2.2.2).ho))
section
variable {E : XK} {K : PySem.W.Frag} {te : TE} {tA : TA} {δ : En} {μ μ' rest : Mp} {dk : Addr} {Dk : Deck} {n : Int} {k : Nat}
theorem e_draw2 (h : EA tA δ μ [Av dk, D K (.int n)] ((dk, DKb k Dk) :: rest)) (hn : 0 < n ∧ n < 2 ^ 200) (hk : k < 2 ^ 50) : E1 (tCall (spec drawPre2 drawPost2) [] E tA) δ μ (D K (.int (dv2 Dk n))) ((dk, DKb (k + 1) (dn2 Dk n)) :: rest) := fun σ G M s mm =>
  ev_callO h s mm fun G M vs a m2 => by
    obtain ⟨v, w, rfl, p1, p2⟩ := allP2 a
    match M, m2 with
    | (b, o) :: M0, ⟨⟨h1, h2, h3, h4⟩, m3⟩ =>
    have h1 : b = dk := h1
    have h2 : o = Dk.ho := h2
    subst h1 h2
    have p1 : v = .ref b := p1
    subst p1
    refine ⟨(b, 0, Dk, n), ⟨by rw [dp_int p2], hn.1, hn.2, ⟨h3, by show Dk.c < 2 ^ 60; omega⟩, rfl⟩, ?_⟩
    rintro G' v' M' e ⟨rfl, rfl⟩
    refine ⟨.int _, ⟨⟨rfl, rfl, ?_⟩, m3.mono e⟩⟩
    unfold dn2
    split <;> dsimp only <;> omega
theorem EO.pool {a b : Int} (h : EO K te δ μ [.int a, .int b, .int 0] μ') : EY te δ μ (fun P μ2 => ∃ ad, P = Av ad ∧ μ2 = μ' ++ [(ad, DKb 0 ⟨a, b, 0⟩)]) := fun σ G M s m => (h σ G M s m).imp fun G1 v M1 _ r => by
  obtain ⟨p, vs, M0, rfl, rfl, r1, r2⟩ := r
  have := dpAll_ints (ns := [a, b, 0]) r1
  subst this
  exact ⟨Av p, _, ⟨p, rfl, rfl⟩, rfl, Mm.app r2 ⟨⟨rfl, rfl, Int.le_refl 0, Int.le_refl 0⟩, trivial⟩⟩
end
end SY
namespace SY
open PySem PySem.Spec L2 SX
/-- a pool first; at most so many draws -/
abbrev spK2 {α : Type} (A : α → List Pr) (pre : α → Prop) (N0 : α → Nat) (D0 : α → Deck) (B : α → Pr) (Nc : α → Nat) (D1 : α → Deck) : Sp := sp (fun x : Addr × α => Av x.1 :: A x.2) (fun x => [(x.1, DKb (N0 x.2) (D0 x.2))]) (fun x => pre x.2 ∧ N0 x.2 + Nc x.2 ≤ 2 ^ 49) (fun x Q μ => Q = B x.2 ∧ μ = [(x.1, DKb (N0 x.2 + Nc x.2) (D1 x.2))])
theorem e_callK2 {E : XK} {tA : TA} {δ : En} {μ rest : Mp} {ad : Addr} {α : Type} {A : α → List Pr} {pre : α → Prop} {N0 Nc : α → Nat} {D0 D1 : α → Deck} {B : α → Pr} (x : α) (h : EA tA δ μ (Av ad :: A x) ((ad, DKb (N0 x) (D0 x)) :: rest)) (hp : pre x ∧ N0 x + Nc x ≤ 2 ^ 49) : E1 (tCall (spK2 A pre N0 D0 B Nc D1) [] E tA) δ μ (B x) ((ad, DKb (N0 x + Nc x) (D1 x)) :: rest) :=
  ((y_call (A := fun x : Addr × α => Av x.1 :: A x.2) (m := fun x => [(x.1, DKb (N0 x.2) (D0 x.2))]) (pre := fun x => pre x.2 ∧ N0 x.2 + Nc x.2 ≤ 2 ^ 49) (R := fun x Q μ => Q = B x.2 ∧ μ = [(x.1, DKb (N0 x.2 + Nc x.2) (D1 x.2))]) (ad, x) h hp).imp fun Q μ' r => by
  obtain ⟨_, ⟨rfl, rfl⟩, rfl⟩ := r
  exact ⟨rfl, rfl⟩).one
theorem mi_up {k k' : Nat} {D : Deck} {ad : Addr} {μ : Mp} (h : k ≤ k') : Mi ((ad, DKb k D) :: μ) ((ad, DKb k' D) :: μ) := Mi.cons (fun _ _ p => dkb_up h p) Mi.refl
/-! what is like itself -/
def okAl : Nat → PyData → Bool
  | 0, _ => false
  | _ + 1, .none => true
  | _ + 1, .int _ => true
  | _ + 1, .str _ => true
  | n + 1, .list ds => decide (ds.length ≤ 1000) && ds.all (okAl n)
  | n + 1, .tuple ds => decide (ds.length ≤ 1000) && ds.all (okAl n)
  | _ + 1, _ => false
abbrev spAl (K : PySem.W.Frag) (n : Nat) : Sp := spD (fun (d : PyData) => [D K d, D K d]) (fun d => okAl n d = true ∧ SeqAt.shaped d = true) (fun _ => D K (.bool true))
/-! cells -/
def cellsN (ns : List Int) (first most : Int) : Int := if (ns.length : Int) - first < 1 then 0 else if (ns.length : Int) - first > most then most else (ns.length : Int) - first
def cellAt (ns : List Int) (k : Int) : Int := if k < ns.length then ns.getD k.toNat 0 else 0
def cellPos (c : Int) : Int := if c < 0 then 1 - 2 * c else c
def poolL (ns : List Int) (k : Int) : List PyData := [.int (if cellPos (cellAt ns k) ≥ 10 ^ 18 then cellPos (cellAt ns k) else 0), .int (cellPos (cellAt ns k) % 2147483629 + 9973 * k + 11), .int 0]
/-! the deeds of a kind, drawn -/
def wordsL : List Str := ["forget", "again", "off", "read", "copy", "swap", "out", "twice"]
def rowOf (rest : List Deed) (w : Str) : List Deed := if (rest.filter fun x => decide (x.word = w)).length = 0 then rest else rest.filter fun x => decide (x.word = w)
def chosenS (rest0 : List Deed) (Dk : Deck) : Nat → List Deed × List Deed × Deck
  | 0 => ([], rest0, Dk)
  | n + 1 =>
    let t := chosenS rest0 Dk n
    let row := rowOf t.2.1 (wordsL.getD (dv2 t.2.2 8).toNat "")
    let d := row.getD (dv2 (dn2 t.2.2 8) row.length).toNat .right
    (t.1 ++ [d], t.2.1.filter fun x => !decide (x = d), dn2 (dn2 t.2.2 8) row.length)
theorem rowOf_sub {rest : List Deed} {w : Str} {x : Deed} (h : x ∈ rowOf rest w) : x ∈ rest := by
  unfold rowOf at h
  split at h
  · exact h
  · exact (List.mem_filter.mp h).1
theorem rowOf_pos {rest : List Deed} {w : Str} (h : 1 ≤ rest.length) : 1 ≤ (rowOf rest w).length := by
  unfold rowOf
  split <;> omega
theorem rowOf_len {rest : List Deed} {w : Str} : (rowOf rest w).length ≤ rest.length := by
  unfold rowOf
  split
  · exact Nat.le_refl _
  · exact List.length_filter_le _ _
theorem filt_ne_len {α : Type} [DecidableEq α] {d : α} : ∀ {l : List α}, l.Nodup → d ∈ l → (l.filter fun x => !decide (x = d)).length + 1 = l.length
  | x :: l, hn, hm => by
    have hn := List.nodup_cons.mp hn
    by_cases h : x = d
    · subst h
      have : (l.filter fun y => !decide (y = x)) = l := List.filter_eq_self.mpr fun y hy => by
        simp only [Bool.not_eq_true', decide_eq_false_iff_not]
        intro e
        subst e
        exact hn.1 hy
      rw [List.filter_cons_of_neg (by simp), this]
      rfl
    · have hd : d ∈ l := (List.mem_cons.mp hm).resolve_left fun e => h e.symm
      rw [List.filter_cons_of_pos (by simp [h]), List.length_cons, List.length_cons, filt_ne_len hn.2 hd]
theorem chosenS_ok {rest0 : List Deed} {Dk : Deck} (hn : rest0.Nodup) : ∀ n, n ≤ rest0.length → (chosenS rest0 Dk n).1.length = n ∧ (chosenS rest0 Dk n).2.1.length + n = rest0.length ∧ (chosenS rest0 Dk n).1.Nodup ∧ (∀ x ∈ (chosenS rest0 Dk n).1, x ∈ rest0) ∧ (chosenS rest0 Dk n).2.1.Nodup ∧ (∀ x ∈ (chosenS rest0 Dk n).2.1, x ∈ rest0 ∧ x ∉ (chosenS rest0 Dk n).1)
  | 0, _ => ⟨rfl, rfl, List.nodup_nil, fun x hx => (by cases hx), hn, fun x hx => ⟨hx, fun h => by cases h⟩⟩
  | n + 1, h => by
    obtain ⟨h1, h2, h3, h4, h5, h6⟩ := chosenS_ok (Dk := Dk) hn n (by omega)
    unfold chosenS
    dsimp only
    generalize (chosenS rest0 Dk n).1 = cs at h1 h3 h4 h6 ⊢
    generalize (chosenS rest0 Dk n).2.1 = rs at h2 h5 h6 ⊢
    generalize (chosenS rest0 Dk n).2.2 = D
    generalize wordsL.getD (dv2 D 8).toNat "" = w
    have hp := rowOf_pos (rest := rs) (w := w) (by omega)
    have hk0 : 0 ≤ dv2 (dn2 D 8) (rowOf rs w).length := dv2_lo (by omega)
    have hk1 : dv2 (dn2 D 8) (rowOf rs w).length < (rowOf rs w).length := dv2_hi (by omega)
    have hk : (dv2 (dn2 D 8) (rowOf rs w).length).toNat < (rowOf rs w).length := by omega
    generalize (dv2 (dn2 D 8) (rowOf rs w).length).toNat = k at hk
    have hd : (rowOf rs w).getD k .right ∈ rs := by
      rw [List.getD_eq_getElem?_getD, List.getElem?_eq_getElem hk, Option.getD_some]
      exact rowOf_sub (List.getElem_mem hk)
    generalize (rowOf rs w).getD k .right = d at hd
    have hl := filt_ne_len h5 hd
    obtain ⟨hd1, hd2⟩ := h6 d hd
    refine ⟨by simp [h1], by omega, List.nodup_append.mpr ⟨h3, by simp, fun x hx y hy e => ?_⟩, fun x hx => ?_, h5.filter _, fun x hx => ?_⟩
    · have hy : y = d := by simpa using hy
      subst e hy
      exact hd2 hx
    · rcases List.mem_append.mp hx with hx | hx
      · exact h4 x hx
      · have hx : x = d := by simpa using hx
        rw [hx]
        exact hd1
    · rw [List.mem_filter, Bool.not_eq_true', decide_eq_false_iff_not] at hx
      refine ⟨(h6 x hx.1).1, fun z => ?_⟩
      rcases List.mem_append.mp z with z | z
      · exact (h6 x hx.1).2 z
      · exact hx.2 (by simpa using z)
/-! divisors, drawn -/
def lotS (rest0 : List Int) (Dk : Deck) : Nat → List Int × List Int × Deck
  | 0 => ([], rest0, Dk)
  | n + 1 =>
    let t := lotS rest0 Dk n
    let d := t.2.1.getD (dv2 t.2.2 t.2.1.length).toNat 0
    (t.1 ++ [d], t.2.1.filter fun x => !decide (x = d), dn2 t.2.2 t.2.1.length)
theorem lotS_ok {rest0 : List Int} {Dk : Deck} (hn : rest0.Nodup) : ∀ n, n ≤ rest0.length → (lotS rest0 Dk n).1.length = n ∧ (lotS rest0 Dk n).2.1.length + n = rest0.length ∧ (lotS rest0 Dk n).1.Nodup ∧ (∀ x ∈ (lotS rest0 Dk n).1, x ∈ rest0) ∧ (lotS rest0 Dk n).2.1.Nodup ∧ (∀ x ∈ (lotS rest0 Dk n).2.1, x ∈ rest0 ∧ x ∉ (lotS rest0 Dk n).1)
  | 0, _ => ⟨rfl, rfl, List.nodup_nil, fun x hx => (by cases hx), hn, fun x hx => ⟨hx, fun h => by cases h⟩⟩
  | n + 1, h => by
    obtain ⟨h1, h2, h3, h4, h5, h6⟩ := lotS_ok (Dk := Dk) hn n (by omega)
    unfold lotS
    dsimp only
    generalize (lotS rest0 Dk n).1 = cs at h1 h3 h4 h6 ⊢
    generalize (lotS rest0 Dk n).2.1 = rs at h2 h5 h6 ⊢
    generalize (lotS rest0 Dk n).2.2 = D
    have hk0 : 0 ≤ dv2 D rs.length := dv2_lo (by omega)
    have hk1 : dv2 D rs.length < rs.length := dv2_hi (by omega)
    have hk : (dv2 D rs.length).toNat < rs.length := by omega
    generalize (dv2 D rs.length).toNat = k at hk
    have hd : rs.getD k 0 ∈ rs := by
      rw [List.getD_eq_getElem?_getD, List.getElem?_eq_getElem hk, Option.getD_some]
      exact List.getElem_mem hk
    generalize rs.getD k 0 = d at hd
    have hl := filt_ne_len h5 hd
    obtain ⟨hd1, hd2⟩ := h6 d hd
    refine ⟨by simp [h1], by omega, List.nodup_append.mpr ⟨h3, by simp, fun x hx y hy e => ?_⟩, fun x hx => ?_, h5.filter _, fun x hx => ?_⟩
    · have hy : y = d := by simpa using hy
      subst e hy
      exact hd2 hx
    · rcases List.mem_append.mp hx with hx | hx
      · exact h4 x hx
      · have hx : x = d := by simpa using hx
        rw [hx]
        exact hd1
    · rw [List.mem_filter, Bool.not_eq_true', decide_eq_false_iff_not] at hx
      refine ⟨(h6 x hx.1).1, fun z => ?_⟩
      rcases List.mem_append.mp z with z | z
      · exact (h6 x hx.1).2 z
      · exact hx.2 (by simpa using z)
/-! a kind, drawn -/
def downN (b : Int) : Nat → Nat
  | 0 => 0
  | n + 1 => if b ^ (n + 1) ≤ 1000 then n + 1 else downN b n
theorem downN_ok {b : Int} (hb : 2 ≤ b ∧ b ≤ 12) : ∀ n, 1 ≤ n → 1 ≤ downN b n ∧ downN b n ≤ n ∧ b ^ downN b n ≤ 1000
  | 0, h => by omega
  | 1, _ => by
    have : downN b 1 = 1 := by
      unfold downN
      rw [if_pos (by rw [show b ^ (0 + 1) = b from Int.pow_succ _ 0 |>.trans (by simp)]; omega)]
    rw [this]
    exact ⟨Nat.le_refl _, Nat.le_refl _, by rw [show b ^ 1 = b from Int.pow_succ _ 0 |>.trans (by simp)]; omega⟩
  | n + 2, _ => by
    have ih := downN_ok hb (n + 1) (by omega)
    unfold downN
    split
    · rename_i h
      exact ⟨by omega, by omega, h⟩
    · exact ⟨ih.1, by omega, ih.2.2⟩
def kB (Dk : Deck) : Int := 2 + dv2 Dk 11
def kR (Dk : Deck) : Int := (downN (kB Dk) (1 + dv2 (dn2 Dk 11) 4).toNat : Nat)
def kC (Dk : Deck) : List Deed × List Deed × Deck := chosenS (allDeeds (kB Dk) (kR Dk)) (dn2 (dn2 (dn2 Dk 11) 4) 8) (1 + dv2 (dn2 (dn2 Dk 11) 4) 8).toNat
def kM (Dk : Deck) : Int := 1 + dv2 (kC Dk).2.2 3
def kDk (Dk : Deck) : Deck := dn2 (kC Dk).2.2 3
theorem kind_ok (Dk : Deck) : GoodKd (kB Dk) (kR Dk) (kC Dk).1 (kM Dk) := by
  have b0 : 0 ≤ dv2 Dk 11 := dv2_lo (by decide)
  have b1 : dv2 Dk 11 < 11 := dv2_hi (by decide)
  have r0 : 0 ≤ dv2 (dn2 Dk 11) 4 := dv2_lo (by decide)
  have r1 : dv2 (dn2 Dk 11) 4 < 4 := dv2_hi (by decide)
  have n0 : 0 ≤ dv2 (dn2 (dn2 Dk 11) 4) 8 := dv2_lo (by decide)
  have n1 : dv2 (dn2 (dn2 Dk 11) 4) 8 < 8 := dv2_hi (by decide)
  have m0 : 0 ≤ dv2 (kC Dk).2.2 3 := dv2_lo (by decide)
  have m1 : dv2 (kC Dk).2.2 3 < 3 := dv2_hi (by decide)
  have hb : 2 ≤ kB Dk ∧ kB Dk ≤ 12 := by unfold kB; omega
  have hd := downN_ok hb (1 + dv2 (dn2 Dk 11) 4).toNat (by omega)
  have hr : 1 ≤ kR Dk ∧ kR Dk ≤ 4 := by unfold kR; omega
  have hp : kB Dk ^ (kR Dk).toNat ≤ 1000 := by unfold kR; rw [Int.toNat_natCast]; exact hd.2.2
  have h8 := allDeeds_lo hb hr
  obtain ⟨h1, h2, h3, h4, _⟩ := chosenS_ok (Dk := dn2 (dn2 (dn2 Dk 11) 4) 8) (allDeeds_nodup (kB Dk) (kR Dk)) (1 + dv2 (dn2 (dn2 Dk 11) 4) 8).toNat (by omega)
  have h1 : (kC Dk).1.length = (1 + dv2 (dn2 (dn2 Dk 11) 4) 8).toNat := h1
  exact ⟨hb.1, hb.2, hr.1, hr.2, hp, by unfold kM; omega, by unfold kM; omega, by omega, by omega, h3, h4⟩
/-- the numbers from 2 on -/
def from2 (top : Int) : List Int := (List.range (top + 1 - 2).toNat).map fun (n : Nat) => 2 + (n : Int)
theorem from2_ok {top : Int} : (from2 top).Nodup ∧ (from2 top).length = (top - 1).toNat ∧ ∀ x ∈ from2 top, 2 ≤ x ∧ x ≤ top := by
  refine ⟨?_, ?_, fun x hx => ?_⟩
  · unfold from2 List.Nodup
    rw [List.pairwise_map]
    exact List.Pairwise.imp (fun h => by omega) List.nodup_range
  · unfold from2
    rw [List.length_map, List.length_range]
    omega
  · obtain ⟨n, hn, rfl⟩ := List.mem_map.mp hx
    have := List.mem_range.mp hn
    omega
structure GoodLot (xs : List Int) : Prop where
  nd : xs.Nodup
  lo : ∀ x ∈ xs, 2 ≤ x
  len : xs.length ≤ 60
end SY
namespace SY
open PySem PySem.Spec L2 SX
section
variable {E : XK} {K : PySem.W.Frag} {ta tb : TE} {δ : En} {μ μ1 μ2 : Mp} {ds : List PyData} {d : PyData} {i : Int}
theorem e_ixSL (h1 : E1 ta δ μ (D K (.list ds)) μ1) (h2 : E1 tb δ μ1 (D K (.int i)) μ2) (hx : atI ds i = some d) : E1 (tOp (rIx K) ta tb) δ μ (D K d) μ2 :=
  e_op h1 h2 fun G H F M x y m mm p1 p2 Q q => by
    rw [dp_int p2]
    obtain ⟨a, vs, rfl, h3, h4⟩ := dp_lst p1
    obtain ⟨v, h5, h6⟩ := dpa_ix h4 hx
    exact .inl ⟨a, vs, i, v, rfl, rfl, ex_l m.ex h3, h5, q _ G M H (Ex.refl _) m h6 mm⟩
theorem e_ixST (h1 : E1 ta δ μ (D K (.tuple ds)) μ1) (h2 : E1 tb δ μ1 (D K (.int i)) μ2) (hx : atI ds i = some d) : E1 (tOp (rIx K) ta tb) δ μ (D K d) μ2 :=
  e_op h1 h2 fun G H F M x y m mm p1 p2 Q q => by
    rw [dp_int p2]
    obtain ⟨a, vs, rfl, h3, h4⟩ := dp_tup p1
    obtain ⟨v, h5, h6⟩ := dpa_ix h4 hx
    exact .inr (.inl ⟨a, vs, i, v, rfl, rfl, ex_t m.ex h3, h5, q _ G M H (Ex.refl _) m h6 mm⟩)
end
end SY
namespace SY
open PySem PySem.Spec L2 SX
def kd4 (Dk : Deck) : PyData := .tuple [.int (kB Dk), .int (kR Dk), .list ((kC Dk).1.map deedD), .int (kM Dk)]
end SY
namespace SY
open PySem PySem.Spec L2 SX
theorem T1.le {tt : TT} {δ δ' : En} {μ μ' : Mp} {b : Bool} (h : T1 tt δ' μ b μ') (l : Le δ δ') : T1 tt δ μ b μ' := fun σ G M s m => h σ G M (s.le l) m
theorem downN_hi {b : Int} {n : Nat} (h : ¬ b ^ (n + 1) ≤ 1000) : downN b (n + 1) = downN b n := by
  rw [downN, if_neg h]
theorem downN_at {b : Int} {n : Nat} (h : b ^ (n + 1) ≤ 1000) : downN b (n + 1) = n + 1 := by
  rw [downN, if_pos h]
end SY
namespace SY
open PySem PySem.Spec L2 SX
/-! steps -/
def copyRow : Deed → Int
  | .copy j => j
  | _ => 0
def copiedOf (ds : List Deed) : List Int := (ds.filter fun x => decide (x.word = ("copy" : Str))).map copyRow
def stF (K : PySem.W.Frag) (b m : Int) (cp lot : List Int) : FsQ := [("_base", D K (.int b)), ("_most", D K (.int m)), ("_copied", D K (.list (cp.map .int))), ("_lot", D K (.list (lot.map .int)))]
def StP (K : PySem.W.Frag) (C : Addr) (b m : Int) (cp lot : List Int) : Pr := ObP C (stF K b m cp lot)
def startD (m : Int) (lot : List Int) : PyData := .tuple [.int m, .none, .none, .int 0, .int 0, .int 0, .tuple (lot.map fun _ => .tuple [.int 0, .int 1, .int 1])]
end SY
namespace SY
open PySem PySem.Spec L2 SX
def isDivD : PyData → Bool
  | .int i => decide (2 ≤ i)
  | _ => false
end SY
namespace SY
open PySem PySem.Spec L2 SX
theorem Mm.perm {G : Hp} {μ' μ : Mp} (h : μ'.Perm μ) : ∀ {M : Mem}, Mm G M μ → ∃ M' : Mem, M'.Perm M ∧ Mm G M' μ' := by
  induction h with
  | nil => exact fun h => ⟨_, List.Perm.refl _, h⟩
  | cons x _ ih =>
    intro M h
    match M, h with
    | m :: M, ⟨h1, h2⟩ =>
      obtain ⟨M', h3, h4⟩ := ih h2
      exact ⟨m :: M', h3.cons m, h1, h4⟩
  | swap x y l =>
    intro M h
    match M, h with
    | a :: b :: M, ⟨h1, h2, h3⟩ => exact ⟨b :: a :: M, List.Perm.swap _ _ _, h2, h1, h3⟩
  | trans _ _ ih1 ih2 =>
    intro M h
    obtain ⟨M1, h1, h2⟩ := ih2 h
    obtain ⟨M2, h3, h4⟩ := ih1 h2
    exact ⟨M2, h3.trans h1, h4⟩
theorem s_perm {E : XK} {t : TS} {δ : En} {μ μ' : Mp} {P : PY} (hp : μ'.Perm μ) (h : S1 E t δ μ' P) : S1 E t δ μ P := fun σ G M s mm G1 H F D e m1 hd => by
  obtain ⟨M', h1, h2⟩ := Mm.perm hp mm
  exact h σ G M' s h2 G1 H F D e (m1.perm (h1.append_right F)) hd
theorem s_unp4 {E : XK} {K : PySem.W.Frag} {te : TE} {u : TS} {δ : En} {μ μ1 : Mp} {P : PY} {i j k l : Nat} {d1 d2 d3 d4 : PyData} (h : E1 te δ μ (D K (.tuple [d1, d2, d3, d4])) μ1) (k' : S1 E u ((((δ.set i (some (D K d1))).set j (some (D K d2))).set k (some (D K d3))).set l (some (D K d4))) μ1 P) : S1 E (tSeq (tAsg te (gTup K 4 (gCons (gName i) (gCons (gName j) (gCons (gName k) (gCons (gName l) gNil)))))) u) δ μ P :=
  s_let2 h (g_tup (vs := [i, j, k, l]) (g_cons (g_name (by simp)) (g_cons (g_name (by simp)) (g_cons (g_name (by simp)) (g_cons (g_name (by simp)) g_nil)))) rfl) k'
theorem startD_ok (m : Int) {lot : List Int} (h : lot.length ≤ 60) : okAl 6 (startD m lot) = true ∧ SeqAt.shaped (startD m lot) = true := by
  constructor
  · simp [startD, okAl]
    omega
  · refine (sh_tup (n := 2) fun x hx => ?_).ok
    simp only [List.mem_cons, List.not_mem_nil, or_false] at hx
    rcases hx with rfl | rfl | rfl | rfl | rfl | rfl | rfl
    all_goals first | exact ⟨rfl, Nat.zero_le _⟩ | skip
    refine sh_tup (n := 1) fun y hy => ?_
    obtain ⟨z, _, rfl⟩ := List.mem_map.mp hy
    refine sh_tup (n := 0) fun w hw => ?_
    simp only [List.mem_cons, List.not_mem_nil, or_false] at hw
    rcases hw with rfl | rfl | rfl <;> exact ⟨rfl, Nat.le_refl _⟩
theorem lot_good {Dk : Deck} {n : Nat} {top : Int} (hn : (n : Int) ≤ top - 1) (h60 : n ≤ 60) : GoodLot (lotS (from2 top) Dk n).1 := by
  obtain ⟨q1, q2, q3⟩ := from2_ok (top := top)
  obtain ⟨h1, h2, h3, h4, _⟩ := lotS_ok (Dk := Dk) q1 n (by omega)
  exact ⟨h3, fun x hx => (q3 x (h4 x hx)).1, by omega⟩
end SY

set_option Elab.async false
set_option linter.all false
set_option maxRecDepth 100000
/-! SYr: standings, and what leads from one to the next. -/
namespace SY
open PySem PySem.Spec L2 SX
section
variable {E : XK} {K : PySem.W.Frag} {te ta : TE} {δ : En} {μ μ1 μ2 : Mp} {cp : List Int} {j : Int}
theorem e_index (h : E1 te δ μ (D K (.list (cp.map .int))) μ1) (h2 : E1 ta δ μ1 (D K (.int j)) μ2) (hj : j ∈ cp) : E1 (tBM K "list" (rIndex K) te (tCons ta tNil)) δ μ (D K (.int ((cp.idxOf j : Nat) : Int))) μ2 := fun σ G M s m G1 H F e m1 q z =>
  h σ G M s m G1 H F e m1 _ fun v G2 M2 H2 e2 m2 r2 => by
    obtain ⟨a, xs, rfl, hs, hd⟩ := dp_lst r2.1
    refine ⟨.inl ⟨rfl, xs, ex_l m2.ex hs⟩, h2 σ G2 M2 (s.mono (e.trans e2)) r2.2 G2 H2 F (Ex.refl _) m2 _ fun y G3 M3 H3 e3 m3 r3 => ?_⟩
    rw [dp_int r3.1]
    have hx := dpAll_ints hd
    subst hx
    have hlt : cp.idxOf j < cp.length := List.idxOf_lt_length_iff.mpr hj
    refine ⟨a, cp.map V.int, .int j, cp.idxOf j, .int j, rfl, rfl, ex_l m3.ex (ex_l e3 hs), rfl, ?_, ?_, ?_, fun k z' hk hz => ?_, z _ G3 M3 H3 (e2.trans e3) m3 ⟨.int _, r3.2⟩⟩
    · rw [List.all_eq_true]
      intro x hx
      obtain ⟨i, _, rfl⟩ := List.mem_map.mp hx
      rfl
    · rw [List.getElem?_map, List.getElem?_eq_getElem hlt, List.getElem_idxOf]
      rfl
    · simp [eqV]
    · rw [List.getElem?_map, Option.map_eq_some_iff] at hz
      obtain ⟨i, hi, rfl⟩ := hz
      have hne : i ≠ j := by
        rintro rfl
        have h1 := List.getElem?_eq_some_iff.mp hi
        obtain ⟨hl, h1⟩ := h1
        have := List.not_of_lt_findIdx (p := fun x => x == i) (xs := cp) (i := k) hk
        simp [h1] at this
      simp [eqV, hne]
end
/-! standings -/
structure Stand where
  left : Int
  wait : Option Int
  before : Option (List Int)
  carry : Int
  gap : Int
  near : Option Int
  rests : List (Int × Int × Int)
def oiD : Option Int → PyData
  | none => .none
  | some i => .int i
def olD : Option (List Int) → PyData
  | none => .none
  | some l => .tuple (l.map .int)
def restD (t : Int × Int × Int) : PyData := .tuple [.int t.1, .int t.2.1, .int t.2.2]
def sdD (s : Stand) : PyData := .tuple [.int s.left, oiD s.wait, olD s.before, .int s.carry, .int s.gap, oiD s.near, .tuple (s.rests.map restD)]
def startS (m : Int) (lot : List Int) : Stand := ⟨m, none, none, 0, 0, some 0, lot.map fun _ => (0, 1, 1)⟩
theorem startS_D (m : Int) (lot : List Int) : startD m lot = sdD (startS m lot) := by
  unfold startD sdD startS oiD olD restD
  simp only [List.map_map]
  rfl
def keptF (cp col : List Int) : List Int := cp.map fun j => col.getD j.toNat 0
def mayF (s : Stand) : Bool := decide (s.left > 0) && s.wait.isNone
def copyF (cp : List Int) (bf : Option (List Int)) (j : Int) : Option Int := bf.map fun l => l.getD (cp.idxOf j) 0
def doF (b : Int) (cp : List Int) (s : Stand) (col : List Int) : Option Deed → Option (List Int × Int)
  | none => doSum b (sumTaken b col 0 none) s.carry none
  | some x => if mayF s then
      match x with
      | .copy j => match copyF cp s.before j with
        | none => none
        | some c => doSum b (sumTaken b col c (some (.copy j))) s.carry (some (.copy j))
      | y => doSum b (sumTaken b col 0 (some y)) s.carry (some y)
    else none
theorem doF_no {b : Int} {cp : List Int} {s : Stand} {col : List Int} {x : Deed} (h : mayF s = false) : doF b cp s col (some x) = none := by
  cases x <;> simp [doF, h]
theorem doF_plain {b : Int} {cp : List Int} {s : Stand} {col : List Int} {x : Deed} (h : mayF s = true) (hc : ∀ j, x ≠ .copy j) : doF b cp s col (some x) = doSum b (sumTaken b col 0 (some x)) s.carry (some x) := by
  cases x <;> simp [doF, h]
  exact absurd rfl (hc _)
theorem doF_copyN {b : Int} {cp : List Int} {s : Stand} {col : List Int} {j : Int} (hb : s.before = none) : doF b cp s col (some (.copy j)) = none := by
  simp [doF, copyF, hb]
theorem doF_copy {b : Int} {cp : List Int} {s : Stand} {col : List Int} {j : Int} {l : List Int} (h : mayF s = true) (hb : s.before = some l) : doF b cp s col (some (.copy j)) = doSum b (sumTaken b col (l.getD (cp.idxOf j) 0) (some (.copy j))) s.carry (some (.copy j)) := by
  simp [doF, copyF, hb, h]
def nearF (b : Int) (near : Option Int) (gap total grown many : Int) : Option Int :=
  match near with
  | none => none
  | some n =>
    let c := if gap < 0 then -gap else 0
    let p := if gap > 0 then gap else 0
    let n' := n + grown * b ^ p.toNat - total * b ^ c.toNat
    let u := b ^ (if c + 1 < p + many then c + 1 else p + many).toNat
    if n' % u = 0 then some (n' / u) else none
def restF (b total grown many : Int) (x : Int × Int × Int × Int) : Int × Int × Int := ((x.2.1 + grown * x.2.2.2 - total * x.2.2.1) % x.1, x.2.2.1 * b % x.1, x.2.2.2 * b ^ many.toNat % x.1)
def restsF (b : Int) (lot : List Int) (rests : List (Int × Int × Int)) (total grown many : Int) : List (Int × Int × Int) := (lot.zip rests).map (restF b total grown many)
def isSwap : Option Deed → Bool
  | some .swap => true
  | _ => false
def leadS (b : Int) (cp lot : List Int) (s : Stand) (col : List Int) (od : Option Deed) (r : List Int × Int) : Stand :=
  let figs := r.1 ++ s.wait.toList
  let grown := horner b figs r.2 - horner b s.wait.toList s.carry
  let many : Int := if isSwap od then 0 else (figs.length : Int)
  ⟨if od.isNone then s.left else s.left - 1, if isSwap od then some (figs.getD 0 0) else none, some (keptF cp col), r.2, s.gap + many - 1, nearF b s.near s.gap col.sum grown many, restsF b lot s.rests col.sum grown many⟩
def leadF (b : Int) (cp lot : List Int) (s : Stand) (col : List Int) (od : Option Deed) : Option Stand := (doF b cp s col od).map (leadS b cp lot s col od)
/-- well made, for so wide gaps -/
structure WfS (b : Int) (cp lot : List Int) (N : Int) (s : Stand) : Prop where
  gap : -N ≤ s.gap ∧ s.gap ≤ N
  len : s.rests.length = lot.length
  carry : 0 ≤ s.carry ∧ s.carry ≤ 100
  wait : ∀ w, s.wait = some w → 0 ≤ w ∧ w < b
  bef : ∀ l, s.before = some l → l.length = cp.length ∧ ∀ x ∈ l, 0 ≤ x ∧ x < b
def osD : Option Stand → PyData
  | none => .none
  | some s => sdD s
end SY
namespace SY
open PySem PySem.Spec L2 SX
theorem i_zipM {K : PySem.W.Frag} {ta tb : TE} {δ : En} {μ μ1 μ' : Mp} {ds es : List PyData} {n : Nat} (h : E1 ta δ μ (D K (.list ds)) μ1) (h2 : E1 tb δ μ1 (D K (.tuple es)) μ') (hl : n = min ds.length es.length) : IY (iZipM K (tCons ta (tCons tb tNil))) δ μ n (fun i => D K (.tuple [(ds[i]?).getD .none, (es[i]?).getD .none])) μ' := fun σ G M s m G1 H F e m1 Q q =>
  (a_cons h (a_cons h2 a_nil)) σ G M s m G1 H F e m1 _ fun ws G2 M2 H2 e2 m2 a2 r2 => by
    match ws, a2 with
    | [v, w], ⟨p1, p2, _⟩ =>
    obtain ⟨a, xs, rfl, hs, hd⟩ := dp_lst p1
    obtain ⟨b, ys, rfl, hs', hd'⟩ := dp_tup p2
    refine ⟨a, b, xs, ys, rfl, ⟨ex_l m2.ex hs, ex_t m2.ex hs'⟩, q _ G2 M2 H2 e2 m2 r2 ⟨⟨_, _, walkM (n := n) (by rw [hl, dpa_len hd, dpa_len hd']), fun G3 M3 F3 H3 _ e3 m3 _ _ => ⟨ex_l m3.ex (ex_l e3 hs), ex_t m3.ex (ex_t e3 hs')⟩, fun i G3 M3 F3 H3 x H4 Mk hi e3 m3 hsub hkp y => ?_⟩⟩⟩
    obtain ⟨T, x, y, rfl, hT, rfl, h1, h2⟩ := y
    obtain ⟨d, h3, h4⟩ := dpa_atV hd h1
    obtain ⟨d', h5, h6⟩ := dpa_atV hd' h2
    have g3 := m3.free hT
    refine ⟨_, Ex.new g3, m3.newF hT, ?_⟩
    rw [h3, h5]
    exact .tup (SqT.of upd_same) (.cons (dm h4 (e3.trans (Ex.new g3))) (.cons (dm h6 (e3.trans (Ex.new g3))) .nil))
end SY

namespace SY
open PySem PySem.Spec L2 SX
theorem pow_small {b : Int} (hb : 2 ≤ b ∧ b ≤ 12) {k e : Nat} (hk : 4 * k < e) : (b ^ k).natAbs < 2 ^ e ∧ 0 < b ^ k := by
  refine ⟨?_, Int.pow_pos (by omega)⟩
  rw [Int.natAbs_pow]
  have h1 : b.natAbs ^ k ≤ (2 ^ 4) ^ k := Nat.pow_le_pow_left (by omega) k
  rw [← Nat.pow_mul] at h1
  exact Nat.lt_of_le_of_lt h1 (Nat.pow_lt_pow_right (by decide) hk)
theorem nearF_some {b n gap total grown many c p n' u : Int} (hc : c = if gap < 0 then -gap else 0) (hp : p = if gap > 0 then gap else 0) (hn : n' = n + grown * b ^ p.toNat - total * b ^ c.toNat) (hu : u = b ^ (if c + 1 < p + many then c + 1 else p + many).toNat) : oiD (nearF b (some n) gap total grown many) = if n' % u = 0 then .int (n' / u) else .none := by
  subst hc
  subst hp
  subst hn
  subst hu
  have key : ∀ (q : Prop) [Decidable q] (v : Int), oiD (if q then some v else none) = if q then PyData.int v else PyData.none := by
    intro q _ v
    split <;> rfl
  exact key _ _
theorem o_zipM {K : PySem.W.Frag} {ta tb te : TE} {g : TG} {vs : List Nat} {δ : En} {μ μ1 μ' : Mp} {out : Int × Int × Int × Int → PyData} {lot : List Int} {rests : List (Int × Int × Int)} (h : E1 ta δ μ (D K (.list (lot.map .int))) μ1) (h2 : E1 tb δ μ1 (D K (.tuple (rests.map restD))) μ') (hn : lot.length ≤ 1000)
    (hb : ∀ x, x ∈ lot.zip rests → ∃ δ'', G1 g (D K (.tuple [.int x.1, restD x.2])) (wipeY δ vs) δ'' vs ∧ E1 te δ'' μ' (D K (out x)) μ') : EO K (tLc (iZipM K (tCons ta (tCons tb tNil))) g tYes te vs) δ μ ((lot.zip rests).map out) μ' :=
  o_mapW (X := fun i => D K (.tuple [((lot.map PyData.int)[i]?).getD .none, ((rests.map restD)[i]?).getD .none])) (en := fun x => D K (.tuple [.int x.1, restD x.2])) (i_zipM h h2 (by simp)) (fun i x hx => by
    obtain ⟨h3, h4⟩ := List.getElem?_zip_eq_some.mp hx
    rw [getD_map h3, getD_map h4]) (by simp; omega) hb
end SY
namespace SY
open PySem PySem.Spec L2 SX
theorem div_bd {x b : Int} (h0 : 0 ≤ x) (hb : 2 ≤ b) : 0 ≤ x / b ∧ 2 * (x / b) ≤ x := by
  have h1 : 0 ≤ x / b := Int.ediv_nonneg h0 (by omega)
  refine ⟨h1, ?_⟩
  have h2 : b * (x / b) ≤ x := Int.mul_ediv_self_le (by omega)
  have h3 : 2 * (x / b) ≤ b * (x / b) := Int.mul_le_mul_of_nonneg_right hb h1
  omega
theorem sum_bd {b : Int} (hb : b ≤ 12) : ∀ (c : List Int), (∀ x ∈ c, 0 ≤ x ∧ x < b) → 0 ≤ c.sum ∧ c.sum ≤ 11 * c.length
  | [], _ => by simp
  | x :: xs, h => by
    have := sum_bd hb xs fun y hy => h y (List.mem_cons_of_mem _ hy)
    have := h x List.mem_cons_self
    simp only [List.sum_cons, List.length_cons]
    omega
theorem sum_getD {b : Int} (hb : 2 ≤ b ∧ b ≤ 12) : ∀ (c : List Int) (i : Nat), (∀ x ∈ c, 0 ≤ x ∧ x < b) → (0 ≤ c.getD i 0 ∧ c.getD i 0 < b) ∧ c.getD i 0 ≤ c.sum
  | [], i, _ => by simp; omega
  | x :: xs, i, h => by
    have h1 := sum_bd hb.2 xs fun y hy => h y (List.mem_cons_of_mem _ hy)
    have h2 := h x List.mem_cons_self
    cases i with
    | zero =>
      simp only [List.getD_cons_zero, List.sum_cons]
      omega
    | succ n =>
      have := sum_getD hb xs n fun y hy => h y (List.mem_cons_of_mem _ hy)
      simp only [List.getD_cons_succ, List.sum_cons]
      omega
theorem sumTaken_bd {b : Int} (hb : 2 ≤ b ∧ b ≤ 12) {c : List Int} {cp : Int} {od : Option Deed} (hc : ∀ x ∈ c, 0 ≤ x ∧ x < b) (hl : c.length ≤ 4) (hcp : 0 ≤ cp ∧ cp < b) : 0 ≤ sumTaken b c cp od ∧ sumTaken b c cp od ≤ 60 := by
  have h1 := sum_bd hb.2 c hc
  unfold sumTaken
  split
  · rename_i j d
    have h2 := sum_getD hb c j.toNat hc
    have h3 := Int.emod_nonneg (c.getD j.toNat 0 + d) (show b ≠ 0 by omega)
    have h4 := Int.emod_lt_of_pos (c.getD j.toNat 0 + d) (show 0 < b by omega)
    omega
  · rename_i j
    have h2 := sum_getD hb c j.toNat hc
    omega
  · omega
theorem doSum_bd {b : Int} (hb : 2 ≤ b ∧ b ≤ 12) {t a a' : Int} {fs : List Int} {od : Option Deed} (ht : 0 ≤ t ∧ t ≤ 60) (ha : 0 ≤ a ∧ a ≤ 100) (h : doSum b t a od = some (fs, a')) : fs.length ≤ 2 ∧ (∀ x ∈ fs, 0 ≤ x ∧ x < b) ∧ (0 ≤ a' ∧ a' ≤ 100) ∧ (od = some .swap ∨ od = none → fs.length = 1) := by
  have m : ∀ x : Int, 0 ≤ x % b ∧ x % b < b := fun x => ⟨Int.emod_nonneg x (by omega), Int.emod_lt_of_pos x (by omega)⟩
  have d1 := div_bd (x := t + a) (b := b) (by omega) hb.1
  have d2 := div_bd (x := t + (t + a) / b) (b := b) (by omega) hb.1
  unfold doSum at h
  split at h
  all_goals try split at h
  all_goals first | (cases h; done) | skip
  all_goals
    obtain ⟨rfl, rfl⟩ := Prod.mk.inj (Option.some.inj h)
    refine ⟨by simp, ?_, by omega, ?_⟩
    · intro x hx
      simp only [List.mem_cons, List.not_mem_nil, or_false] at hx <;> first
        | (rcases hx with rfl | rfl <;> exact m _)
        | (subst hx; exact m _)
    · first
        | (intro _; rfl)
        | (rintro (h | h) <;> cases h)
structure LeadOk (b : Int) (cp ns c : List Int) (sd : Stand) (od : Option Deed) : Prop where
  hb : 2 ≤ b ∧ b ≤ 12
  row : RowOk c.length od
  col : ∀ x ∈ c, 0 ≤ x ∧ x < b
  len : c.length ≤ 4
  cps : ∀ j, od = some (.copy j) → j ∈ cp
  cpl : cp.length ≤ 1000
  cpr : ∀ j ∈ cp, 0 ≤ j ∧ j < c.length
  lot : GoodLot ns
  wf : WfS b cp ns 1900 sd
theorem doF_bd {b : Int} {cp ns c : List Int} {sd : Stand} {od : Option Deed} {fs : List Int} {a : Int} (g : LeadOk b cp ns c sd od) (h : doF b cp sd c od = some (fs, a)) : fs.length ≤ 2 ∧ (∀ x ∈ fs, 0 ≤ x ∧ x < b) ∧ (0 ≤ a ∧ a ≤ 100) ∧ (od = some .swap ∨ od = none → fs.length = 1) ∧ (od ≠ none → sd.wait = none) := by
  have z : 0 ≤ (0 : Int) ∧ (0 : Int) < b := ⟨by omega, by have := g.hb; omega⟩
  cases od with
  | none =>
    have := doSum_bd (od := none) (t := sumTaken b c 0 none) g.hb (sumTaken_bd g.hb g.col g.len z) g.wf.carry h
    exact ⟨this.1, this.2.1, this.2.2.1, this.2.2.2, fun h => absurd rfl h⟩
  | some x =>
    cases hm : mayF sd with
    | false => rw [doF_no hm] at h; cases h
    | true =>
      have hw : sd.wait = none := by
        unfold mayF at hm
        simp only [Bool.and_eq_true, Option.isNone_iff_eq_none] at hm
        exact hm.2
      by_cases hx : ∃ j, x = .copy j
      · obtain ⟨j, rfl⟩ := hx
        cases hbf : sd.before with
        | none => rw [doF_copyN hbf] at h; cases h
        | some l =>
          rw [doF_copy hm hbf] at h
          obtain ⟨h1, h2⟩ := g.wf.bef l hbf
          have hlt : cp.idxOf j < l.length := by rw [h1]; exact List.idxOf_lt_length_iff.mpr (g.cps j rfl)
          have hz : 0 ≤ l.getD (cp.idxOf j) 0 ∧ l.getD (cp.idxOf j) 0 < b := by
            rw [show l.getD (cp.idxOf j) 0 = l[cp.idxOf j] by simp [List.getD, List.getElem?_eq_getElem hlt]]
            exact h2 _ (List.getElem_mem hlt)
          have := doSum_bd g.hb (sumTaken_bd g.hb g.col g.len hz) g.wf.carry h
          exact ⟨this.1, this.2.1, this.2.2.1, this.2.2.2, fun _ => hw⟩
      · rw [doF_plain hm fun j hj => hx ⟨j, hj⟩] at h
        have := doSum_bd g.hb (sumTaken_bd g.hb g.col g.len z) g.wf.carry h
        exact ⟨this.1, this.2.1, this.2.2.1, this.2.2.2, fun _ => hw⟩
theorem horner_bd {b : Int} (hb : 2 ≤ b ∧ b ≤ 12) {l : Int} (hl : 0 ≤ l ∧ l ≤ 100) : ∀ figs : List Int, (∀ x ∈ figs, 0 ≤ x ∧ x < b) → 0 ≤ horner b figs l ∧ horner b figs l + 1 ≤ 12 ^ figs.length * 101
  | [], _ => by
    show 0 ≤ l ∧ l + 1 ≤ 12 ^ 0 * 101
    omega
  | x :: xs, h => by
    obtain ⟨h1, h2⟩ := horner_bd hb hl xs fun y hy => h y (List.mem_cons_of_mem _ hy)
    have h3 := h x List.mem_cons_self
    show 0 ≤ horner b xs l * b + x ∧ horner b xs l * b + x + 1 ≤ 12 ^ (xs.length + 1) * 101
    have h4 : horner b xs l * b ≤ horner b xs l * 12 := Int.mul_le_mul_of_nonneg_left hb.2 h1
    have h5 : 0 ≤ horner b xs l * b := Int.mul_nonneg h1 (by omega)
    rw [Int.pow_succ]
    omega
theorem grown_bd {b a c : Int} (hb : 2 ≤ b ∧ b ≤ 12) {fs ws : List Int} (hf : ∀ x ∈ fs, 0 ≤ x ∧ x < b) (hw : ∀ x ∈ ws, 0 ≤ x ∧ x < b) (h1 : fs.length ≤ 3) (h2 : ws.length ≤ 1) (ha : 0 ≤ a ∧ a ≤ 100) (hc : 0 ≤ c ∧ c ≤ 100) : -(2 ^ 64) < horner b fs a - horner b ws c ∧ horner b fs a - horner b ws c < 2 ^ 64 := by
  obtain ⟨q1, q2⟩ := horner_bd hb ha fs hf
  obtain ⟨q3, q4⟩ := horner_bd hb hc ws hw
  have p : ∀ n : Nat, n ≤ 3 → (12 : Int) ^ n ≤ 1728 := fun n hn => by
    rcases (by omega : n = 0 ∨ n = 1 ∨ n = 2 ∨ n = 3) with rfl | rfl | rfl | rfl <;> decide
  have p1 := p fs.length h1
  have p2 := p ws.length (by omega)
  omega
end SY
namespace SY
open PySem PySem.Spec L2 SX
structure StOk (b r : Int) (cp ns : List Int) : Prop where
  hb : 2 ≤ b ∧ b ≤ 12
  hr : 1 ≤ r ∧ r ≤ 4
  cpl : cp.length ≤ 1000
  cpr : ∀ j ∈ cp, 0 ≤ j ∧ j < r
  lot : GoodLot ns
structure ColOk (b r : Int) (c : List Int) : Prop where
  len : (c.length : Int) = r
  fig : ∀ x ∈ c, 0 ≤ x ∧ x < b
theorem WfS.mono {b : Int} {cp lot : List Int} {N N' : Int} {s : Stand} (h : WfS b cp lot N s) (hn : N ≤ N') : WfS b cp lot N' s := ⟨⟨by have := h.gap; omega, by have := h.gap; omega⟩, h.len, h.carry, h.wait, h.bef⟩
theorem StOk.lead {b r : Int} {cp ns c : List Int} {sd : Stand} {od : Option Deed} {N : Int} (h : StOk b r cp ns) (hc : ColOk b r c) (hw : WfS b cp ns N sd) (hn : N ≤ 1900) (hrow : RowOk c.length od) (hcp : ∀ j, od = some (.copy j) → j ∈ cp) : LeadOk b cp ns c sd od :=
  ⟨h.hb, hrow, hc.fig, by have := hc.len; have := h.hr; omega, hcp, h.cpl, fun j hj => by have := h.cpr j hj; have := hc.len; omega, h.lot, hw.mono hn⟩
/-- .., done rightly -/
def leadR (b : Int) (cp lot : List Int) (s : Stand) (col : List Int) : Stand := leadS b cp lot s col none ([(col.sum + s.carry) % b], (col.sum + s.carry) / b)
theorem leadF_none (b : Int) (cp lot : List Int) (s : Stand) (col : List Int) : leadF b cp lot s col none = some (leadR b cp lot s col) := rfl
def leadsR (b : Int) (cp lot : List Int) (s : Stand) (cs : List (List Int)) : Stand := cs.foldl (leadR b cp lot) s
theorem leadS_wf {b r : Int} {cp ns c : List Int} {sd : Stand} {od : Option Deed} {N : Int} {fs : List Int} {a : Int} (g : StOk b r cp ns) (hc : ColOk b r c) (hw : WfS b cp ns N sd) (hN : N ≤ 1900) (hrow : RowOk c.length od) (hcp : ∀ j, od = some (.copy j) → j ∈ cp) (h : doF b cp sd c od = some (fs, a)) : WfS b cp ns (N + 2) (leadS b cp ns sd c od (fs, a)) := by
  have gl := g.lead hc hw hN hrow hcp
  obtain ⟨f1, f2, f3, f4, f5⟩ := doF_bd gl h
  have wl : sd.wait.toList.length ≤ 1 := by cases sd.wait <;> simp
  have hgap := hw.gap
  refine ⟨?_, ?_, f3, ?_, ?_⟩
  · show -(N + 2) ≤ sd.gap + (if isSwap od then 0 else ((fs ++ sd.wait.toList).length : Int)) - 1 ∧ sd.gap + (if isSwap od then 0 else ((fs ++ sd.wait.toList).length : Int)) - 1 ≤ N + 2
    rw [List.length_append]
    split <;> omega
  · show ((ns.zip sd.rests).map _).length = _
    rw [List.length_map, List.length_zip, hw.len, Nat.min_self]
  · intro w hwt
    have hwt : (if isSwap od then some ((fs ++ sd.wait.toList).getD 0 0) else none) = some w := hwt
    split at hwt
    · rename_i hs
      have ho : od = some .swap := by
        cases od with
        | none => cases hs
        | some x => cases x <;> first | rfl | cases hs
      have hl := f4 (.inl ho)
      match fs, hl, f2 with
      | [y], _, f2 =>
        have : w = y := (Option.some.inj hwt).symm
        rw [this]
        exact f2 y List.mem_cons_self
    · cases hwt
  · intro l hl
    have hl : some (keptF cp c) = some l := hl
    cases hl
    refine ⟨by simp [keptF], fun x hx => ?_⟩
    obtain ⟨j, hj, rfl⟩ := List.mem_map.mp hx
    exact (sum_getD g.hb c j.toNat hc.fig).1
theorem leadR_wf {b r : Int} {cp ns c : List Int} {sd : Stand} {N : Int} (g : StOk b r cp ns) (hc : ColOk b r c) (hw : WfS b cp ns N sd) (hN : N ≤ 1900) : WfS b cp ns (N + 2) (leadR b cp ns sd c) := leadS_wf (od := none) g hc hw hN trivial (fun _ h => by cases h) rfl
theorem leadsR_wf {b r : Int} {cp ns : List Int} (g : StOk b r cp ns) : ∀ (cs : List (List Int)) {sd : Stand} {N : Int}, (∀ c ∈ cs, ColOk b r c) → WfS b cp ns N sd → N + 2 * cs.length ≤ 1900 → WfS b cp ns (N + 2 * cs.length) (leadsR b cp ns sd cs)
  | [], sd, N, _, hw, _ => by
    show WfS b cp ns (N + 2 * (0 : Nat)) sd
    exact hw.mono (by omega)
  | c :: cs, sd, N, hc, hw, hN => by
    simp only [List.length_cons] at hN ⊢
    have h1 := leadR_wf g (hc c List.mem_cons_self) hw (by omega)
    have := leadsR_wf g cs (fun x hx => hc x (List.mem_cons_of_mem _ hx)) h1 (by omega)
    exact this.mono (by omega)
theorem leadsR_snoc (b : Int) (cp ns : List Int) (sd : Stand) (cs : List (List Int)) (c : List Int) : leadsR b cp ns sd (cs ++ [c]) = leadR b cp ns (leadsR b cp ns sd cs) c := by
  unfold leadsR
  rw [List.foldl_append]
  rfl
theorem startS_wf {b : Int} {cp ns : List Int} (m : Int) : WfS b cp ns 0 (startS m ns) := ⟨⟨(by show (-0 : Int) ≤ 0; decide), (by show (0 : Int) ≤ 0; decide)⟩, (by simp [startS]), ⟨(by show (0 : Int) ≤ 0; decide), (by show (0 : Int) ≤ 100; decide)⟩, (fun _ h => by cases h), (fun _ h => by cases h)⟩
end SY

namespace SY
open PySem PySem.Spec L2 SX
theorem e_ninO {E : XK} {K : PySem.W.Frag} {ta tb : TE} {δ : En} {μ μ1 μ2 : Mp} {P1 P2 : Pr} {C : Addr} {α : Type} {A : α → List Pr} {pre : α → Prop} {b : α → Bool} (x : α) (h1 : E1 ta δ μ P1 μ1) (h2 : E1 tb δ μ1 P2 μ2) (i2 : InsY C P2 μ2) (hA : A x = [P2, P1]) (hp : pre x) : E1 (tOp (rNinO C (spD A pre (fun x => D K (.bool (b x)))) E) ta tb) δ μ (D K (.bool (!b x))) μ2 := fun σ G M s mm G1 H F e m1 q z =>
  h1 σ G M s mm G1 H F e m1 _ fun v G2 M2 H2 e2 m2 r2 => h2 σ G2 M2 (s.mono (e.trans e2)) r2.2 G2 H2 F (Ex.refl _) m2 _ fun w G3 M3 H3 e3 m3 r3 => by
    obtain ⟨c, dy, ws, rfl, hb⟩ := i2 G3 w M3 r3.1 r3.2
    refine ⟨c, dy, ws, rfl, hb G3 H3 F (Ex.refl _) m3, sp_run (F := M3 ++ F) (M := []) x m3 trivial (by rw [hA]; exact ⟨r3.1, P1.m _ _ _ e3 r2.1, trivial⟩) hp fun v G' M' H' e' m' r => ?_⟩
    obtain ⟨Q, μ', ⟨rfl, rfl⟩, r1, r4⟩ := r
    have hM := r4.nil
    subst hM
    exact ⟨b x, dp_bl r1, z _ G' M3 H' ((e2.trans e3).trans e') m' ⟨.bl _, r3.2.mono e'⟩⟩
end SY

set_option Elab.async false
set_option linter.all false
set_option maxRecDepth 100000
/-! SYs: columns drawn from a pool; columns done rightly. -/
namespace SY
open PySem PySem.Spec L2 SX
def iterD (Dk : Deck) (b : Int) : Nat → Deck
  | 0 => Dk
  | n + 1 => dn2 (iterD Dk b n) b
def colP (Dk : Deck) (b r : Int) : List Int := (List.range r.toNat).map fun j => dv2 (iterD Dk b j) b
theorem colOf_ok {Dk : Deck} {b r : Int} (hb : 2 ≤ b) (hr : 0 ≤ r) : ColOk b r (colP Dk b r) := ⟨by simp [colP]; omega, fun x hx => by
  obtain ⟨j, _, rfl⟩ := List.mem_map.mp hx
  exact ⟨dv2_lo (by omega), dv2_hi (by omega)⟩⟩
theorem o_drawP {E : XK} {K : PySem.W.Frag} {ta te : TE} {vs : List Nat} {k : Nat} {δ : En} {μ : Mp} {A : Addr} {Dk : Deck} {nb : Nat} {b r : Int} {rest : Mp} (hs : E1 ta δ μ (D K (.int r)) ((A, DKb nb Dk) :: rest)) (hr : 0 ≤ r ∧ r ≤ 100000)
    (hb : ∀ x : Nat, x < r.toNat → E1 te ((wipeY δ vs).set k (some (D K (.int (x : Int))))) ((A, DKb (nb + x) (iterD Dk b x)) :: rest) (D K (.int (dv2 (iterD Dk b x) b))) ((A, DKb (nb + x + 1) (dn2 (iterD Dk b x) b)) :: rest)) (hk : k ∈ vs := by decide) : EO K (tLc (iRng1 (tCons ta tNil)) (gName k) tYes te vs) δ μ ((colP Dk b r).map .int) ((A, DKb (nb + r.toNat) (iterD Dk b r.toNat)) :: rest) := by
  have := o_lc (K := K) (g := gName k) (tt := tYes) (te := te) (vs := vs) (fun i => (A, DKb (nb + i) (iterD Dk b i)) :: rest) (fun _ => true) (fun i => .int (dv2 (iterD Dk b i) b)) (i_rng1 hs (by omega)) (by omega) fun i hi => ⟨_, g_name hk, t_yes, fun _ => hb i hi, fun z => by cases z⟩
  rw [show (colP Dk b r).map PyData.int = kept r.toNat (fun _ => true) (fun i => .int (dv2 (iterD Dk b i) b)) from ?_]
  · exact this
  · rw [← List.length_range (n := r.toNat), kept_mapM (xs := List.range r.toNat) (enc := fun _ => .none) (out := fun i => .int (dv2 (iterD Dk b i) b))]
    · unfold colP
      rw [List.map_map]
      rfl
    · intro i x h
      rw [List.getElem?_eq_some_iff] at h
      obtain ⟨_, h⟩ := h
      rw [← h, List.getElem_range]
theorem copied_all (b r : Int) (p : Deed → Bool) : copiedOf ((allDeeds b r).filter p) = ((List.range r.toNat).filter fun (j : Nat) => p (.copy (j : Int))).map fun (j : Nat) => (j : Int) := by
  have hno : ∀ xs : List Deed, (∀ x ∈ xs, x.word ≠ ("copy" : Str)) → (xs.filter p).filter (fun x => decide (x.word = ("copy" : Str))) = [] := fun xs h => by
    rw [List.filter_eq_nil_iff]
    intro x hx
    have := h x (List.mem_filter.mp hx).1
    simpa using this
  have hcp : (copiesOf r).filter p = ((List.range r.toNat).filter fun (j : Nat) => p (.copy (j : Int))).map fun (j : Nat) => Deed.copy (j : Int) := by
    unfold copiesOf
    rw [List.filter_map]
    rfl
  unfold copiedOf allDeeds
  rw [List.filter_append, List.filter_append, List.filter_append, List.filter_append, List.filter_append, List.filter_append, List.filter_append, List.filter_append]
  rw [hno [.forget, .again] (by intro x hx; simp only [List.mem_cons, List.not_mem_nil, or_false] at hx; rcases hx with rfl | rfl <;> decide)]
  rw [hno (offsOf b) (by intro x hx; obtain ⟨_, _, rfl⟩ := List.mem_map.mp hx; show ("off" : Str) ≠ "copy"; decide)]
  rw [hno (readsOf b r) (by intro x hx; obtain ⟨_, _, hx⟩ := List.mem_flatMap.mp hx; obtain ⟨_, _, rfl⟩ := List.mem_map.mp hx; show ("read" : Str) ≠ "copy"; decide)]
  rw [hno [.swap, .out, .twice] (by intro x hx; simp only [List.mem_cons, List.not_mem_nil, or_false] at hx; rcases hx with rfl | rfl | rfl <;> decide)]
  rw [hcp, List.nil_append, List.nil_append, List.nil_append, List.append_nil, List.filter_eq_self.mpr (by intro x hx; obtain ⟨_, _, rfl⟩ := List.mem_map.mp hx; rfl), List.map_map]
  rfl
theorem copied_inOrder {b r : Int} (ds : List Deed) : copiedOf (inOrder b r ds) = ((List.range r.toNat).filter fun (j : Nat) => decide (Deed.copy (j : Int) ∈ ds)).map fun (j : Nat) => (j : Int) := copied_all b r _
theorem copied_row {b r : Int} (hr : 0 ≤ r) {ds : List Deed} {j : Int} (h : j ∈ copiedOf (inOrder b r ds)) : 0 ≤ j ∧ j < r := by
  rw [copied_inOrder] at h
  obtain ⟨n, hn, rfl⟩ := List.mem_map.mp h
  have := List.mem_range.mp (List.mem_filter.mp hn).1
  omega
theorem copied_len {b r : Int} (ds : List Deed) : (copiedOf (inOrder b r ds)).length ≤ r.toNat := by
  rw [copied_inOrder, List.length_map]
  exact Nat.le_trans (List.length_filter_le _ _) (by rw [List.length_range]; exact Nat.le_refl _)
theorem st_ok {b r m : Int} {ds : List Deed} {lot : List Int} (g : GoodKd b r ds m) (gl : GoodLot lot) : StOk b r (copiedOf (inOrder b r ds)) lot := ⟨⟨g.b2, g.b12⟩, ⟨g.r1, g.r4⟩, by have := copied_len (b := b) (r := r) ds; have := g.r4; omega, fun j hj => copied_row (by have := g.r1; omega) hj, gl⟩
/-! rightly -/
def stepSc (b : Int) (lot scs : List Int) : List Int := (lot.zip scs).map fun x => x.2 * b % x.1
def rightS (m : Int) (bf : Option (List Int)) (c : Int) (scs : List Int) : Stand := ⟨m, none, bf, c, 0, some 0, scs.map fun s => (0, s, s)⟩
theorem leadR_right {b : Int} (hb : 2 ≤ b) {cp lot c scs : List Int} {m ca : Int} {bf : Option (List Int)} : leadR b cp lot (rightS m bf ca scs) c = rightS m (some (keptF cp c)) ((c.sum + ca) / b) (stepSc b lot scs) := by
  have hgr : horner b [(c.sum + ca) % b] ((c.sum + ca) / b) - horner b [] ca = c.sum := by
    show (c.sum + ca) / b * b + (c.sum + ca) % b - ca = c.sum
    have := Int.ediv_mul_add_emod (c.sum + ca) b
    omega
  have hnear : nearF b (some 0) 0 c.sum c.sum 1 = some 0 := by
    unfold nearF
    dsimp only
    rw [if_pos]
    · simp
    · simp
  have hrest : restsF b lot (scs.map fun s => (0, s, s)) c.sum c.sum 1 = (stepSc b lot scs).map fun s => (0, s, s) := by
    unfold restsF stepSc
    rw [List.zip_map_right, List.map_map, List.map_map]
    refine List.map_congr_left fun x _ => ?_
    obtain ⟨r, s⟩ := x
    show ((0 + c.sum * s - c.sum * s) % r, s * b % r, s * b ^ (1 : Int).toNat % r) = (0, s * b % r, s * b % r)
    have h1 : (0 + c.sum * s - c.sum * s) % r = 0 := by rw [Int.zero_add, Int.sub_self, Int.zero_emod]
    have h2 : b ^ (1 : Int).toNat = b := by show b ^ 1 = b; rw [Int.pow_succ, Int.pow_zero, Int.one_mul]
    rw [h1, h2]
  show Stand.mk m none (some (keptF cp c)) ((c.sum + ca) / b) (0 + 1 - 1) (nearF b (some 0) 0 c.sum (horner b [(c.sum + ca) % b] ((c.sum + ca) / b) - horner b [] ca) 1) (restsF b lot (scs.map fun s => (0, s, s)) c.sum (horner b [(c.sum + ca) % b] ((c.sum + ca) / b) - horner b [] ca) 1) = _
  rw [hgr, hnear, hrest]
  rfl
theorem startS_right (m : Int) (lot : List Int) : startS m lot = rightS m none 0 (lot.map fun _ => 1) := by
  unfold startS rightS
  rw [List.map_map]
  rfl
theorem range_getD {α : Type} (f : Int → α) (xs : List Int) : (List.range xs.length).map (fun k => f (xs.getD k 0)) = xs.map f := by
  refine List.ext_getElem (by simp) fun i h1 h2 => ?_
  simp only [List.length_map, List.length_range] at h1
  simp [List.getD, List.getElem?_eq_getElem h1]
theorem stepSc_range {b : Int} {lot scs : List Int} (h : scs.length = lot.length) : (List.range lot.length).map (fun k => scs.getD k 0 * b % lot.getD k 0) = stepSc b lot scs := by
  unfold stepSc
  refine List.ext_getElem (by simp [h]) fun i h1 h2 => ?_
  simp only [List.length_map, List.length_range] at h1
  simp [List.getD, List.getElem?_eq_getElem h1, List.getElem?_eq_getElem (show i < scs.length by omega)]
theorem stepSc_len {b : Int} {lot scs : List Int} (h : scs.length = lot.length) : (stepSc b lot scs).length = lot.length := by
  simp [stepSc, h]
/-- after so many -/
def scN (b : Int) (lot : List Int) : Nat → List Int
  | 0 => lot.map fun _ => 1
  | n + 1 => stepSc b lot (scN b lot n)
theorem scN_len (b : Int) (lot : List Int) : ∀ n, (scN b lot n).length = lot.length
  | 0 => by simp [scN]
  | n + 1 => stepSc_len (scN_len b lot n)
def caN (b : Int) (f : Nat → List Int) : Nat → Int
  | 0 => 0
  | n + 1 => ((f n).sum + caN b f n) / b
def bfN (cp : List Int) (f : Nat → List Int) : Nat → Option (List Int)
  | 0 => none
  | n + 1 => some (keptF cp (f n))
/-- the standing after so many columns that are done rightly -/
def stN (b m : Int) (cp lot : List Int) (f : Nat → List Int) (n : Nat) : Stand := rightS m (bfN cp f n) (caN b f n) (scN b lot n)
theorem stN_0 (b m : Int) (cp lot : List Int) (f : Nat → List Int) : stN b m cp lot f 0 = startS m lot := (startS_right m lot).symm
theorem stN_s {b : Int} (hb : 2 ≤ b) (m : Int) (cp lot : List Int) (f : Nat → List Int) (n : Nat) : leadR b cp lot (stN b m cp lot f n) (f n) = stN b m cp lot f (n + 1) := leadR_right hb
theorem leadsR_stN {b : Int} (hb : 2 ≤ b) (m : Int) (cp lot : List Int) (f : Nat → List Int) : ∀ n, leadsR b cp lot (startS m lot) ((List.range n).map f) = stN b m cp lot f n
  | 0 => (stN_0 b m cp lot f).symm
  | n + 1 => by
    rw [List.range_succ, List.map_append, List.map_cons, List.map_nil, leadsR_snoc, leadsR_stN hb m cp lot f n, stN_s hb]
theorem stN_wf {b r : Int} {cp lot : List Int} (g : StOk b r cp lot) (m : Int) {f : Nat → List Int} (hf : ∀ k, ColOk b r (f k)) (n : Nat) (hn : n ≤ 900) : WfS b cp lot 1800 (stN b m cp lot f n) := by
  rw [← leadsR_stN g.hb.1]
  have := leadsR_wf g ((List.range n).map f) (sd := startS m lot) (N := 0) (fun c hc => by obtain ⟨k, _, rfl⟩ := List.mem_map.mp hc; exact hf k) (startS_wf m) (by simp; omega)
  exact this.mono (by simp; omega)
theorem sh_ints3 {n : Nat} (t : Int × Int × Int) : Sh (n + 1) (restD t) := sh_tup fun d hd => by
  simp only [List.mem_cons, List.not_mem_nil, or_false] at hd
  rcases hd with rfl | rfl | rfl <;> exact sh_int _
theorem stN_ok {b m : Int} {cp lot : List Int} {f : Nat → List Int} {n : Nat} (h : lot.length ≤ 60) (h2 : cp.length ≤ 60) : okAl 6 (sdD (stN b m cp lot f n)) = true ∧ SeqAt.shaped (sdD (stN b m cp lot f n)) = true := by
  have hl := scN_len b lot n
  constructor
  · cases n with
    | zero =>
      simp [stN, rightS, sdD, bfN, oiD, olD, restD, okAl, hl]
      omega
    | succ k =>
      simp [stN, rightS, sdD, bfN, oiD, olD, restD, okAl, hl, keptF]
      omega
  · refine (sh_tup (n := 2) fun x hx => ?_).ok
    simp only [List.mem_cons, List.not_mem_nil, or_false] at hx
    rcases hx with rfl | rfl | rfl | rfl | rfl | rfl | rfl
    · exact sh_int _
    · exact sh_non
    · cases n with
      | zero => exact sh_non
      | succ k => exact sh_col (n := 1) _
    · exact sh_int _
    · exact sh_int _
    · exact sh_int _
    · refine sh_tup (n := 1) fun y hy => ?_
      obtain ⟨z, _, rfl⟩ := List.mem_map.mp hy
      exact sh_ints3 (n := 0) _
def poolK (ns : List Int) (k : Int) : Deck := ⟨if cellPos (cellAt ns k) ≥ 10 ^ 18 then cellPos (cellAt ns k) else 0, cellPos (cellAt ns k) % 2147483629 + 9973 * k + 11, 0⟩
theorem EO.poolK {K : PySem.W.Frag} {te : TE} {δ : En} {μ μ' : Mp} {ns : List Int} {k : Int} (h : EO K te δ μ (poolL ns k) μ') : EY te δ μ (fun P μ2 => ∃ ad, P = Av ad ∧ μ2 = μ' ++ [(ad, DKb 0 (poolK ns k))]) := EO.pool h
end SY

set_option Elab.async false
set_option linter.all false
set_option maxRecDepth 100000
/-! SZa: the law's own doings. -/
namespace SY
open PySem PySem.Spec L2 SX
/-- the law's own figures that are taken -/
def lawTaken (b : Int) (cs : List (List Int)) (i : Nat) : Deed → List Int
  | .read j d => (cs.getD i []).set j.toNat (((cs.getD i []).getD j.toNat 0 + d) % b)
  | .copy j => (cs.getD i []).set j.toNat ((cs.getD (i - 1) []).getD j.toNat 0)
  | _ => cs.getD i []
theorem sum_set : ∀ (l : List Int) (j : Nat) (v : Int), j < l.length → (l.set j v).sum = l.sum - l.getD j 0 + v
  | [], j, v, h => by simp at h
  | x :: l, 0, v, _ => by simp; omega
  | x :: l, j + 1, v, h => by
    have ih := sum_set l j v (by simpa using h)
    simp only [List.set_cons_succ, List.sum_cons, ih, List.getD_cons_succ]
    omega
theorem lawTaken_sum {b : Int} {cs : List (List Int)} {i : Nat} {x : Deed} (h : RowOk (cs.getD i []).length (some x)) : (lawTaken b cs i x).sum = sumTaken b (cs.getD i []) (copiedV cs i x) (some x) := by
  cases x <;> first | rfl | (obtain ⟨h1, h2⟩ := h; exact sum_set _ _ _ (by omega))
theorem lawTaken_len {b : Int} {cs : List (List Int)} {i : Nat} {x : Deed} : (lawTaken b cs i x).length = (cs.getD i []).length := by
  cases x <;> simp [lawTaken]
/-- the law's own doing of column i -/
def lawStep (b : Int) (cs : List (List Int)) (i : Nat) (x : Deed) (c : Int) : Option (List Int × Int) :=
  if isCopy x = true ∧ i = 0 ∨ x = .swap ∧ i + 1 = cs.length then none
  else doSum b (sumTaken b (cs.getD i []) (copiedV cs i x) (some x)) c (some x)
/-- a deed of the sheet, or none -/
def DeedOk (b r : Int) (x : Deed) : Prop := x = .right ∨ x ∈ allDeeds b r
theorem rowOk_ok {b r : Int} {x : Deed} {n : Nat} (h : DeedOk b r x) (hn : r ≤ n) : RowOk n (some x) := by
  rcases h with rfl | h
  · trivial
  · exact rowOk_all h hn
theorem _root_.SX.GoodSh.row {b r : Int} {cs : List (List Int)} (g : GoodSh b r cs) {n : Nat} (hn : n < cs.length) : GoodCol b r (cs.getD n []) := by
  have : cs.getD n [] = cs[n] := by simp [List.getD, List.getElem?_eq_getElem hn]
  rw [this]
  exact g.col _ (List.getElem_mem hn)
theorem sum_nn : ∀ {l : List Int}, (∀ x ∈ l, 0 ≤ x) → 0 ≤ l.sum
  | [], _ => by simp
  | x :: l, h => by
    have := sum_nn (l := l) fun y hy => h y (List.mem_cons_of_mem _ hy)
    have := h x List.mem_cons_self
    simp
    omega
theorem lawTaken_nn {b r : Int} {cs : List (List Int)} (g : GoodSh b r cs) {i : Nat} {x : Deed} (hi : i < cs.length) (hc : isCopy x = true → 0 < i) (hx : DeedOk b r x) : 0 ≤ (lawTaken b cs i x).sum := by
  refine sum_nn fun y hy => ?_
  have h1 := g.row hi
  cases x with
  | read j d =>
    rcases List.mem_or_eq_of_mem_set hy with h | rfl
    · exact (h1.2 _ h).1
    · exact Int.emod_nonneg _ (by have := g.b2; omega)
  | copy j =>
    rcases List.mem_or_eq_of_mem_set hy with h | rfl
    · exact (h1.2 _ h).1
    · have h2 := g.row (n := i - 1) (by omega)
      have hj : j.toNat < (cs.getD (i - 1) []).length := by
        have hr := rowOk_ok (n := (cs.getD (i - 1) []).length) hx (by rw [h2.1]; exact Int.le_refl _)
        have hr : 0 ≤ j ∧ j < ((cs.getD (i - 1) []).length : Int) := hr
        omega
      generalize cs.getD (i - 1) [] = q at h2 hj ⊢
      have : q.getD j.toNat 0 ∈ q := by
        simp [List.getD, List.getElem?_eq_getElem hj]
      exact (h2.2 _ this).1
  | _ => exact (h1.2 _ hy).1
end SY
namespace SY
open PySem PySem.Spec L2 SX
def deedAt (w d j : Int) : Deed := if w = 0 then .off d else if w = 1 then .read j d else if w = 2 then .copy j else [Deed.forget, .again, .swap, .out, .twice].getD (w - 3).toNat .forget
def deedV (D : Deck) (b r : Int) : Deed := deedAt (dv D 8) (1 + dv (dn D 8) (b - 1)) (dv (dn (dn D 8) (b - 1)) r)
def deedDk (D : Deck) (b r : Int) : Deck := dn (dn (dn D 8) (b - 1)) r
theorem deedAt_mem {w d j b r : Int} (hw : 0 ≤ w ∧ w < 8) (hd : 1 ≤ d ∧ d < b) (hj : 0 ≤ j ∧ j < r) : deedAt w d j ∈ allDeeds b r := by
  have : w = 0 ∨ w = 1 ∨ w = 2 ∨ w = 3 ∨ w = 4 ∨ w = 5 ∨ w = 6 ∨ w = 7 := by omega
  rw [mem_all]
  rcases this with rfl | rfl | rfl | rfl | rfl | rfl | rfl | rfl
  · exact .inr (.inr (.inl ⟨d, rfl, hd⟩))
  · exact .inr (.inr (.inr (.inl ⟨j, d, rfl, hj.1, hj.2, hd.1, hd.2⟩)))
  · exact .inr (.inr (.inr (.inr (.inl ⟨j, rfl, hj⟩))))
  · exact .inl rfl
  · exact .inr (.inl rfl)
  · exact .inr (.inr (.inr (.inr (.inr (.inl rfl)))))
  · exact .inr (.inr (.inr (.inr (.inr (.inr (.inl rfl))))))
  · exact .inr (.inr (.inr (.inr (.inr (.inr (.inr rfl))))))
theorem deedV_mem {D : Deck} {b r : Int} (hb : 2 ≤ b) (hr : 1 ≤ r) : deedV D b r ∈ allDeeds b r :=
  deedAt_mem ⟨dv_lo (by decide), dv_hi (by decide)⟩ (by
    have h1 : 0 ≤ dv (dn D 8) (b - 1) := dv_lo (by omega)
    have h2 : dv (dn D 8) (b - 1) < b - 1 := dv_hi (by omega)
    omega) ⟨dv_lo (by omega), dv_hi (by omega)⟩
end SY
namespace SY
open PySem PySem.Spec L2 SX
theorem Le.trans {a b c : En} (h1 : Le a b) (h2 : Le b c) : Le a c := ⟨h1.1.trans h2.1, fun k P h => by
  obtain ⟨P1, h3, h4⟩ := h2.2 k P h
  obtain ⟨P0, h5, h6⟩ := h1.2 k P1 h3
  exact ⟨P0, h5, fun G v z => h4 G v (h6 G v z)⟩⟩
def planQ (n : Int) (D : Deck) (i : Nat) (ds : List Deed) : Bool := decide (dv D n = 0) && (decide ((i : Int) = 0) || !decide ((ds.getD ((i : Int) - 1).toNat .right).word = "swap"))
def planX (b r n : Int) (D : Deck) (i : Nat) (ds : List Deed) : Deed := if planQ n D i ds = true then deedV (dn D n) b r else .right
def planD (b r n : Int) (D : Deck) (i : Nat) (ds : List Deed) : Deck := if planQ n D i ds = true then deedDk (dn D n) b r else dn D n
def planY (b : Int) (cs : List (List Int)) (i : Nat) (x : Deed) (c : Int) : Deed := if lawStep b cs i x c = none then .right else x
def planS (b r n : Int) (cs : List (List Int)) (D : Deck) : Nat → List Deed × Int × Deck
  | 0 => ([], 0, D)
  | i + 1 =>
    let s := planS b r n cs D i
    let y := planY b cs i (planX b r n s.2.2 i s.1) s.2.1
    (s.1 ++ [y], ((lawStep b cs i y s.2.1).getD ([], 0)).2, planD b r n s.2.2 i s.1)
theorem planX_ok {b r n : Int} {D : Deck} {i : Nat} {ds : List Deed} (hb : 2 ≤ b) (hr : 1 ≤ r) : DeedOk b r (planX b r n D i ds) := by
  unfold planX
  split
  · exact .inr (deedV_mem hb hr)
  · exact .inl rfl
theorem planY_ok {b r c : Int} {cs : List (List Int)} {i : Nat} {x : Deed} (h : DeedOk b r x) : DeedOk b r (planY b cs i x c) := by
  unfold planY
  split
  · exact .inl rfl
  · exact h
theorem step_right {b c : Int} {cs : List (List Int)} {i : Nat} : lawStep b cs i .right c = some ([((cs.getD i []).sum + c) % b], ((cs.getD i []).sum + c) / b) := rfl
theorem planY_some {b c : Int} {cs : List (List Int)} {i : Nat} {x : Deed} : ∃ w, lawStep b cs i (planY b cs i x c) c = some w := by
  unfold planY
  split
  · exact ⟨_, step_right⟩
  · rename_i h
    cases h2 : lawStep b cs i x c with
    | none => exact absurd h2 h
    | some w => exact ⟨w, rfl⟩
theorem step_nn {b r c : Int} {cs : List (List Int)} {i : Nat} {x : Deed} {w : List Int × Int} (g : GoodSh b r cs) (hi : i < cs.length) (hx : DeedOk b r x) (hc : 0 ≤ c) (h : lawStep b cs i x c = some w) : 0 ≤ w.2 := by
  have hg := g.row hi
  have hr := rowOk_ok (n := (cs.getD i []).length) hx (by rw [hg.1]; exact Int.le_refl _)
  have hb := g.b2
  unfold lawStep at h
  split at h
  · cases h
  · rename_i hno
    rw [← lawTaken_sum hr] at h
    have hcp : isCopy x = true → 0 < i := fun h1 => by
      by_cases h0 : i = 0
      · exact absurd (.inl ⟨h1, h0⟩) hno
      · omega
    have hnn := lawTaken_nn g hi hcp hx
    generalize (lawTaken b cs i x).sum = t at h hnn
    have h1 : 0 ≤ (t + c) / b := Int.ediv_nonneg (by omega) (by omega)
    have h2 : 0 ≤ (t + (t + c) / b) / b := Int.ediv_nonneg (by omega) (by omega)
    cases x <;> simp only [doSum] at h <;> first | (cases h; exact h1) | (cases h; exact h2) | (cases h; exact hc) | (cases h; show 0 ≤ _ + 1; omega) | (split at h <;> cases h; exact Int.le_refl _)
theorem planS_ok {b r n : Int} {cs : List (List Int)} {D : Deck} (g : GoodSh b r cs) : ∀ i, i ≤ cs.length → (planS b r n cs D i).1.length = i ∧ 0 ≤ (planS b r n cs D i).2.1 ∧ ∀ x ∈ (planS b r n cs D i).1, DeedOk b r x
  | 0, _ => ⟨rfl, Int.le_refl _, fun _ h => by cases h⟩
  | i + 1, hi => by
    obtain ⟨h1, h2, h3⟩ := planS_ok (n := n) (D := D) g i (by omega)
    have hx := planX_ok (n := n) (D := (planS b r n cs D i).2.2) (i := i) (ds := (planS b r n cs D i).1) g.b2 g.r1
    have hy := planY_ok (c := (planS b r n cs D i).2.1) (cs := cs) (i := i) hx
    refine ⟨by simp [planS, h1], ?_, ?_⟩
    · obtain ⟨w, hw⟩ := planY_some (b := b) (c := (planS b r n cs D i).2.1) (cs := cs) (i := i) (x := planX b r n (planS b r n cs D i).2.2 i (planS b r n cs D i).1)
      simp only [planS, hw, Option.getD_some]
      exact step_nn g (by omega) hy h2 hw
    · intro x hx
      simp only [planS, List.mem_append, List.mem_singleton] at hx
      rcases hx with hx | rfl
      · exact h3 x hx
      · exact hy
end SY

set_option Elab.async false
set_option linter.all false
set_option maxRecDepth 100000
/-! SZb: the law's own adding is the program's. -/
namespace SY
open PySem PySem.Spec L2 SX
def dAt (ds : List Deed) (i : Nat) : Deed := ds.getD i .right
def slipsFrom (ds : List Deed) (k : Nat) : Nat → List (Int × Deed)
  | 0 => []
  | n + 1 => if dAt ds k = .right then slipsFrom ds (k + 1) n else ((k : Int), dAt ds k) :: slipsFrom ds (k + 1) n
def slipsOf (ds : List Deed) : List (Int × Deed) := ((List.range ds.length).filter fun i => !decide (dAt ds i = .right)).map fun (i : Nat) => ((i : Int), dAt ds i)
theorem slipsFrom_eq (ds : List Deed) : ∀ (n k : Nat), slipsFrom ds k n = ((List.range' k n).filter fun i => !decide (dAt ds i = .right)).map fun (i : Nat) => ((i : Int), dAt ds i)
  | 0, _ => rfl
  | n + 1, k => by
    rw [List.range'_succ, List.filter_cons]
    unfold slipsFrom
    by_cases h : dAt ds k = .right
    · rw [if_pos h, if_neg (by simp [h]), slipsFrom_eq ds n]
    · rw [if_neg h, if_pos (by simp [h]), slipsFrom_eq ds n]
      rfl
theorem slipsOf_eq (ds : List Deed) : slipsOf ds = slipsFrom ds 0 ds.length := by
  rw [slipsFrom_eq, ← List.range_eq_range']
  rfl
/-- figures, the carry, what waits behind i columns -/
def addS (b : Int) (cs : List (List Int)) (ds : List Deed) : Nat → Option (List Int × Int × List Int)
  | 0 => some ([], 0, [])
  | i + 1 => (addS b cs ds i).bind fun s => (lawStep b cs i (dAt ds i) s.2.1).map fun w =>
      if s.2.2 ≠ [] then (s.1 ++ w.1 ++ s.2.2, w.2, []) else if dAt ds i = .swap then (s.1, w.2, w.1) else (s.1 ++ w.1, w.2, [])
theorem addS_some {b : Int} {cs : List (List Int)} {ds : List Deed} {i : Nat} {s : List Int × Int × List Int} (h : addS b cs ds (i + 1) = some s) :
    ∃ F c W w, addS b cs ds i = some (F, c, W) ∧ lawStep b cs i (dAt ds i) c = some w ∧ s = if W ≠ [] then (F ++ w.1 ++ W, w.2, []) else if dAt ds i = .swap then (F, w.2, w.1) else (F ++ w.1, w.2, []) := by
  simp only [addS, Option.bind_eq_some_iff, Option.map_eq_some_iff] at h
  obtain ⟨⟨F, c, W⟩, h1, w, h2, h3⟩ := h
  exact ⟨F, c, W, w, h1, h2, h3.symm⟩
theorem addS_pre {b : Int} {cs : List (List Int)} {ds : List Deed} {n : Nat} {s : List Int × Int × List Int} (h : addS b cs ds n = some s) : ∀ i, i ≤ n → ∃ t, addS b cs ds i = some t := by
  induction n generalizing s with
  | zero =>
    intro i hi
    have : i = 0 := by omega
    subst this
    exact ⟨s, h⟩
  | succ n ih =>
    intro i hi
    by_cases h0 : i = n + 1
    · subst h0
      exact ⟨s, h⟩
    · obtain ⟨F, c, W, w, h1, _⟩ := addS_some h
      exact ih h1 i (by omega)
theorem addS_none {b : Int} {cs : List (List Int)} {ds : List Deed} {i n : Nat} (hi : i ≤ n) (h : addS b cs ds i = none) : addS b cs ds n = none := by
  cases h2 : addS b cs ds n with
  | none => rfl
  | some s =>
    obtain ⟨t, ht⟩ := addS_pre h2 i hi
    rw [ht] at h
    cases h
section
variable {b r : Int} {cs : List (List Int)} {ds : List Deed} {n : Nat}
theorem dropTake {α : Type} {xs : List α} {lo k : Nat} (hk : k < xs.length) (hlo : lo ≤ k) {d : α} : (xs.take (k + 1)).drop lo = (xs.take k).drop lo ++ [xs.getD k d] := by
  rw [List.take_add_one, List.getElem?_eq_getElem hk, Option.toList, List.drop_append_of_le_length (by rw [List.length_take]; omega)]
  simp [List.getD, List.getElem?_eq_getElem hk]
/-- columns done rightly -/
theorem addS_rights {F : List Int} {c : Int} {lo : Nat} (h0 : addS b cs ds lo = some (F, c, [])) : ∀ k, lo ≤ k → k ≤ cs.length → (∀ j, lo ≤ j → j < k → dAt ds j = .right) →
    addS b cs ds k = some (F ++ (doCols b ((cs.take k).drop lo) c).1, (doCols b ((cs.take k).drop lo) c).2, []) := by
  intro k hk hn hr
  induction k with
  | zero =>
    have : lo = 0 := by omega
    subst this
    rw [h0]
    simp [doCols]
  | succ k ih =>
    by_cases hl : lo = k + 1
    · subst hl
      rw [h0]
      have : (cs.take (k + 1)).drop (k + 1) = [] := List.drop_eq_nil_of_le (by rw [List.length_take]; omega)
      rw [this]
      simp [doCols]
    · have ih := ih (by omega) (by omega) fun j h1 h2 => hr j h1 (by omega)
      have hd := hr k (by omega) (by omega)
      rw [dropTake (by omega) (by omega) (d := []), doCols_snoc]
      simp only [addS, ih, Option.bind_some, hd, step_right, Option.map_some]
      simp
theorem slip_step {i : Nat} {x : Deed} {c : Int} (hx : x ≠ .swap) : doSlip b cs i c x = lawStep b cs i x c := by
  unfold doSlip lawStep
  rw [if_neg hx]
theorem add_go (hl : n = cs.length) (hd : ∀ i, i < n → dAt ds i = .right ∨ dAt ds i ∈ allDeeds b r) (hadj : ∀ i, i + 1 < n → dAt ds i = .swap → dAt ds (i + 1) = .right) {Fn : List Int} {cn : Int} {Wn : List Int} (h : addS b cs ds n = some (Fn, cn, Wn)) :
    ∀ (m k lo : Nat) (F : List Int) (c : Int), k + m = n → lo ≤ k → (∀ j, lo ≤ j → j < k → dAt ds j = .right) → addS b cs ds lo = some (F, c, []) → Wn = [] ∧ ∃ G, addV b r cs (slipsFrom ds k m) lo c = some (G, cn) ∧ F ++ G = Fn := by
  intro m
  induction m using Nat.strongRecOn with
  | ind m ih =>
  intro k lo F c hk hlo hr h0
  cases m with
  | zero =>
    have : k = n := by omega
    subst this
    have h1 := addS_rights h0 k hlo (by omega) hr
    rw [h] at h1
    rw [hl, List.take_length] at h1
    injection h1 with h1
    injection h1 with e1 e2
    injection e2 with e2 e3
    refine ⟨e3, (doCols b (cs.drop lo) c).1, ?_, e1.symm⟩
    rw [e2]
    rfl
  | succ m =>
    by_cases hk0 : dAt ds k = .right
    · unfold slipsFrom
      rw [if_pos hk0]
      refine ih m (by omega) (k + 1) lo F c (by omega) (by omega) (fun j h1 h2 => ?_) h0
      by_cases hj : j = k
      · rw [hj]; exact hk0
      · exact hr j h1 (by omega)
    · unfold slipsFrom
      rw [if_neg hk0]
      have hmem : dAt ds k ∈ allDeeds b r := (hd k (by omega)).resolve_left hk0
      have hk1 := addS_rights h0 k hlo (by omega) hr
      obtain ⟨t, ht⟩ := addS_pre h (k + 1) (by omega)
      obtain ⟨F', c', W', w, h2, h3, rfl⟩ := addS_some ht
      rw [hk1] at h2
      injection h2 with h2
      injection h2 with e1 e2
      injection e2 with e2 e3
      subst e1 e2 e3
      rw [if_neg (by simp)] at ht
      unfold addV
      rw [if_pos ⟨by omega, by omega, hmem⟩, Int.toNat_natCast]
      by_cases hs : dAt ds k = .swap
      · rw [if_pos hs] at ht
        rw [hs] at h3 ⊢
        have hne : ¬ (k + 1 = cs.length) := fun e => by
          unfold lawStep at h3
          rw [if_pos (.inr ⟨rfl, e⟩)] at h3
          cases h3
        have hr1 := hadj k (by omega) hs
        have h3' : w = ([((cs.getD k []).sum + (doCols b ((cs.take k).drop lo) c).2) % b], ((cs.getD k []).sum + (doCols b ((cs.take k).drop lo) c).2) / b) := by
          unfold lawStep at h3
          rw [if_neg (by rintro (⟨z, _⟩ | ⟨_, z⟩); · cases z
                         · exact hne z)] at h3
          exact (Option.some.inj h3).symm
        subst h3'
        have ht4 : addS b cs ds (k + 2) = some (F ++ (doCols b ((cs.take k).drop lo) c).1 ++ [((cs.getD (k + 1) []).sum + ((cs.getD k []).sum + (doCols b ((cs.take k).drop lo) c).2) / b) % b] ++ [((cs.getD k []).sum + (doCols b ((cs.take k).drop lo) c).2) % b], ((cs.getD (k + 1) []).sum + ((cs.getD k []).sum + (doCols b ((cs.take k).drop lo) c).2) / b) / b, []) := by
          rw [show k + 2 = k + 1 + 1 from rfl, addS, addS, hk1]
          simp only [Option.bind_some, hs, h3, Option.map_some]
          simp only [hr1, step_right]
          simp
        cases m with
        | zero => omega
        | succ m =>
        have hsl : slipsFrom ds (k + 1) (m + 1) = slipsFrom ds (k + 2) m := by
          conv => lhs; unfold slipsFrom
          rw [if_pos hr1]
        obtain ⟨hW, G, hG, hFG⟩ := ih m (by omega) (k + 2) (k + 2) _ _ (by omega) (Nat.le_refl _) (fun j h1 h2 => by omega) ht4
        refine ⟨hW, (doCols b ((cs.take k).drop lo) c).1 ++ [((cs.getD (k + 1) []).sum + ((cs.getD k []).sum + (doCols b ((cs.take k).drop lo) c).2) / b) % b, ((cs.getD k []).sum + (doCols b ((cs.take k).drop lo) c).2) % b] ++ G, ?_, ?_⟩
        · have hcut : (cs.take (k + 2)).drop k = [cs.getD k [], cs.getD (k + 1) []] := by
            rw [dropTake (by omega) (by omega) (d := []), dropTake (by omega) (by omega) (d := [])]
            have : (cs.take k).drop k = [] := List.drop_eq_nil_of_le (by rw [List.length_take]; omega)
            rw [this]
            rfl
          have hds : doSlip b cs k (doCols b ((cs.take k).drop lo) c).2 .swap = some ([((cs.getD (k + 1) []).sum + ((cs.getD k []).sum + (doCols b ((cs.take k).drop lo) c).2) / b) % b, ((cs.getD k []).sum + (doCols b ((cs.take k).drop lo) c).2) % b], ((cs.getD (k + 1) []).sum + ((cs.getD k []).sum + (doCols b ((cs.take k).drop lo) c).2) / b) / b) := by
            unfold doSlip
            rw [if_neg (by rintro (⟨z, _⟩ | ⟨_, z⟩); · cases z
                           · exact hne z), if_pos rfl, hcut]
            rfl
          rw [hds, Option.bind_some, if_pos rfl, hsl, hG]
          rfl
        · rw [← hFG]
          simp
      · rw [if_neg hs] at ht
        rw [slip_step hs, h3, Option.bind_some, if_neg hs]
        obtain ⟨hW, G, hG, hFG⟩ := ih m (by omega) (k + 1) (k + 1) _ _ (by omega) (Nat.le_refl _) (fun j h1 h2 => by omega) ht
        refine ⟨hW, _, by rw [hG]; rfl, ?_⟩
        rw [← hFG]
        simp
end
end SY
namespace SY
open PySem PySem.Spec L2 SX
section
variable {b r n : Int} {cs : List (List Int)} {D : Deck}
theorem planS_len : ∀ i, (planS b r n cs D i).1.length = i
  | 0 => rfl
  | i + 1 => by simp [planS, planS_len i]
theorem getD_app_r {α : Type} {xs : List α} {y d : α} {i : Nat} (h : xs.length = i) : (xs ++ [y]).getD i d = y := by
  subst h
  simp [List.getD]
theorem getD_app_l {α : Type} {xs ys : List α} {d : α} {i : Nat} (h : i < xs.length) : (xs ++ ys).getD i d = xs.getD i d := by
  simp [List.getD, List.getElem?_append_left h]
theorem planS_at : ∀ (m i : Nat), i < m → dAt (planS b r n cs D m).1 i = planY b cs i (planX b r n (planS b r n cs D i).2.2 i (planS b r n cs D i).1) (planS b r n cs D i).2.1
  | 0, _, h => absurd h (Nat.not_lt_zero _)
  | m + 1, i, h => by
    unfold dAt
    simp only [planS]
    by_cases hi : i = m
    · subst hi
      exact getD_app_r (planS_len i)
    · rw [getD_app_l (by rw [planS_len]; omega)]
      exact planS_at m i (by omega)
theorem planS_pre {m i : Nat} (h : i ≤ m) : ∀ j, j < i → dAt (planS b r n cs D m).1 j = dAt (planS b r n cs D i).1 j := fun j hj => by
  rw [planS_at m j (by omega), planS_at i j hj]
theorem planS_add : ∀ i, i ≤ cs.length → ∃ F W, addS b cs (planS b r n cs D cs.length).1 i = some (F, (planS b r n cs D i).2.1, W)
  | 0, _ => ⟨[], [], rfl⟩
  | i + 1, hi => by
    obtain ⟨F, W, h⟩ := planS_add i (by omega)
    obtain ⟨w, hw⟩ := planY_some (b := b) (c := (planS b r n cs D i).2.1) (cs := cs) (i := i) (x := planX b r n (planS b r n cs D i).2.2 i (planS b r n cs D i).1)
    have hc : (planS b r n cs D (i + 1)).2.1 = w.2 := by simp only [planS, hw, Option.getD_some]
    simp only [addS, h, Option.bind_some, planS_at _ i hi, hw, Option.map_some, hc]
    split
    · exact ⟨_, _, rfl⟩
    · split
      · exact ⟨_, _, rfl⟩
      · exact ⟨_, _, rfl⟩
theorem planS_adj (i : Nat) (hi : i + 1 < cs.length) (h : dAt (planS b r n cs D cs.length).1 i = .swap) : dAt (planS b r n cs D cs.length).1 (i + 1) = .right := by
  rw [planS_at _ (i + 1) hi]
  have hx : planX b r n (planS b r n cs D (i + 1)).2.2 (i + 1) (planS b r n cs D (i + 1)).1 = .right := by
    unfold planX
    rw [if_neg]
    unfold planQ
    rw [planS_pre (i := i + 1) (by omega) i (by omega)] at h
    have h2 : (((i + 1 : Nat) : Int) - 1).toNat = i := by omega
    rw [h2, show (planS b r n cs D (i + 1)).1.getD i .right = .swap from h, decide_eq_false (show ¬ ((i + 1 : Nat) : Int) = 0 by omega)]
    simp [Deed.word]
  rw [hx]
  unfold planY
  split <;> rfl
theorem dAt_mem {ds : List Deed} {i : Nat} (h : i < ds.length) : dAt ds i ∈ ds := by
  unfold dAt
  simp [List.getD, List.getElem?_eq_getElem h]
/-- planned slips: what the law adds is what the program writes -/
theorem plan_add (g : GoodSh b r cs) : ∃ F c, addS b cs (planS b r n cs D cs.length).1 cs.length = some (F, c, []) ∧ addV b r cs (slipsOf (planS b r n cs D cs.length).1) 0 0 = some (F, c) := by
  obtain ⟨F, W, h⟩ := planS_add (b := b) (r := r) (n := n) (D := D) cs.length (Nat.le_refl _)
  obtain ⟨h1, h2, h3⟩ := planS_ok (n := n) (D := D) g cs.length (Nat.le_refl _)
  obtain ⟨hW, G, hG, hF⟩ := add_go (r := r) rfl (fun i hi => h3 _ (dAt_mem (by rw [h1]; exact hi))) planS_adj h cs.length 0 0 [] 0 (by omega) (Nat.le_refl _) (fun j h1 h2 => by omega) rfl
  subst hW
  rw [List.nil_append] at hF
  subst hF
  refine ⟨G, _, h, ?_⟩
  rw [slipsOf_eq, h1]
  exact hG
end
end SY
namespace SY
open PySem PySem.Spec L2 SX
def addR : Option (List Int × Int × List Int) → PyData
  | none => .none
  | some (F, c, _) => .tuple [.list (F.map .int), .int c]
theorem step_len {b c : Int} {cs : List (List Int)} {i : Nat} {x : Deed} {w : List Int × Int} (h : lawStep b cs i x c = some w) : w.1.length ≤ 2 := by
  unfold lawStep at h
  split at h
  · cases h
  · exact doSum_len h
theorem addS_ok {b r : Int} {cs : List (List Int)} {ds : List Deed} (g : GoodSh b r cs) (hd : ∀ i, i < cs.length → DeedOk b r (dAt ds i)) : ∀ i, i ≤ cs.length → ∀ {F c W}, addS b cs ds i = some (F, c, W) → 0 ≤ c ∧ F.length + W.length ≤ 2 * i
  | 0, _, F, c, W, h => by
    cases h
    exact ⟨Int.le_refl _, Nat.le_refl _⟩
  | i + 1, hi, F, c, W, h => by
    obtain ⟨F', c', W', w, h1, h2, h3⟩ := addS_some h
    obtain ⟨h4, h5⟩ := addS_ok g hd i (by omega) h1
    have h6 := step_nn g (by omega) (hd i (by omega)) h4 h2
    have h7 := step_len h2
    split at h3
    · cases h3
      refine ⟨h6, ?_⟩
      simp only [List.length_append, List.length_nil]
      omega
    · split at h3
      · cases h3
        exact ⟨h6, by omega⟩
      · cases h3
        refine ⟨h6, ?_⟩
        simp only [List.length_append, List.length_nil]
        omega
end SY
namespace SY
theorem slipsOf_len (ds : List Deed) : (slipsOf ds).length ≤ ds.length := by
  unfold slipsOf
  rw [List.length_map]
  exact Nat.le_trans (List.length_filter_le _ _) (by rw [List.length_range]; exact Nat.le_refl _)
end SY

set_option Elab.async false
set_option linter.all false
set_option maxRecDepth 100000
/-! SZc: the effects of slips. -/
namespace SY
open PySem PySem.Spec L2 SX
def effV (b : Int) (x : Deed) (F : List Int) (p : Nat) (fg : Int) : Int := match x with
  | .forget => 0 - fg * b ^ (p + 1)
  | .again => b ^ (p + 1)
  | .off d => (F.getD p 0 - (F.getD p 0 - d) % b) * b ^ p
  | .swap => (F.getD (p + 1) 0 - F.getD p 0) * (b - 1) * b ^ p
  | _ => 0
def tot0 (b : Int) (F : List Int) (fg : Int) (x : Deed) (t : Int) (p : Nat) : Int := if x = .right then t else t + effV b x F p fg
def tot1 (b : Int) (s : Int) (x : Deed) (t : Int) (p : Nat) : Int × Nat := if x = .out then (t, p) else (t + s * b ^ p, p + 1)
def tot2 (b : Int) (s : Int) (x : Deed) (t : Int × Nat) : Int × Nat := if x = .twice then (t.1 + s * b ^ t.2, t.2 + 1) else t
def totS (b : Int) (cs : List (List Int)) (ds : List Deed) (F : List Int) (fg : Nat → Int) : Nat → Int × Nat
  | 0 => (0, 0)
  | i + 1 => tot2 b (cs.getD i []).sum (dAt ds i) (tot1 b (lawTaken b cs i (dAt ds i)).sum (dAt ds i) (tot0 b F (fg i) (dAt ds i) (totS b cs ds F fg i).1 (totS b cs ds F fg i).2) (totS b cs ds F fg i).2)
theorem horner_one (b x y : Int) (l : List Int) : horner b (l ++ [x]) y = horner b l 0 + x * b ^ l.length + y * (b ^ l.length * b) := by
  rw [horner_last, horner_snoc, List.length_append, List.length_singleton, Int.pow_succ]
  grind
theorem horner_two (b x y z : Int) (l : List Int) : horner b (l ++ [x, y]) z = horner b l 0 + x * b ^ l.length + y * (b ^ l.length * b) + z * (b ^ l.length * b * b) := by
  rw [show l ++ [x, y] = (l ++ [x]) ++ [y] by simp, horner_one, horner_snoc, List.length_append, List.length_singleton, Int.pow_succ]
theorem divmod (b t : Int) : t = (t / b) * b + t % b := by
  have := Int.mul_ediv_add_emod t b
  grind
theorem addS_ext {b : Int} {cs : List (List Int)} {ds : List Deed} {i : Nat} {F : List Int} {c : Int} {W : List Int} (h : addS b cs ds i = some (F, c, W)) : ∀ {n : Nat} {G : List Int} {e : Int} {Z : List Int}, i ≤ n → addS b cs ds n = some (G, e, Z) → ∃ R, G = F ++ R := by
  intro n
  induction n with
  | zero =>
    intro G e Z hi h2
    have : i = 0 := by omega
    subst this
    rw [h] at h2
    cases h2
    exact ⟨[], by simp⟩
  | succ n ih =>
    intro G e Z hi h2
    by_cases h0 : i = n + 1
    · subst h0
      rw [h] at h2
      cases h2
      exact ⟨[], by simp⟩
    · obtain ⟨F', c', W', w, h1, _, h3⟩ := addS_some h2
      obtain ⟨R, rfl⟩ := ih (by omega) h1
      split at h3
      · cases h3
        exact ⟨R ++ w.1 ++ W', by simp⟩
      · split at h3
        · cases h3
          exact ⟨R, rfl⟩
        · cases h3
          exact ⟨R ++ w.1, by simp⟩
theorem getD_mid {F R : List Int} {x : Int} {p : Nat} (h : p = F.length) : (F ++ x :: R).getD p 0 = x := by
  subst h
  simp [List.getD]
theorem getD_mid2 {F R : List Int} {x y : Int} {p : Nat} (h : p = F.length + 1) : (F ++ x :: y :: R).getD p 0 = y := by
  subst h
  simp [List.getD]
section
variable {b r : Int} {cs : List (List Int)} {ds : List Deed}
def adjV (b : Int) (F Fi W : List Int) : Int := match W with
  | [] => 0
  | f :: _ => (f - F.getD Fi.length 0) * (b - 1) * b ^ Fi.length
/-- what waits: nothing, or one figure behind a swap -/
theorem addS_wait {i : Nat} (hi : i ≤ cs.length) {F : List Int} {c : Int} {W : List Int} (hadj : ∀ i, i + 1 < cs.length → dAt ds i = .swap → dAt ds (i + 1) = .right) (h : addS b cs ds i = some (F, c, W)) :
    W = [] ∨ (∃ f, W = [f]) ∧ (i < cs.length → dAt ds i = .right) := by
  cases i with
  | zero =>
    cases h
    exact .inl rfl
  | succ i =>
    obtain ⟨F', c', W', w, h1, h2, h3⟩ := addS_some h
    split at h3
    · cases h3
      exact .inl rfl
    · split at h3
      · rename_i hs
        cases h3
        refine .inr ⟨?_, fun hn => hadj i hn hs⟩
        rw [hs] at h2
        unfold lawStep at h2
        split at h2
        · cases h2
        · cases h2
          exact ⟨_, rfl⟩
      · cases h3
        exact .inl rfl
theorem tot_inv (g : GoodSh b r cs) (hd : ∀ i, i < cs.length → DeedOk b r (dAt ds i)) (hadj : ∀ i, i + 1 < cs.length → dAt ds i = .swap → dAt ds (i + 1) = .right) {F : List Int} {cn : Int} (hn : addS b cs ds cs.length = some (F, cn, [])) {fg : Nat → Int}
    (hfg : ∀ i F c W, i < cs.length → addS b cs ds i = some (F, c, W) → fg i = ((cs.getD i []).sum + c) / b) :
    ∀ i, i ≤ cs.length → ∀ {Fi ci Wi}, addS b cs ds i = some (Fi, ci, Wi) → (totS b cs ds F fg i).1 = horner b (Fi ++ Wi) ci + adjV b F Fi Wi ∧ (totS b cs ds F fg i).2 = (Fi ++ Wi).length := by
  intro i
  induction i with
  | zero =>
    intro _ Fi ci Wi h
    cases h
    exact ⟨rfl, rfl⟩
  | succ i ih =>
    intro hi Fi ci Wi h
    obtain ⟨F0, c0, W0, w, h1, h2, h3⟩ := addS_some h
    obtain ⟨i1, i2⟩ := ih (by omega) h1
    have hb2 := g.b2
    have hrow := g.row (n := i) (by omega)
    have hr := rowOk_ok (n := (cs.getD i []).length) (hd i (by omega)) (by rw [hrow.1]; exact Int.le_refl _)
    have hfi := hfg i F0 c0 W0 (by omega) h1
    simp only [totS]
    generalize (totS b cs ds F fg i).1 = t at i1 ⊢
    generalize (totS b cs ds F fg i).2 = p at i2 ⊢
    generalize fg i = fgi at hfi ⊢
    have hP : b ^ (p + 1) = b ^ p * b := Int.pow_succ _ _
    rcases addS_wait (by omega) hadj h1 with rfl | ⟨⟨f, rfl⟩, hrt⟩
    · -- nothing waits
      rw [if_neg (by simp)] at h3
      simp only [List.append_nil, adjV, Int.add_zero] at i1 i2
      rw [horner_last] at i1
      have hT := lawTaken_sum (b := b) (cs := cs) (i := i) hr
      unfold lawStep at h2
      split at h2
      · cases h2
      rename_i hno
      rw [← hT] at h2
      obtain ⟨R, hR⟩ := addS_ext h hi hn
      generalize (lawTaken b cs i (dAt ds i)).sum = S at h2 hT ⊢
      have hdm := divmod b (S + c0)
      generalize hx : dAt ds i = x at h2 h3 hT ⊢
      have hlp : b ^ F0.length = b ^ p := by rw [i2]
      cases x with
      | swap =>
        cases h2
        rw [if_pos rfl] at h3
        cases h3
        have hne : i + 1 < cs.length := by
          by_cases he : i + 1 = cs.length
          · exact absurd (.inr ⟨hx, he⟩) hno
          · omega
        have hr1 := hadj i hne hx
        obtain ⟨s2, hs2⟩ := addS_pre hn (i + 1 + 1) (by omega)
        obtain ⟨F1, c1, W1, w1, k1, k2, k3⟩ := addS_some hs2
        rw [h] at k1
        cases k1
        rw [if_pos (by simp)] at k3
        rw [hr1, step_right] at k2
        cases k2
        subst k3
        obtain ⟨R2, hR2⟩ := addS_ext hs2 (by omega) hn
        simp only [tot0, tot1, tot2, reduceCtorEq, if_false, adjV, effV]
        have hF1 : F.getD (p + 1) 0 = (S + c0) % b := by
          rw [hR2]
          simp only [List.append_assoc, List.cons_append, List.nil_append]
          exact getD_mid2 (by omega)
        rw [hF1, horner_one, hlp, i1, i2.symm]
        refine ⟨?_, by simp [i2]⟩
        generalize F.getD p 0 = f2
        generalize (S + c0) % b = f1 at hdm ⊢
        generalize (S + c0) / b = c' at hdm ⊢
        generalize b ^ p = P
        grind
      | forget =>
        simp only [doSum] at h2
        split at h2
        · cases h2
          rw [if_neg (by simp)] at h3
          cases h3
          simp only [tot0, tot1, tot2, reduceCtorEq, if_false, adjV, effV, List.append_nil, Int.add_zero]
          have hS : S = (cs.getD i []).sum := hT
          rw [horner_one, hlp, i1, hfi, ← hS, hP, hlp]
          refine ⟨?_, by simp [i2]⟩
          generalize (S + c0) % b = f1 at hdm ⊢
          generalize (S + c0) / b = c' at hdm ⊢
          generalize b ^ p = P
          grind
        · cases h2
      | again =>
        cases h2
        rw [if_neg (by simp)] at h3
        cases h3
        simp only [tot0, tot1, tot2, reduceCtorEq, if_false, adjV, effV, List.append_nil, Int.add_zero]
        rw [horner_one, hlp, i1, hP, hlp]
        refine ⟨?_, by simp [i2]⟩
        generalize (S + c0) % b = f1 at hdm ⊢
        generalize (S + c0) / b = c' at hdm ⊢
        generalize b ^ p = P
        grind
      | off d =>
        cases h2
        rw [if_neg (by simp)] at h3
        cases h3
        simp only [tot0, tot1, tot2, reduceCtorEq, if_false, adjV, effV, List.append_nil, Int.add_zero]
        have hFp : F.getD p 0 = ((S + c0) % b + d) % b := by
          rw [hR, List.append_assoc]
          exact getD_mid i2
        have hoff : ((((S + c0) % b + d) % b) - d) % b = (S + c0) % b := by
          rw [Int.emod_sub_emod, Int.add_sub_cancel, Int.emod_emod]
        rw [hFp, hoff, horner_one, hlp, i1, hlp]
        refine ⟨?_, by simp [i2]⟩
        generalize ((S + c0) % b + d) % b = gq
        generalize (S + c0) % b = f1 at hdm ⊢
        generalize (S + c0) / b = c' at hdm ⊢
        generalize b ^ p = P
        grind
      | twice =>
        cases h2
        rw [if_neg (by simp)] at h3
        cases h3
        have hS : S = (cs.getD i []).sum := hT
        simp only [tot0, tot1, tot2, reduceCtorEq, if_false, if_true, adjV, effV, List.append_nil, Int.add_zero]
        have hdm2 := divmod b (S + (S + c0) / b)
        rw [horner_two, hlp, i1, hP, ← hS, hlp]
        refine ⟨?_, by simp [i2]⟩
        generalize (S + (S + c0) / b) % b = f2 at hdm2 ⊢
        generalize (S + (S + c0) / b) / b = c2 at hdm2 ⊢
        generalize (S + c0) % b = f1 at hdm ⊢
        generalize (S + c0) / b = c' at hdm hdm2 ⊢
        generalize b ^ p = P
        grind
      | out =>
        cases h2
        rw [if_neg (by simp)] at h3
        cases h3
        simp only [tot0, tot1, tot2, reduceCtorEq, if_false, if_true, adjV, effV, List.append_nil, Int.add_zero]
        rw [i1]
        exact ⟨(horner_last _ _ _).symm, i2⟩
      | _ =>
        cases h2
        rw [if_neg (by simp)] at h3
        cases h3
        simp only [tot0, tot1, tot2, reduceCtorEq, if_false, if_true, adjV, effV, List.append_nil, Int.add_zero]
        rw [horner_one, hlp, i1, hlp]
        refine ⟨?_, by simp [i2]⟩
        generalize (S + c0) % b = f1 at hdm ⊢
        generalize (S + c0) / b = c' at hdm ⊢
        generalize b ^ p = P
        grind
    · -- a figure waits
      rw [if_pos (by simp)] at h3
      have hx := hrt (by omega)
      rw [hx, step_right] at h2
      cases h2
      cases h3
      obtain ⟨R, hR⟩ := addS_ext h hi hn
      rw [hx]
      simp only [tot0, tot1, tot2, reduceCtorEq, if_false, if_true, adjV, List.append_nil, Int.add_zero]
      have hl : p = F0.length + 1 := by simpa using i2
      have hP0 : b ^ p = b ^ F0.length * b := by rw [hl]; exact Int.pow_succ _ _
      have hF : F.getD F0.length 0 = ((cs.getD i []).sum + c0) % b := by
        rw [hR]
        simp only [List.append_assoc, List.cons_append, List.nil_append]
        exact getD_mid rfl
      simp only [adjV] at i1
      rw [hF, horner_one] at i1
      have hT : (lawTaken b cs i .right).sum = (cs.getD i []).sum := rfl
      have hdm := divmod b ((cs.getD i []).sum + c0)
      rw [hT, List.append_assoc, show [((cs.getD i []).sum + c0) % b] ++ [f] = [((cs.getD i []).sum + c0) % b, f] from rfl, horner_two, i1, hP0]
      refine ⟨?_, by simp [hl]⟩
      generalize (cs.getD i []).sum = S at hdm ⊢
      generalize (S + c0) % b = f2 at hdm ⊢
      generalize (S + c0) / b = c' at hdm ⊢
      generalize b ^ F0.length = P
      grind
end
end SY
namespace SY
open PySem PySem.Spec L2 SX
section
variable {b r : Int} {cs : List (List Int)} {ds : List Deed}
theorem tot_end (g : GoodSh b r cs) (hd : ∀ i, i < cs.length → DeedOk b r (dAt ds i)) (hadj : ∀ i, i + 1 < cs.length → dAt ds i = .swap → dAt ds (i + 1) = .right) {F : List Int} {cn : Int} (hn : addS b cs ds cs.length = some (F, cn, [])) {fg : Nat → Int}
    (hfg : ∀ i F c W, i < cs.length → addS b cs ds i = some (F, c, W) → fg i = ((cs.getD i []).sum + c) / b) : totS b cs ds F fg cs.length = (horner b F cn, F.length) := by
  obtain ⟨h1, h2⟩ := tot_inv g hd hadj hn hfg cs.length (Nat.le_refl _) hn
  rw [List.append_nil] at h1 h2
  exact Prod.ext (by rw [h1]; exact Int.add_zero _) h2
/-! the slips ahead of a column -/
theorem slipsFrom_snoc (ds : List Deed) : ∀ (n k : Nat), slipsFrom ds k (n + 1) = slipsFrom ds k n ++ if dAt ds (k + n) = .right then [] else [(((k + n : Nat) : Int), dAt ds (k + n))]
  | 0, k => by
    unfold slipsFrom
    split <;> simp_all [slipsFrom]
  | n + 1, k => by
    have ih := slipsFrom_snoc ds n (k + 1)
    have e : k + 1 + n = k + (n + 1) := by omega
    rw [e] at ih
    conv => lhs; unfold slipsFrom
    conv => rhs; unfold slipsFrom
    split
    · exact ih
    · rw [ih]
      rfl
theorem slipsFrom_ext {ds es : List Deed} : ∀ (n k : Nat), (∀ j, k ≤ j → j < k + n → dAt ds j = dAt es j) → slipsFrom ds k n = slipsFrom es k n
  | 0, _, _ => rfl
  | n + 1, k, h => by
    unfold slipsFrom
    rw [h k (Nat.le_refl _) (by omega), slipsFrom_ext n (k + 1) fun j h1 h2 => h j (by omega) (by omega)]
theorem slipsFrom_lt (ds : List Deed) : ∀ (n : Nat), ∀ s ∈ slipsFrom ds 0 n, s.1 < (n : Int)
  | 0, s, h => by cases h
  | n + 1, s, h => by
    rw [slipsFrom_snoc, Nat.zero_add, List.mem_append] at h
    rcases h with h | h
    · have := slipsFrom_lt ds n s h
      omega
    · split at h
      · cases h
      · simp only [List.mem_singleton] at h
        subst h
        show ((n : Nat) : Int) < _
        omega
theorem slips_ahead (ds : List Deed) (i : Nat) : ∀ n, i ≤ n → (slipsFrom ds 0 n).filter (fun s => decide (s.1 < (i : Int))) = slipsFrom ds 0 i := by
  intro n hn
  induction n with
  | zero =>
    have : i = 0 := by omega
    subst this
    rfl
  | succ n ih =>
    by_cases h0 : i = n + 1
    · subst h0
      exact List.filter_eq_self.mpr fun s hs => decide_eq_true (slipsFrom_lt ds _ s hs)
    · rw [slipsFrom_snoc, List.filter_append, ih (by omega), Nat.zero_add]
      have : (if dAt ds n = .right then [] else [(((n : Nat) : Int), dAt ds n)]).filter (fun s : Int × Deed => decide (s.1 < (i : Int))) = [] := by
        split
        · rfl
        · rw [List.filter_cons, if_neg (by simp; omega)]
          rfl
      rw [this, List.append_nil]
theorem dAt_take {i j : Nat} (hi : i ≤ ds.length) (hj : j < i) : dAt (ds.take i ++ [.right]) j = dAt ds j := by
  unfold dAt
  rw [getD_app_l (by rw [List.length_take]; omega)]
  simp [List.getD, List.getElem?_take, hj]
theorem dAt_last {i : Nat} (hi : i ≤ ds.length) : dAt (ds.take i ++ [.right]) i = .right := by
  unfold dAt
  exact getD_app_r (by rw [List.length_take]; omega)
theorem getD_take {α : Type} {xs : List α} {i j : Nat} {d : α} (hj : j < i) : (xs.take i).getD j d = xs.getD j d := by
  simp [List.getD, List.getElem?_take, hj]
theorem step_take {i j : Nat} (hi : i < cs.length) (hj : j < i) (x : Deed) (c : Int) : lawStep b (cs.take (i + 1)) j x c = lawStep b cs j x c := by
  have e1 : (cs.take (i + 1)).getD j [] = cs.getD j [] := getD_take (by omega)
  have e2 : copiedV (cs.take (i + 1)) j x = copiedV cs j x := by
    cases x <;> first | rfl | (show ((cs.take (i + 1)).getD (j - 1) []).getD _ 0 = _; rw [getD_take (by omega)]; rfl)
  have e3 : (isCopy x = true ∧ j = 0 ∨ x = .swap ∧ j + 1 = (cs.take (i + 1)).length) ↔ (isCopy x = true ∧ j = 0 ∨ x = .swap ∧ j + 1 = cs.length) := by
    rw [List.length_take]
    constructor <;> rintro (h | ⟨h1, h2⟩) <;> first | exact .inl h | (exfalso; omega)
  unfold lawStep
  rw [e1, e2]
  by_cases h : isCopy x = true ∧ j = 0 ∨ x = .swap ∧ j + 1 = cs.length
  · rw [if_pos h, if_pos (e3.mpr h)]
  · rw [if_neg h, if_neg fun z => h (e3.mp z)]
theorem addS_take {i : Nat} (hi : i < cs.length) (hl : cs.length ≤ ds.length) : ∀ j, j ≤ i → addS b (cs.take (i + 1)) (ds.take i ++ [.right]) j = addS b cs ds j
  | 0, _ => rfl
  | j + 1, hj => by
    have ih := addS_take hi hl j (by omega)
    simp only [addS, ih]
    rw [dAt_take (by omega) (by omega)]
    simp only [step_take hi (show j < i by omega)]
/-- the carry that was forgotten, by the slips ahead alone -/
theorem forgotten (g : GoodSh b r cs) (hl : cs.length ≤ ds.length) (hd : ∀ i, i < cs.length → DeedOk b r (dAt ds i)) (hadj : ∀ i, i + 1 < cs.length → dAt ds i = .swap → dAt ds (i + 1) = .right) {i : Nat} (hi : i < cs.length) (hx : dAt ds i ≠ .right) {F : List Int} {c : Int} {W : List Int} (h : addS b cs ds i = some (F, c, W)) :
    ∃ G, addV b r (cs.take (i + 1)) ((slipsFrom ds 0 cs.length).filter fun s => decide (s.1 < (i : Int))) 0 0 = some (G, ((cs.getD i []).sum + c) / b) := by
  rw [slips_ahead ds i cs.length (by omega)]
  have hW : W = [] := by
    rcases addS_wait (by omega) hadj h with h1 | ⟨_, h2⟩
    · exact h1
    · exact absurd (h2 hi) hx
  subst hW
  have h1 := addS_take (b := b) (cs := cs) (ds := ds) hi hl i (Nat.le_refl _)
  rw [h] at h1
  have h2 : addS b (cs.take (i + 1)) (ds.take i ++ [.right]) (i + 1) = some (F ++ [((cs.getD i []).sum + c) % b], ((cs.getD i []).sum + c) / b, []) := by
    simp only [addS, h1, Option.bind_some, dAt_last (show i ≤ ds.length by omega), step_right, Option.map_some, getD_take (show i < i + 1 by omega)]
    simp
  have hlen : i + 1 = (cs.take (i + 1)).length := by rw [List.length_take]; omega
  have hd2 : ∀ j, j < i + 1 → dAt (ds.take i ++ [.right]) j = .right ∨ dAt (ds.take i ++ [.right]) j ∈ allDeeds b r := fun j hj => by
    by_cases hji : j = i
    · subst hji
      exact .inl (dAt_last (by omega))
    · rw [dAt_take (by omega) (by omega)]
      exact hd j (by omega)
  have ha2 : ∀ j, j + 1 < i + 1 → dAt (ds.take i ++ [.right]) j = .swap → dAt (ds.take i ++ [.right]) (j + 1) = .right := fun j hj hs => by
    by_cases hji : j + 1 = i
    · rw [hji]
      exact dAt_last (by omega)
    · rw [dAt_take (by omega) (by omega)] at hs ⊢
      exact hadj j (by omega) hs
  obtain ⟨_, G, hG, _⟩ := add_go (b := b) (r := r) (cs := cs.take (i + 1)) (ds := ds.take i ++ [.right]) (n := i + 1) hlen hd2 ha2 h2 (i + 1) 0 0 [] 0 (by omega) (Nat.le_refl _) (fun j a b => by omega) rfl
  refine ⟨G, ?_⟩
  rw [← hG]
  congr 1
  rw [slipsFrom_snoc, Nat.zero_add, dAt_last (by omega), if_pos rfl, List.append_nil]
  exact slipsFrom_ext i 0 fun j _ h2 => (dAt_take (by omega) (by omega)).symm
/-! limits -/
theorem goodSh_take (g : GoodSh b r cs) (n : Nat) : GoodSh b r (cs.take n) := ⟨g.b2, g.b12, g.r1, g.r4, by have := g.len; rw [List.length_take]; omega, fun x hx => g.col x (List.mem_of_mem_take hx)⟩
theorem lawTaken_good (g : GoodSh b r cs) {i : Nat} {x : Deed} (hi : i < cs.length) (hc : isCopy x = true → 0 < i) (hx : DeedOk b r x) : GoodCol b r (lawTaken b cs i x) := by
  have h1 := g.row hi
  have hb := g.b2
  refine ⟨by rw [lawTaken_len]; exact h1.1, fun y hy => ?_⟩
  cases x with
  | read j d =>
    rcases List.mem_or_eq_of_mem_set hy with h | rfl
    · exact h1.2 _ h
    · exact ⟨Int.emod_nonneg _ (by omega), Int.emod_lt_of_pos _ (by omega)⟩
  | copy j =>
    rcases List.mem_or_eq_of_mem_set hy with h | rfl
    · exact h1.2 _ h
    · have h2 := g.row (n := i - 1) (by omega)
      have hj : j.toNat < (cs.getD (i - 1) []).length := by
        have hr := rowOk_ok (n := (cs.getD (i - 1) []).length) hx (by rw [h2.1]; exact Int.le_refl _)
        have hr : 0 ≤ j ∧ j < ((cs.getD (i - 1) []).length : Int) := hr
        omega
      generalize cs.getD (i - 1) [] = q at h2 hj ⊢
      have : q.getD j.toNat 0 ∈ q := by
        simp [List.getD, List.getElem?_eq_getElem hj]
      exact h2.2 _ this
  | _ => exact h1.2 _ hy
theorem sum_le {m : Int} : ∀ {l : List Int}, (∀ x ∈ l, x ≤ m) → l.sum ≤ m * l.length
  | [], _ => by simp
  | x :: l, h => by
    have := sum_le (l := l) fun y hy => h y (List.mem_cons_of_mem _ hy)
    have := h x List.mem_cons_self
    simp only [List.sum_cons, List.length_cons]
    grind
theorem goodCol_sum (hb : b ≤ 12) (hr : r ≤ 4) {c : List Int} (h : GoodCol b r c) : 0 ≤ c.sum ∧ c.sum ≤ 44 := by
  refine ⟨sum_nn fun x hx => (h.2 x hx).1, ?_⟩
  have h1 := sum_le (m := 11) (l := c) fun x hx => by have := (h.2 x hx).2; omega
  have h2 := h.1
  omega
theorem step_bd (g : GoodSh b r cs) {i : Nat} {x : Deed} {c : Int} {w : List Int × Int} (hi : i < cs.length) (hx : DeedOk b r x) (hc : 0 ≤ c ∧ c ≤ 100) (h : lawStep b cs i x c = some w) : (0 ≤ w.2 ∧ w.2 ≤ 100) ∧ ∀ f ∈ w.1, 0 ≤ f ∧ f < b := by
  have hrow := g.row hi
  have hr := rowOk_ok (n := (cs.getD i []).length) hx (by rw [hrow.1]; exact Int.le_refl _)
  have hb2 := g.b2
  have hb12 := g.b12
  unfold lawStep at h
  split at h
  · cases h
  rename_i hno
  have hcp : isCopy x = true → 0 < i := fun h1 => by
    by_cases h0 : i = 0
    · exact absurd (.inl ⟨h1, h0⟩) hno
    · omega
  rw [← lawTaken_sum hr] at h
  obtain ⟨s0, s1⟩ := goodCol_sum g.b12 g.r4 (lawTaken_good g hi hcp hx)
  generalize (lawTaken b cs i x).sum = S at h s0 s1
  have m0 : ∀ z : Int, 0 ≤ z % b ∧ z % b < b := fun z => ⟨Int.emod_nonneg _ (by omega), Int.emod_lt_of_pos _ (by omega)⟩
  have d0 : ∀ z : Int, 0 ≤ z → z ≤ 144 → 0 ≤ z / b ∧ z / b ≤ 72 := fun z z0 z1 => by
    refine ⟨Int.ediv_nonneg z0 (by omega), ?_⟩
    exact Int.ediv_le_of_le_mul (by omega) (by omega)
  have e1 := d0 (S + c) (by omega) (by omega)
  have e2 := d0 (S + (S + c) / b) (by omega) (by omega)
  cases x <;> simp only [doSum] at h
  case twice =>
    cases h
    refine ⟨⟨by show 0 ≤ _; omega, by show _ ≤ _; omega⟩, fun f hf => ?_⟩
    simp only [List.mem_cons, List.not_mem_nil, or_false] at hf
    rcases hf with rfl | rfl <;> exact m0 _
  case out =>
    cases h
    exact ⟨hc, fun f hf => by cases hf⟩
  case forget =>
    split at h <;> cases h
    exact ⟨⟨by show (0 : Int) ≤ 0; omega, by show (0 : Int) ≤ 100; omega⟩, fun f hf => by
      simp only [List.mem_singleton] at hf
      rw [hf]
      exact m0 _⟩
  all_goals
    cases h
    exact ⟨⟨by show 0 ≤ _; omega, by show _ ≤ _; omega⟩, fun f hf => by
      simp only [List.mem_singleton] at hf
      rw [hf]
      exact m0 _⟩
theorem addS_bd (g : GoodSh b r cs) (hd : ∀ i, i < cs.length → DeedOk b r (dAt ds i)) : ∀ i, i ≤ cs.length → ∀ {F c W}, addS b cs ds i = some (F, c, W) → (0 ≤ c ∧ c ≤ 100) ∧ ∀ f ∈ F ++ W, 0 ≤ f ∧ f < b
  | 0, _, F, c, W, h => by
    cases h
    exact ⟨by omega, fun f hf => by cases hf⟩
  | i + 1, hi, F, c, W, h => by
    obtain ⟨F', c', W', w, h1, h2, h3⟩ := addS_some h
    obtain ⟨h4, h5⟩ := addS_bd g hd i (by omega) h1
    obtain ⟨h6, h7⟩ := step_bd g (by omega) (hd i (by omega)) h4 h2
    split at h3
    · cases h3
      refine ⟨h6, fun f hf => ?_⟩
      simp only [List.append_nil, List.mem_append] at hf
      rcases hf with (hf | hf) | hf
      · exact h5 f (List.mem_append_left _ hf)
      · exact h7 f hf
      · exact h5 f (List.mem_append_right _ hf)
    · split at h3
      · cases h3
        refine ⟨h6, fun f hf => ?_⟩
        rcases List.mem_append.mp hf with hf | hf
        · exact h5 f (List.mem_append_left _ hf)
        · exact h7 f hf
      · cases h3
        refine ⟨h6, fun f hf => ?_⟩
        simp only [List.append_nil, List.mem_append] at hf
        rcases hf with hf | hf
        · exact h5 f (List.mem_append_left _ hf)
        · exact h7 f hf
/-- as many figures as doings -/
theorem addS_doings (g : GoodSh b r cs) (hl : cs.length ≤ ds.length) (hadj : ∀ i, i + 1 < cs.length → dAt ds i = .swap → dAt ds (i + 1) = .right) : ∀ i, i ≤ cs.length → ∀ {F c W}, addS b cs ds i = some (F, c, W) → F.length + W.length + ((ds.take i).filter fun x => decide (x = .out)).length = i + ((ds.take i).filter fun x => decide (x = .twice)).length
  | 0, _, F, c, W, h => by
    cases h
    rfl
  | i + 1, hi, F, c, W, h => by
    obtain ⟨F', c', W', w, h1, h2, h3⟩ := addS_some h
    have ih := addS_doings g hl hadj i (by omega) h1
    have ht : ds.take (i + 1) = ds.take i ++ [dAt ds i] := by
      rw [List.take_add_one]
      simp [dAt, List.getD, List.getElem?_eq_getElem (show i < ds.length by omega)]
    have hw : w.1.length + (if dAt ds i = .out then 1 else 0) = 1 + if dAt ds i = .twice then 1 else 0 := by
      unfold lawStep at h2
      split at h2
      · cases h2
      · generalize dAt ds i = x at h2 ⊢
        cases x <;> simp only [doSum] at h2 <;> first | (cases h2; simp; done) | (split at h2 <;> cases h2; simp)
    have hW := addS_wait (by omega) hadj h1
    rw [ht, List.filter_append, List.filter_append, List.length_append, List.length_append]
    have hq : F.length + W.length = F'.length + W'.length + w.1.length := by
      split at h3
      · cases h3
        simp only [List.length_append, List.length_nil]
        omega
      · rename_i hW0
        have hW0 : W' = [] := by
          by_cases h : W' = []
          · exact h
          · exact absurd h hW0
        subst hW0
        split at h3
        · cases h3
          simp
        · cases h3
          simp
    have e1 : ([dAt ds i].filter fun x => decide (x = .out)).length = if dAt ds i = .out then 1 else 0 := by
      rw [List.filter_cons]
      by_cases h : dAt ds i = .out <;> simp [h]
    have e2 : ([dAt ds i].filter fun x => decide (x = .twice)).length = if dAt ds i = .twice then 1 else 0 := by
      rw [List.filter_cons]
      by_cases h : dAt ds i = .twice <;> simp [h]
    rw [e1, e2]
    omega
end
end SY
namespace SY
open PySem PySem.Spec L2 SX
section
variable {b r : Int} {cs : List (List Int)} {ds : List Deed}
theorem addS_addV (g : GoodSh b r cs) (hl : ds.length = cs.length) (hd : ∀ i, i < cs.length → DeedOk b r (dAt ds i)) (hadj : ∀ i, i + 1 < cs.length → dAt ds i = .swap → dAt ds (i + 1) = .right) {F : List Int} {c : Int} (h : addS b cs ds cs.length = some (F, c, [])) : addV b r cs (slipsOf ds) 0 0 = some (F, c) := by
  obtain ⟨_, G, hG, hF⟩ := add_go (r := r) rfl (fun i hi => hd i hi) hadj h cs.length 0 0 [] 0 (by omega) (Nat.le_refl _) (fun j h1 h2 => by omega) rfl
  rw [List.nil_append] at hF
  subst hF
  rw [slipsOf_eq, hl]
  exact hG
def fgV (b : Int) (cs : List (List Int)) (ds : List Deed) (i : Nat) : Int := match addS b cs ds i with
  | some (_, c, _) => ((cs.getD i []).sum + c) / b
  | none => 0
theorem fgV_eq {i : Nat} {F : List Int} {c : Int} {W : List Int} (h : addS b cs ds i = some (F, c, W)) : fgV b cs ds i = ((cs.getD i []).sum + c) / b := by
  unfold fgV
  rw [h]
theorem fgV_bd (g : GoodSh b r cs) (hd : ∀ i, i < cs.length → DeedOk b r (dAt ds i)) {i : Nat} (hi : i < cs.length) {F : List Int} {c : Int} {W : List Int} (h : addS b cs ds i = some (F, c, W)) : 0 ≤ fgV b cs ds i ∧ fgV b cs ds i ≤ 100 := by
  rw [fgV_eq h]
  have h1 := (step_bd (w := ([((cs.getD i []).sum + c) % b], ((cs.getD i []).sum + c) / b)) g hi (.inl rfl) (addS_bd g hd i (by omega) h).1 step_right).1
  exact h1
theorem eff_rng (hadj : ∀ i, i + 1 < cs.length → dAt ds i = .swap → dAt ds (i + 1) = .right) {F : List Int} {cn : Int} (hn : addS b cs ds cs.length = some (F, cn, [])) {i : Nat} (hi : i < cs.length) {Fi : List Int} {ci : Int} {Wi : List Int} (h : addS b cs ds i = some (Fi, ci, Wi)) (hx : dAt ds i ≠ .right) :
    Wi = [] ∧ ((∃ d, dAt ds i = .off d) → Fi.length < F.length) ∧ (dAt ds i = .swap → Fi.length + 1 < F.length) := by
  have hW : Wi = [] := by
    rcases addS_wait (by omega) hadj h with h1 | ⟨_, h2⟩
    · exact h1
    · exact absurd (h2 hi) hx
  subst hW
  obtain ⟨s1, hs1⟩ := addS_pre hn (i + 1) (by omega)
  obtain ⟨F0, c0, W0, w, k1, k2, k3⟩ := addS_some hs1
  rw [h] at k1
  cases k1
  rw [if_neg (by simp)] at k3
  refine ⟨rfl, fun ⟨d, hd⟩ => ?_, fun hs => ?_⟩
  · rw [hd] at k2 k3
    rw [if_neg (by simp)] at k3
    subst k3
    obtain ⟨R, hR⟩ := addS_ext hs1 (by omega) hn
    unfold lawStep at k2
    split at k2
    · cases k2
    · cases k2
      rw [hR]
      simp
  · rw [if_pos hs] at k3
    subst k3
    rw [hs] at k2
    unfold lawStep at k2
    split at k2
    · cases k2
    · rename_i hno
      cases k2
      have hne : i + 1 < cs.length := by
        by_cases he : i + 1 = cs.length
        · exact absurd (.inr ⟨rfl, he⟩) hno
        · omega
      have hr1 := hadj i hne hs
      obtain ⟨s2, hs2⟩ := addS_pre hn (i + 1 + 1) (by omega)
      obtain ⟨F1, c1, W1, w1, j1, j2, j3⟩ := addS_some hs2
      rw [hs1] at j1
      cases j1
      rw [if_pos (by simp)] at j3
      rw [hr1, step_right] at j2
      cases j2
      subst j3
      obtain ⟨R2, hR2⟩ := addS_ext hs2 (by omega) hn
      rw [hR2]
      simp
end
end SY

set_option Elab.async false
set_option linter.all false
set_option maxRecDepth 100000
/-! SZd: what stands after columns that are done with deeds, told at once, and step by step. -/
namespace SY
open PySem PySem.Spec L2 SX
theorem horner_nil (b l : Int) : horner b [] l = l := rfl
theorem horner_cons' (b l x : Int) (xs : List Int) : horner b (x :: xs) l = horner b xs l * b + x := rfl
theorem horner_split (b l : Int) (ys : List Int) : ∀ xs : List Int, horner b (xs ++ ys) l = horner b xs 0 + b ^ xs.length * horner b ys l
  | [] => by
    rw [List.nil_append, horner_nil, List.length_nil, Int.pow_zero, Int.one_mul, Int.zero_add]
  | x :: xs => by
    rw [List.cons_append, horner_cons', horner_cons', horner_split b l ys xs, List.length_cons, Int.pow_succ]
    grind
structure Wr where
  figs : List Int
  wait : Option Int
  carry : Int
def wStep (W : Wr) (fs : List Int) (a : Int) (sw : Bool) : Wr := ⟨if sw then W.figs else W.figs ++ (fs ++ W.wait.toList), if sw then some (fs.getD 0 0) else none, a⟩
def errW (b : Int) (cols : List (List Int)) (W : Wr) : Int := horner b (W.figs ++ W.wait.toList) W.carry - horner b (cols.map List.sum) 0
def nearOf (b err : Int) (m : Nat) : Option Int := if err % b ^ m = 0 then some (err / b ^ m) else none
def befOf (cp : List Int) (cols : List (List Int)) : Option (List Int) := cols.getLast?.map (keptF cp)
/-- what stands then -/
def stdS (b m : Int) (cp lot : List Int) (cols : List (List Int)) (k : Int) (W : Wr) : Stand := ⟨m - k, W.wait, befOf cp cols, W.carry, (W.figs.length : Int) - cols.length, nearOf b (errW b cols W) (min cols.length W.figs.length), lot.map fun r => (errW b cols W % r, b ^ cols.length % r, b ^ W.figs.length % r)⟩
theorem minI (c p q : Nat) : (if (c : Int) + 1 < (p : Int) + (q : Int) then (c : Int) + 1 else (p : Int) + (q : Int)).toNat = min (c + 1) (p + q) := by split <;> omega
theorem downI {u w c M : Nat} (hM : M = min u w) (hc : c = u - M) : (if (w : Int) - u < 0 then -((w : Int) - u) else 0) = (c : Int) := by split <;> omega
theorem upI {u w p M : Nat} (hM : M = min u w) (hp : p = w - M) : (if (w : Int) - u > 0 then (w : Int) - u else 0) = (p : Int) := by split <;> omega
theorem nearOf_step {b : Int} (hb : 2 ≤ b) {e e' g t : Int} {u w q : Nat} (he : e' = e + g * b ^ w - t * b ^ u) : nearF b (nearOf b e (min u w)) ((w : Int) - u) t g q = nearOf b e' (min (u + 1) (w + q)) := by
  obtain ⟨M, hM⟩ : ∃ M, M = min u w := ⟨_, rfl⟩
  obtain ⟨p, hp⟩ : ∃ p, p = w - M := ⟨_, rfl⟩
  obtain ⟨c, hc⟩ : ∃ c, c = u - M := ⟨_, rfl⟩
  obtain ⟨x, hx⟩ : ∃ x, x = min (c + 1) (p + q) := ⟨_, rfl⟩
  have hw : w = p + M := by omega
  have hu : u = c + M := by omega
  have hM' : min (u + 1) (w + q) = M + x := by omega
  have hpos : ∀ k : Nat, 0 < b ^ k := fun k => Int.pow_pos (by omega)
  rw [hM', ← hM]
  have he2 : e' = e + (g * b ^ p - t * b ^ c) * b ^ M := by
    rw [he, hw, hu, Int.pow_add, Int.pow_add]
    grind
  unfold nearOf
  by_cases h : e % b ^ M = 0
  · rw [if_pos h]
    have hdv : e = e / b ^ M * b ^ M := by
      have := Int.ediv_mul_add_emod e (b ^ M)
      omega
    obtain ⟨n, hn⟩ : ∃ n, n = e / b ^ M := ⟨_, rfl⟩
    rw [← hn] at hdv ⊢
    obtain ⟨n', hn'⟩ : ∃ n', n' = n + g * b ^ p - t * b ^ c := ⟨_, rfl⟩
    have he3 : e' = n' * b ^ M := by
      rw [he2, hn', hdv]
      grind
    have h1 : e' % b ^ (M + x) = b ^ M * (n' % b ^ x) := by
      rw [he3, Int.pow_add, Int.mul_comm n' (b ^ M), Int.mul_emod_mul_of_pos _ _ (hpos M)]
    have h2 : e' / b ^ (M + x) = n' / b ^ x := by
      rw [he3, Int.pow_add, Int.mul_comm n' (b ^ M), Int.mul_ediv_mul_of_pos _ _ (hpos M)]
    have h3 : (e' % b ^ (M + x) = 0) ↔ (n' % b ^ x = 0) := by
      rw [h1]
      constructor
      · intro z
        rcases Int.mul_eq_zero.mp z with z | z
        · have := hpos M
          omega
        · exact z
      · intro z
        rw [z, Int.mul_zero]
    have hcI := downI hM hc
    have hpI := upI hM hp
    unfold nearF
    dsimp only
    rw [hcI, hpI]
    have hxI := (minI c p q).trans hx.symm
    rw [hxI, Int.toNat_natCast, Int.toNat_natCast, ← hn', h2]
    by_cases z : n' % b ^ x = 0
    · rw [if_pos z, if_pos (h3.mpr z)]
    · rw [if_neg z, if_neg (fun y => z (h3.mp y))]
  · rw [if_neg h, if_neg]
    · rfl
    · intro z
      have hd : b ^ M ∣ e' := by
        have h1 : b ^ (M + x) ∣ e' := Int.dvd_of_emod_eq_zero z
        rw [Int.pow_add] at h1
        exact Int.dvd_trans (Int.dvd_mul_right _ _) h1
      have hd2 : b ^ M ∣ e := by
        have h1 : e = e' - (g * b ^ p - t * b ^ c) * b ^ M := by omega
        rw [h1]
        exact Int.dvd_sub hd (Int.dvd_mul_left _ _)
      exact h (Int.emod_eq_zero_of_dvd hd2)
theorem restF_step {b : Int} {e e' g t r : Int} {u w q : Nat} (he : e' = e + g * b ^ w - t * b ^ u) : restF b t g (q : Int) (r, (e % r, b ^ u % r, b ^ w % r)) = (e' % r, b ^ (u + 1) % r, b ^ (w + q) % r) := by
  unfold restF
  dsimp only
  have h1 : (e % r + g * (b ^ w % r) - t * (b ^ u % r)) % r = e' % r := by
    rw [he, Int.sub_emod, Int.add_emod, Int.emod_emod, Int.mul_emod g, Int.emod_emod, ← Int.mul_emod, ← Int.add_emod, Int.mul_emod t, Int.emod_emod, ← Int.mul_emod, ← Int.sub_emod]
  have h2 : b ^ u % r * b % r = b ^ (u + 1) % r := by
    rw [Int.pow_succ, Int.mul_emod, Int.emod_emod, ← Int.mul_emod]
  have h3 : b ^ w % r * b ^ (q : Int).toNat % r = b ^ (w + q) % r := by
    rw [Int.toNat_natCast, Int.pow_add, Int.mul_emod, Int.emod_emod, ← Int.mul_emod]
  rw [h1, h2, h3]
theorem errW_step {b : Int} {cols : List (List Int)} {c : List Int} {W : Wr} {fs : List Int} {a : Int} {sw : Bool} (hsw : sw = true → W.wait = none ∧ fs.length = 1) : errW b (cols ++ [c]) (wStep W fs a sw) = errW b cols W + (horner b (fs ++ W.wait.toList) a - horner b W.wait.toList W.carry) * b ^ W.figs.length - c.sum * b ^ cols.length := by
  have h0 : (wStep W fs a sw).figs ++ (wStep W fs a sw).wait.toList = W.figs ++ (fs ++ W.wait.toList) := by
    cases sw with
    | false => simp [wStep]
    | true =>
      obtain ⟨h1, h2⟩ := hsw rfl
      match fs, h2 with
      | [y], _ => simp [wStep, h1]
  unfold errW
  rw [h0]
  show horner b (W.figs ++ (fs ++ W.wait.toList)) a - horner b ((cols ++ [c]).map List.sum) 0 = _
  rw [List.map_append, List.map_cons, List.map_nil, horner_split b a, horner_split b W.carry, horner_split b 0 [c.sum]]
  have h3 : horner b [c.sum] 0 = c.sum := by
    rw [horner_cons', horner_nil]
    omega
  rw [h3, List.length_map]
  grind
theorem leadS_std {b m : Int} (hb : 2 ≤ b) {cp lot : List Int} {cols : List (List Int)} {k : Int} {W : Wr} {c : List Int} {od : Option Deed} {fs : List Int} {a : Int} (h1 : od = some .swap ∨ od = none → fs.length = 1) (h2 : od ≠ none → W.wait = none) : leadS b cp lot (stdS b m cp lot cols k W) c od (fs, a) = stdS b m cp lot (cols ++ [c]) (k + if od.isNone then 0 else 1) (wStep W fs a (isSwap od)) := by
  have hsw : isSwap od = true → W.wait = none ∧ fs.length = 1 := fun h => by
    have : od = some .swap := by
      cases od with
      | none => cases h
      | some x => cases x <;> first | rfl | cases h
    exact ⟨h2 (by rw [this]; exact fun z => by cases z), h1 (.inl this)⟩
  have he := errW_step (b := b) (cols := cols) (c := c) (W := W) (fs := fs) (a := a) (sw := isSwap od) hsw
  obtain ⟨q, hq⟩ : ∃ q : Nat, q = if isSwap od then 0 else (fs ++ W.wait.toList).length := ⟨_, rfl⟩
  have hqI : (if isSwap od then (0 : Int) else ((fs ++ W.wait.toList).length : Int)) = (q : Int) := by rw [hq]; split <;> rfl
  have hlen : (wStep W fs a (isSwap od)).figs.length = W.figs.length + q := by
    rw [hq]
    unfold wStep
    dsimp only
    split <;> simp
  unfold leadS
  dsimp only
  show Stand.mk _ _ _ _ ((W.figs.length : Int) - cols.length + (if isSwap od then (0 : Int) else ((fs ++ W.wait.toList).length : Int)) - 1) (nearF b (nearOf b (errW b cols W) (min cols.length W.figs.length)) ((W.figs.length : Int) - cols.length) c.sum (horner b (fs ++ W.wait.toList) a - horner b W.wait.toList W.carry) (if isSwap od then (0 : Int) else ((fs ++ W.wait.toList).length : Int))) (restsF b lot (lot.map fun r => (errW b cols W % r, b ^ cols.length % r, b ^ W.figs.length % r)) c.sum (horner b (fs ++ W.wait.toList) a - horner b W.wait.toList W.carry) (if isSwap od then (0 : Int) else ((fs ++ W.wait.toList).length : Int))) = _
  rw [hqI, nearOf_step hb he]
  have hrs : restsF b lot (lot.map fun r => (errW b cols W % r, b ^ cols.length % r, b ^ W.figs.length % r)) c.sum (horner b (fs ++ W.wait.toList) a - horner b W.wait.toList W.carry) (q : Int) = lot.map fun r => (errW b (cols ++ [c]) (wStep W fs a (isSwap od)) % r, b ^ (cols.length + 1) % r, b ^ (W.figs.length + q) % r) := by
    unfold restsF
    rw [List.zip_map_right, List.map_map, show lot.zip lot = lot.map (fun x => (x, x)) from ?_, List.map_map]
    · refine List.map_congr_left fun r _ => ?_
      exact restF_step he
    · clear hq hqI hlen he
      induction lot with
      | nil => rfl
      | cons x xs ih => simp [ih]
  rw [hrs]
  unfold stdS
  rw [List.length_append, List.length_singleton, hlen]
  congr 1
  case e_left =>
    show (if od.isNone then m - k else m - k - 1) = m - (k + if od.isNone then 0 else 1)
    split <;> omega
  case e_wait =>
    show (if isSwap od = true then some ((fs ++ W.wait.toList).getD 0 0) else none) = if isSwap od = true then some (fs.getD 0 0) else none
    by_cases h : isSwap od = true
    · rw [if_pos h, if_pos h, (hsw h).1]
      simp
    · rw [if_neg h, if_neg h]
  case e_before => simp [befOf]
  case e_gap => omega
/-! the law's own writing -/
def deedOn (sl : List (Int × Deed)) (a : Int) : Deed := ((sl.find? fun s => decide (s.1 = a)).map fun s => s.2).getD .right
theorem deedOn_hit {sl : List (Int × Deed)} {a : Int} {i : Nat} {s : Int × Deed} (h : sl[i]? = some s) (hs : s.1 = a) (hb : ∀ x ∈ sl.take i, x.1 ≠ a) : deedOn sl a = s.2 := by
  obtain ⟨hl, h⟩ := List.getElem?_eq_some_iff.mp h
  have e : sl = sl.take i ++ s :: sl.drop (i + 1) := by
    rw [← h, List.getElem_cons_drop, List.take_append_drop]
  have h1 : (sl.take i).find? (fun s => decide (s.1 = a)) = none := by
    rw [List.find?_eq_none]
    intro x hx
    simpa using hb x hx
  unfold deedOn
  rw [e, List.find?_append, h1, Option.none_or, List.find?_cons_of_pos (by simpa using hs)]
  rfl
theorem deedOn_no {sl : List (Int × Deed)} {a : Int} (hb : ∀ x ∈ sl, x.1 ≠ a) : deedOn sl a = .right := by
  have h1 : sl.find? (fun s => decide (s.1 = a)) = none := by
    rw [List.find?_eq_none]
    intro x hx
    simpa using hb x hx
  unfold deedOn
  rw [h1]
  rfl
def lawW1 (b f c : Int) (x : Deed) (W : Wr) : Wr :=
  match W.wait with
  | some w => ⟨W.figs ++ [f, w], none, c⟩
  | none => match x with
    | .swap => ⟨W.figs, some f, c⟩
    | .off d => ⟨W.figs ++ [(f + d) % b], none, c⟩
    | _ => ⟨W.figs ++ [f], none, c⟩
def lawW (b t : Int) (x : Deed) (W : Wr) : Wr :=
  match x with
  | .out => W
  | .twice => let W1 := lawW1 b ((t + W.carry) % b) ((t + W.carry) / b) x W; ⟨W1.figs ++ [(t + (t + W.carry) / b) % b], W1.wait, (t + (t + W.carry) / b) / b⟩
  | .forget => let W1 := lawW1 b ((t + W.carry) % b) ((t + W.carry) / b) x W; ⟨W1.figs, W1.wait, 0⟩
  | .again => let W1 := lawW1 b ((t + W.carry) % b) ((t + W.carry) / b) x W; ⟨W1.figs, W1.wait, (t + W.carry) / b + 1⟩
  | x => lawW1 b ((t + W.carry) % b) ((t + W.carry) / b) x W
def wrL (b : Int) (cs : List (List Int)) (sl : List (Int × Deed)) : Nat → Wr
  | 0 => ⟨[], none, 0⟩
  | n + 1 => lawW b (lawTaken b cs n (deedOn sl n)).sum (deedOn sl n) (wrL b cs sl n)
def dnO : Deed → Option Deed
  | .right => none
  | x => some x
/-- where a deed is possible, the law writes what the doing gives -/
theorem lawW_step {b t : Int} {x : Deed} {W : Wr} {fs : List Int} {a : Int} (hw : x ≠ .right → W.wait = none) (h : doSum b t W.carry (dnO x) = some (fs, a)) : lawW b t x W = wStep W fs a (isSwap (dnO x)) := by
  cases x with
  | right =>
    obtain ⟨rfl, rfl⟩ := Prod.mk.inj (Option.some.inj h)
    cases hx : W.wait <;> simp [lawW, lawW1, wStep, isSwap, dnO, hx]
  | forget =>
    have hw := hw (by decide)
    unfold doSum dnO at h
    dsimp only at h
    split at h
    · obtain ⟨rfl, rfl⟩ := Prod.mk.inj (Option.some.inj h)
      simp [lawW, lawW1, wStep, isSwap, dnO, hw]
    · cases h
  | out =>
    have hw := hw (by decide)
    obtain ⟨rfl, rfl⟩ := Prod.mk.inj (Option.some.inj h)
    obtain ⟨f, w, c⟩ := W
    have hw : w = none := hw
    simp [lawW, wStep, isSwap, dnO, hw]
  | _ =>
    have hw := hw (fun z => by cases z)
    obtain ⟨rfl, rfl⟩ := Prod.mk.inj (Option.some.inj h)
    simp [lawW, lawW1, wStep, isSwap, dnO, hw]
theorem lawW1_len (b f c : Int) (x : Deed) (W : Wr) : (lawW1 b f c x W).figs.length ≤ W.figs.length + 2 := by
  unfold lawW1
  split
  · simp
  · split <;> simp
theorem lawW_len (b t : Int) (x : Deed) (W : Wr) : (lawW b t x W).figs.length ≤ W.figs.length + 3 := by
  have h := lawW1_len b ((t + W.carry) % b) ((t + W.carry) / b) x W
  cases x <;> simp only [lawW] <;> first | omega | (simp only [List.length_append, List.length_singleton]; omega)
theorem wrL_len (b : Int) (cs : List (List Int)) (sl : List (Int × Deed)) : ∀ n, (wrL b cs sl n).figs.length ≤ 3 * n
  | 0 => Nat.le_refl _
  | n + 1 => by
    have h1 := wrL_len b cs sl n
    have h2 := lawW_len b (lawTaken b cs n (deedOn sl n)).sum (deedOn sl n) (wrL b cs sl n)
    show (lawW b (lawTaken b cs n (deedOn sl n)).sum (deedOn sl n) (wrL b cs sl n)).figs.length ≤ 3 * (n + 1)
    omega
theorem lawW1_carry (b f c : Int) (x : Deed) (W : Wr) : (lawW1 b f c x W).carry = c := by
  unfold lawW1
  split
  · rfl
  · split <;> rfl
/-- .., in the order of the law's text -/
theorem lawW_parts {b t : Int} {x : Deed} {W W1 W2 W3 : Wr} (h1 : W1 = if x = .out then W else lawW1 b ((t + W.carry) % b) ((t + W.carry) / b) x W) (h2 : W2 = if x = .twice then ⟨W1.figs ++ [(t + W1.carry) % b], W1.wait, (t + W1.carry) / b⟩ else W1) (h3 : W3 = if x = .forget then ⟨W2.figs, W2.wait, 0⟩ else W2) : lawW b t x W = if x = .again then ⟨W3.figs, W3.wait, W3.carry + 1⟩ else W3 := by
  subst h3
  subst h2
  subst h1
  cases x <;> simp [lawW, lawW1_carry]
/-- the law's own word on a deed, behind these columns -/
def posW (b m : Int) (cs : List (List Int)) (sl : List (Int × Deed)) (c : List Int) (x : Deed) : Bool :=
  if ((!isNon (oiD (wrL b cs sl cs.length).wait)) || decide ((sl.length : Int) ≥ m)) = true then false
  else match x with
    | .copy _ => decide ((cs.length : Int) > 0)
    | .forget => decide (c.sum + (wrL b cs sl cs.length).carry ≥ b)
    | _ => true
end SY

set_option maxRecDepth 100000
set_option maxHeartbeats 4000000
namespace LW
open PySem L2 SX
local macro_rules | `(tactic| walk_at "ex") => `(tactic| first | exact Ex.refl _ | assumption | (refine Ex.trans ?_ (by assumption); walk_at "ex"))
local macro_rules | `(tactic| walk_at "dp") => `(tactic| first | assumption | exact ints_dpAll _ | (refine dm (by assumption) ?_; walk_at "ex") | (refine dma (by assumption) ?_; walk_at "ex"))
local macro_rules | `(tactic| walk_at "da") => `(tactic| first | assumption | (refine Da.of ?_; walk_at "dp") | (refine Da.ex (by assumption) ?_; walk_at "ex"))
local macro_rules | `(tactic| walk_at "at") => `(tactic| first | assumption | (refine At.ex (by assumption) ?_; walk_at "ex") | (refine AtL.ex (by assumption) ?_; walk_at "ex"))
local macro_rules | `(tactic| walk_at "sd") => `(tactic| first | assumption | rfl | decide | omega)

def topS (i : Nat) : Stmt := PySem.Challenge.pw_sumslips_k07_written_results.main.body.getD i (.Pass ⟨0, 0, 0, 0⟩)
abbrev s_is_whole : Stmt := topS 9
abbrev s_is_column : Stmt := topS 16
abbrev s__are_columns : Stmt := topS 17
abbrev s_is_base : Stmt := topS 10
abbrev s_is_rows : Stmt := topS 11
abbrev s_Sheet___init__ : Stmt := inClass (topS 18) 0
abbrev s_Sheet___setitem__ : Stmt := inClass (topS 18) 7
abbrev s_Written___init__ : Stmt := inClass (topS 20) 0
abbrev s_Written_figures : Stmt := inClass (topS 20) 2
abbrev s_place_value : Stmt := topS 12
abbrev s_Sheet_value : Stmt := inClass (topS 18) 4
abbrev s_Written_value : Stmt := inClass (topS 20) 4
abbrev s_Written___sub__ : Stmt := inClass (topS 20) 6
abbrev s_Written_rest : Stmt := inClass (topS 20) 5
abbrev s__law_is_integer : Stmt := topS 25
abbrev s__law_worth : Stmt := topS 27
abbrev s_Written_base : Stmt := inClass (topS 20) 1
abbrev s_Written_last : Stmt := inClass (topS 20) 3
abbrev s__law_written_right : Stmt := topS 26
abbrev s__law_asked : Stmt := topS 29
abbrev s__law_cells : Stmt := topS 22
abbrev s__law_deck : Stmt := topS 23
abbrev s__law_draw : Stmt := topS 24
abbrev s_Written___eq__ : Stmt := inClass (topS 20) 7
abbrev s__law_beside : Stmt := topS 30
abbrev s__law_equal_right : Stmt := topS 31
abbrev s__law_value : Stmt := topS 28
abbrev s_law : Stmt := topS 32
theorem sc_is_whole : FnScope ["value", "low", "high"] ["value", "low", "high"] (defScope s_is_whole) := ⟨rfl, rfl, rfl, by decide +kernel, rfl, by decide +kernel, by decide +kernel⟩
theorem sc_is_column : FnScope ["base", "rows", "value", "figure"] ["base", "rows", "value"] (defScope s_is_column) := ⟨rfl, rfl, rfl, by decide +kernel, rfl, by decide +kernel, by decide +kernel⟩
theorem sc__are_columns : FnScope ["base", "rows", "value", "column"] ["base", "rows", "value"] (defScope s__are_columns) := ⟨rfl, rfl, rfl, by decide +kernel, rfl, by decide +kernel, by decide +kernel⟩
theorem sc_is_base : FnScope ["value"] ["value"] (defScope s_is_base) := ⟨rfl, rfl, rfl, by decide +kernel, rfl, by decide +kernel, by decide +kernel⟩
theorem sc_is_rows : FnScope ["value"] ["value"] (defScope s_is_rows) := ⟨rfl, rfl, rfl, by decide +kernel, rfl, by decide +kernel, by decide +kernel⟩
theorem sc_Sheet___init__ : FnScope ["self", "base", "rows", "columns", "column"] ["self", "base", "rows", "columns"] (defScope s_Sheet___init__) := ⟨rfl, rfl, rfl, by decide +kernel, rfl, by decide +kernel, by decide +kernel⟩
theorem sc_Sheet___setitem__ : FnScope ["self", "at", "worth"] ["self", "at", "worth"] (defScope s_Sheet___setitem__) := ⟨rfl, rfl, rfl, by decide +kernel, rfl, by decide +kernel, by decide +kernel⟩
theorem sc_Written___init__ : FnScope ["self", "base", "figures", "last"] ["self", "base", "figures", "last"] (defScope s_Written___init__) := ⟨rfl, rfl, rfl, by decide +kernel, rfl, by decide +kernel, by decide +kernel⟩
theorem sc_Written_figures : FnScope ["self"] ["self"] (defScope s_Written_figures) := ⟨rfl, rfl, rfl, by decide +kernel, rfl, by decide +kernel, by decide +kernel⟩
theorem sc_place_value : FnScope ["base", "figures", "last", "value", "figure"] ["base", "figures", "last"] (defScope s_place_value) := ⟨rfl, rfl, rfl, by decide +kernel, rfl, by decide +kernel, by decide +kernel⟩
theorem sc_Sheet_value : FnScope ["self", "column"] ["self"] (defScope s_Sheet_value) := ⟨rfl, rfl, rfl, by decide +kernel, rfl, by decide +kernel, by decide +kernel⟩
theorem sc_Written_value : FnScope ["self"] ["self"] (defScope s_Written_value) := ⟨rfl, rfl, rfl, by decide +kernel, rfl, by decide +kernel, by decide +kernel⟩
theorem sc_Written___sub__ : FnScope ["self", "other"] ["self", "other"] (defScope s_Written___sub__) := ⟨rfl, rfl, rfl, by decide +kernel, rfl, by decide +kernel, by decide +kernel⟩
theorem sc_Written_rest : FnScope ["self", "r"] ["self", "r"] (defScope s_Written_rest) := ⟨rfl, rfl, rfl, by decide +kernel, rfl, by decide +kernel, by decide +kernel⟩
theorem sc__law_is_integer : FnScope ["found"] ["found"] (defScope s__law_is_integer) := ⟨rfl, rfl, rfl, by decide +kernel, rfl, by decide +kernel, by decide +kernel⟩
theorem sc__law_worth : FnScope ["base", "figures", "last", "total", "scale", "figure"] ["base", "figures", "last"] (defScope s__law_worth) := ⟨rfl, rfl, rfl, by decide +kernel, rfl, by decide +kernel, by decide +kernel⟩
theorem sc_Written_base : FnScope ["self"] ["self"] (defScope s_Written_base) := ⟨rfl, rfl, rfl, by decide +kernel, rfl, by decide +kernel, by decide +kernel⟩
theorem sc_Written_last : FnScope ["self"] ["self"] (defScope s_Written_last) := ⟨rfl, rfl, rfl, by decide +kernel, rfl, by decide +kernel, by decide +kernel⟩
theorem sc__law_written_right : FnScope ["found", "base", "figures", "last", "told", "figure"] ["found", "base", "figures", "last"] (defScope s__law_written_right) := ⟨rfl, rfl, rfl, by decide +kernel, rfl, by decide +kernel, by decide +kernel⟩
theorem sc__law_asked : FnScope ["written", "base", "figures", "last", "divisor", "sheet", "right", "worth", "rest", "difference"] ["written", "base", "figures", "last", "divisor", "sheet", "right"] (defScope s__law_asked) := ⟨rfl, rfl, rfl, by decide +kernel, rfl, by decide +kernel, by decide +kernel⟩
theorem sc__law_cells : FnScope ["script"] ["script"] (defScope s__law_cells) := ⟨rfl, rfl, rfl, by decide +kernel, rfl, by decide +kernel, by decide +kernel⟩
theorem sc__law_deck : FnScope ["cell"] ["cell"] (defScope s__law_deck) := ⟨rfl, rfl, rfl, by decide +kernel, rfl, by decide +kernel, by decide +kernel⟩
theorem sc__law_draw : FnScope ["deck", "many", "stir", "drawn"] ["deck", "many"] (defScope s__law_draw) := ⟨rfl, rfl, rfl, by decide +kernel, rfl, by decide +kernel, by decide +kernel⟩
theorem sc_Written___eq__ : FnScope ["self", "other"] ["self", "other"] (defScope s_Written___eq__) := ⟨rfl, rfl, rfl, by decide +kernel, rfl, by decide +kernel, by decide +kernel⟩
theorem sc__law_beside : FnScope ["base", "figures", "last", "other_base", "beside", "figure"] ["base", "figures", "last"] (defScope s__law_beside) := ⟨rfl, rfl, rfl, by decide +kernel, rfl, by decide +kernel, by decide +kernel⟩
theorem sc__law_equal_right : FnScope ["written", "base", "figures", "last", "value", "other_base", "other_figures", "other_last", "other"] ["written", "base", "figures", "last"] (defScope s__law_equal_right) := ⟨rfl, rfl, rfl, by decide +kernel, rfl, by decide +kernel, by decide +kernel⟩
theorem sc__law_value : FnScope ["base", "columns", "total", "scale", "column"] ["base", "columns"] (defScope s__law_value) := ⟨rfl, rfl, rfl, by decide +kernel, rfl, by decide +kernel, by decide +kernel⟩
theorem sc_law : FnScope ["script", "cell", "deck", "base", "last", "divisor", "many", "figures", "rows", "other", "columns", "i", "sheet", "passed", "written", "right", "told", "k", "figure", "j"] ["script"] (defScope s_law) := ⟨rfl, rfl, rfl, by decide +kernel, rfl, by decide +kernel, by decide +kernel⟩
structure Txt (K : PySem.W.Frag) (mg : Str → Option Value) where
  c_Sheet : Addr
  m_Sheet : mg "Sheet" = some (.ref c_Sheet)
  c_Written : Addr
  m_Written : mg "Written" = some (.ref c_Written)
  c_InvalidSheet : Addr
  m_InvalidSheet : mg "InvalidSheet" = some (.ref c_InvalidSheet)
  c_InvalidColumn : Addr
  m_InvalidColumn : mg "InvalidColumn" = some (.ref c_InvalidColumn)
  a_is_whole : Addr
  fd_is_whole : FuncData
  F_is_whole : Fun K "is_whole" "is_whole" s_is_whole a_is_whole fd_is_whole
  b_is_whole : Binds K fd_is_whole ["value", "low", "high"] []
  m_is_whole : mg "is_whole" = some (.ref a_is_whole)
  a_is_column : Addr
  fd_is_column : FuncData
  F_is_column : Fun K "is_column" "is_column" s_is_column a_is_column fd_is_column
  b_is_column : Binds K fd_is_column ["base", "rows", "value"] []
  m_is_column : mg "is_column" = some (.ref a_is_column)
  a__are_columns : Addr
  fd__are_columns : FuncData
  F__are_columns : Fun K "_are_columns" "_are_columns" s__are_columns a__are_columns fd__are_columns
  b__are_columns : Binds K fd__are_columns ["base", "rows", "value"] []
  m__are_columns : mg "_are_columns" = some (.ref a__are_columns)
  a_is_base : Addr
  fd_is_base : FuncData
  F_is_base : Fun K "is_base" "is_base" s_is_base a_is_base fd_is_base
  b_is_base : Binds K fd_is_base ["value"] []
  m_is_base : mg "is_base" = some (.ref a_is_base)
  a_is_rows : Addr
  fd_is_rows : FuncData
  F_is_rows : Fun K "is_rows" "is_rows" s_is_rows a_is_rows fd_is_rows
  b_is_rows : Binds K fd_is_rows ["value"] []
  m_is_rows : mg "is_rows" = some (.ref a_is_rows)
  a_Sheet___init__ : Addr
  fd_Sheet___init__ : FuncData
  F_Sheet___init__ : Fun K "__init__" "Sheet.__init__" s_Sheet___init__ a_Sheet___init__ fd_Sheet___init__
  b_Sheet___init__ : Binds K fd_Sheet___init__ ["self", "base", "rows", "columns"] []
  me_Sheet___init__ : Meth K c_Sheet "__init__" a_Sheet___init__
  a_Sheet___setitem__ : Addr
  fd_Sheet___setitem__ : FuncData
  F_Sheet___setitem__ : Fun K "__setitem__" "Sheet.__setitem__" s_Sheet___setitem__ a_Sheet___setitem__ fd_Sheet___setitem__
  b_Sheet___setitem__ : Binds K fd_Sheet___setitem__ ["self", "at", "worth"] []
  me_Sheet___setitem__ : Meth K c_Sheet "__setitem__" a_Sheet___setitem__
  a_Written___init__ : Addr
  fd_Written___init__ : FuncData
  F_Written___init__ : Fun K "__init__" "Written.__init__" s_Written___init__ a_Written___init__ fd_Written___init__
  b_Written___init__ : Binds K fd_Written___init__ ["self", "base", "figures", "last"] []
  me_Written___init__ : Meth K c_Written "__init__" a_Written___init__
  a_Written_figures : Addr
  fd_Written_figures : FuncData
  F_Written_figures : Fun K "figures" "Written.figures" s_Written_figures a_Written_figures fd_Written_figures
  b_Written_figures : Binds K fd_Written_figures ["self"] []
  pa_Written_figures : Addr
  p_Written_figures : PropOf K c_Written "figures" pa_Written_figures a_Written_figures
  a_place_value : Addr
  fd_place_value : FuncData
  F_place_value : Fun K "place_value" "place_value" s_place_value a_place_value fd_place_value
  b_place_value : Binds K fd_place_value ["base", "figures", "last"] []
  m_place_value : mg "place_value" = some (.ref a_place_value)
  a_Sheet_value : Addr
  fd_Sheet_value : FuncData
  F_Sheet_value : Fun K "value" "Sheet.value" s_Sheet_value a_Sheet_value fd_Sheet_value
  b_Sheet_value : Binds K fd_Sheet_value ["self"] []
  pa_Sheet_value : Addr
  p_Sheet_value : PropOf K c_Sheet "value" pa_Sheet_value a_Sheet_value
  a_Written_value : Addr
  fd_Written_value : FuncData
  F_Written_value : Fun K "value" "Written.value" s_Written_value a_Written_value fd_Written_value
  b_Written_value : Binds K fd_Written_value ["self"] []
  pa_Written_value : Addr
  p_Written_value : PropOf K c_Written "value" pa_Written_value a_Written_value
  a_Written___sub__ : Addr
  fd_Written___sub__ : FuncData
  F_Written___sub__ : Fun K "__sub__" "Written.__sub__" s_Written___sub__ a_Written___sub__ fd_Written___sub__
  b_Written___sub__ : Binds K fd_Written___sub__ ["self", "other"] []
  me_Written___sub__ : Meth K c_Written "__sub__" a_Written___sub__
  a_Written_rest : Addr
  fd_Written_rest : FuncData
  F_Written_rest : Fun K "rest" "Written.rest" s_Written_rest a_Written_rest fd_Written_rest
  b_Written_rest : Binds K fd_Written_rest ["self", "r"] []
  me_Written_rest : Meth K c_Written "rest" a_Written_rest
  a__law_is_integer : Addr
  fd__law_is_integer : FuncData
  F__law_is_integer : Fun K "_law_is_integer" "_law_is_integer" s__law_is_integer a__law_is_integer fd__law_is_integer
  b__law_is_integer : Binds K fd__law_is_integer ["found"] []
  m__law_is_integer : mg "_law_is_integer" = some (.ref a__law_is_integer)
  a__law_worth : Addr
  fd__law_worth : FuncData
  F__law_worth : Fun K "_law_worth" "_law_worth" s__law_worth a__law_worth fd__law_worth
  b__law_worth : Binds K fd__law_worth ["base", "figures", "last"] []
  m__law_worth : mg "_law_worth" = some (.ref a__law_worth)
  a_Written_base : Addr
  fd_Written_base : FuncData
  F_Written_base : Fun K "base" "Written.base" s_Written_base a_Written_base fd_Written_base
  b_Written_base : Binds K fd_Written_base ["self"] []
  pa_Written_base : Addr
  p_Written_base : PropOf K c_Written "base" pa_Written_base a_Written_base
  a_Written_last : Addr
  fd_Written_last : FuncData
  F_Written_last : Fun K "last" "Written.last" s_Written_last a_Written_last fd_Written_last
  b_Written_last : Binds K fd_Written_last ["self"] []
  pa_Written_last : Addr
  p_Written_last : PropOf K c_Written "last" pa_Written_last a_Written_last
  a__law_written_right : Addr
  fd__law_written_right : FuncData
  F__law_written_right : Fun K "_law_written_right" "_law_written_right" s__law_written_right a__law_written_right fd__law_written_right
  b__law_written_right : Binds K fd__law_written_right ["found", "base", "figures", "last"] []
  m__law_written_right : mg "_law_written_right" = some (.ref a__law_written_right)
  a__law_asked : Addr
  fd__law_asked : FuncData
  F__law_asked : Fun K "_law_asked" "_law_asked" s__law_asked a__law_asked fd__law_asked
  b__law_asked : Binds K fd__law_asked ["written", "base", "figures", "last", "divisor", "sheet", "right"] []
  m__law_asked : mg "_law_asked" = some (.ref a__law_asked)
  a__law_cells : Addr
  fd__law_cells : FuncData
  F__law_cells : Fun K "_law_cells" "_law_cells" s__law_cells a__law_cells fd__law_cells
  b__law_cells : Binds K fd__law_cells ["script"] []
  m__law_cells : mg "_law_cells" = some (.ref a__law_cells)
  a__law_deck : Addr
  fd__law_deck : FuncData
  F__law_deck : Fun K "_law_deck" "_law_deck" s__law_deck a__law_deck fd__law_deck
  b__law_deck : Binds K fd__law_deck ["cell"] []
  m__law_deck : mg "_law_deck" = some (.ref a__law_deck)
  a__law_draw : Addr
  fd__law_draw : FuncData
  F__law_draw : Fun K "_law_draw" "_law_draw" s__law_draw a__law_draw fd__law_draw
  b__law_draw : Binds K fd__law_draw ["deck", "many"] []
  m__law_draw : mg "_law_draw" = some (.ref a__law_draw)
  a_Written___eq__ : Addr
  fd_Written___eq__ : FuncData
  F_Written___eq__ : Fun K "__eq__" "Written.__eq__" s_Written___eq__ a_Written___eq__ fd_Written___eq__
  b_Written___eq__ : Binds K fd_Written___eq__ ["self", "other"] []
  me_Written___eq__ : Meth K c_Written "__eq__" a_Written___eq__
  a__law_beside : Addr
  fd__law_beside : FuncData
  F__law_beside : Fun K "_law_beside" "_law_beside" s__law_beside a__law_beside fd__law_beside
  b__law_beside : Binds K fd__law_beside ["base", "figures", "last"] []
  m__law_beside : mg "_law_beside" = some (.ref a__law_beside)
  a__law_equal_right : Addr
  fd__law_equal_right : FuncData
  F__law_equal_right : Fun K "_law_equal_right" "_law_equal_right" s__law_equal_right a__law_equal_right fd__law_equal_right
  b__law_equal_right : Binds K fd__law_equal_right ["written", "base", "figures", "last"] []
  m__law_equal_right : mg "_law_equal_right" = some (.ref a__law_equal_right)
  a__law_value : Addr
  fd__law_value : FuncData
  F__law_value : Fun K "_law_value" "_law_value" s__law_value a__law_value fd__law_value
  b__law_value : Binds K fd__law_value ["base", "columns"] []
  m__law_value : mg "_law_value" = some (.ref a__law_value)
  a_law : Addr
  fd_law : FuncData
  F_law : Fun K "law" "law" s_law a_law fd_law
  b_law : Binds K fd_law ["script"] []
  m_law : mg "law" = some (.ref a_law)
  cl_Sheet : Cls K c_Sheet
  k_Sheet : Mk K c_Sheet a_Sheet___init__
  na_Sheet__base : NoAttr K c_Sheet "_base"
  na_Sheet__columns : NoAttr K c_Sheet "_columns"
  na_Sheet__rows : NoAttr K c_Sheet "_rows"
  ns_Sheet : PySem.W.noSeq K c_Sheet = true
  cl_Written : Cls K c_Written
  k_Written : Mk K c_Written a_Written___init__
  na_Written__base : NoAttr K c_Written "_base"
  na_Written__figures : NoAttr K c_Written "_figures"
  na_Written__last : NoAttr K c_Written "_last"
  sf_Written : PySem.W.selfFirst K c_Written = true
  ic_Sheet : IsCls K c_Sheet
  io_Sheet : PySem.W.kitOne K (.ref c_Sheet) (.ref c_Sheet) = some true
  ic_Written : IsCls K c_Written
  io_Written : PySem.W.kitOne K (.ref c_Written) (.ref c_Written) = some true
  nop_Sheet_sub : NoOp K c_Sheet "sub"
  ne_Written_Sheet : c_Written ≠ c_Sheet
  do_Written : DataOut K c_Written
  x_InvalidColumn : PySem.W.excIn K c_InvalidColumn [.type "ValueError", .type "Exception", .type "BaseException", .type "object"] "ValueError.__new__" = true
  xk_InvalidColumn : PySem.W.keepIn K (.ref c_InvalidColumn) = true
  xb_InvalidColumn : PySem.W.subIn K (.ref c_InvalidColumn) (.type "BaseException") = some true
  xt_InvalidColumn : PySem.W.typeIn K (.ref c_InvalidColumn) = some (.type "type")
  x_InvalidSheet : PySem.W.excIn K c_InvalidSheet [.type "ValueError", .type "Exception", .type "BaseException", .type "object"] "ValueError.__new__" = true
  xk_InvalidSheet : PySem.W.keepIn K (.ref c_InvalidSheet) = true
  xb_InvalidSheet : PySem.W.subIn K (.ref c_InvalidSheet) (.type "BaseException") = some true
  xt_InvalidSheet : PySem.W.typeIn K (.ref c_InvalidSheet) = some (.type "type")
  n_all : mg "all" = none
  n_bool : mg "bool" = none
  n_int : mg "int" = none
  n_isinstance : mg "isinstance" = none
  n_len : mg "len" = none
  n_list : mg "list" = none
  n_range : mg "range" = none
  n_sum : mg "sum" = none
  n_tuple : mg "tuple" = none
  tk_MOST_BASE : Tok
  m_MOST_BASE : mg "MOST_BASE" = some (.int 12 tk_MOST_BASE)
  tk_MOST_ROWS : Tok
  m_MOST_ROWS : mg "MOST_ROWS" = some (.int 4 tk_MOST_ROWS)
section
variable {P : Program} {w : World} {K : PySem.W.Frag} {mg : Str → Option Value} {base : Heap}
-- is_whole
theorem ok_is_whole (T : Txt K mg) : FnOk P w K mg base CX0 1 T.a_is_whole T.fd_is_whole ["value", "low", "high"] (spec (wholePre K) wholePost) := by
  refine fn_sv T.F_is_whole sc_is_whole (fun x G M vs h => by obtain ⟨v, rfl, _⟩ := h; rfl) fun cdv A outer s H E hr => ⟨_, (pss_one (ps_ret (pe_and (pe_callB (k_isi (K := K) rfl) (by rfl) T.n_isinstance (by decide +kernel) (pa_cons (pv 0) (pa_cons (pe_bltn (v := .ty "int") (by rfl) T.n_int (by decide +kernel) rfl) pa_nil))) (pe_and (pe_not (pe_callB (k_isi (K := K) rfl) (by rfl) T.n_isinstance (by decide +kernel) (pa_cons (pv 0) (pa_cons (pe_bltn (v := .ty "bool") (by rfl) T.n_bool (by decide +kernel) rfl) pa_nil)))) (pe_one (pe_chain op_le op_le (pv 1) (pv 0) (pv 2))))))), ?_⟩
  rintro ⟨d, lo, hi⟩ G M vs ⟨v, rfl, (dv : Dp K G v d)⟩
  refine sv_ret (ev_andV (ev_isi (.inl rfl) (ev_varP rfl dv)) fun h1 => ev_andV (b := decide (lo ≤ intOf d) && decide (intOf d ≤ hi)) (ev_notV (ev_isi (.inr (.inl rfl)) (ev_varP rfl dv))) fun h2 => ?_) fun v' G' M' e r => ?_
  · have hd := isInt_of h1 (by simpa using h2)
    refine ev_chainI (i := lo) (j := intOf d) (k := hi) (P := fun i j => decide (i ≤ j)) (P' := fun i j => decide (i ≤ j)) (ev_var rfl) (ev_dI (K := K) (ev_varP rfl (by rw [hd] at dv; exact dv))) (ev_var rfl) (fun _ _ q => ⟨_, _, rfl, rfl, q⟩) (fun _ _ q => ⟨_, _, rfl, rfl, q⟩)
  · obtain ⟨rfl, rfl⟩ := r
    refine ⟨?_, rfl⟩
    show V.bl (isTy d "int" && (!isTy d "bool" && _)) = V.bl (isInt d && _)
    rw [← isInt_ty, Bool.and_assoc]

-- is_column
theorem ok_is_column (T : Txt K mg) : FnOk P w K mg base CX0 2 T.a_is_column T.fd_is_column ["base", "rows", "value"] (spec (colPre K) (colPost isCol)) := by
  refine fn_sv T.F_is_column sc_is_column (fun x G M vs h => by obtain ⟨v, rfl, _⟩ := h; rfl) fun cdv A outer s H E hr => ⟨_, (pss_cons (ps_if (PW.pt (pw_or (pt_not (pt_val (pe_callB (k_isi (K := K) rfl) (by rfl) T.n_isinstance (by decide +kernel) (pa_cons (pv 2) (pa_cons (pe_bltn (v := .ty "tuple") (by rfl) T.n_tuple (by decide +kernel) rfl) pa_nil))))) (pw_or1 (pt_cmpR op_ne (pe_callB (k_len (K := K) rfl) (by rfl) T.n_len (by decide +kernel) (pa_cons (pv 2) pa_nil)) (pv 1) (nomark _))))) (pss_one (ps_ret (pe_bl))) (pss_nil)) (pss_one (ps_ret (pe_callB (k_all (K := K) rfl rfl) (by rfl) T.n_all (by decide +kernel) (pa_cons (pe_lc (own := [("figure", 3)]) (g := gName 3) (tt := tYes) rfl sc_is_column.nd (pi_tup (pv 2)) (blkOk_by (N := ["base", "rows", "value", "figure"]) (sc := defScope s_is_column) (by decide +kernel)) (fun _ _ _ _ _ => pg_name (i := 3) sc_is_column.nd rfl (Or.inl rfl)) (fun _ _ _ _ _ => pts_nil) (fun _ _ _ _ _ => pe_call (ok_is_whole T) (hr.mono (by decide)) (by rfl) T.m_is_whole T.F_is_whole.kp T.b_is_whole .nil pass0 (pa_cons (pv 3) (pa_cons (pe_int) (pa_cons (pe_op op_sub (pv 0) (pe_int)) pa_nil))))) pa_nil))))), ?_⟩
  rintro ⟨b, r, d⟩ G M vs ⟨v, rfl, (dv : Dp K G v d), (hz : dlen d ≤ 100000)⟩
  refine sv_ifs (et_or (b := !decide ((dlen d : Int) = r)) (et_not (et_B (ev_isi (.inr (.inr (.inl rfl))) (ev_varP rfl dv)))) ?_) ?_ ?_
  · intro h
    obtain ⟨ds, rfl⟩ := tup_of (by simpa using h)
    exact et_test (ev_neI (ev_lenT (K := K) (ev_varP rfl dv)) (ev_var rfl))
  · intro G1 e1 hb
    refine sv_ret ev_c fun v' G' M' e r => ?_
    obtain ⟨rfl, rfl⟩ := r
    refine ⟨?_, rfl⟩
    show V.bl false = V.bl (isCol b r d)
    cases d with
    | tuple ds =>
      rw [isTy_tup] at hb
      have : ¬ ((ds.length : Int) = r) := fun z => by simp [dlen, z] at hb
      simp [isCol, this]
    | _ => rfl
  · intro G1 e1 hb
    refine sv_next fun G2 e2 => ?_
    have hb' : isTy d "tuple" = true ∧ (dlen d : Int) = r := by simpa using hb
    obtain ⟨ds, rfl⟩ := tup_of hb'.1
    have hl : (ds.length : Int) = r := hb'.2
    have e12 := e1.trans e2
    refine sv_ret (ev_allT (K := K) (f := fun d => isWhole d 0 (b - 1)) (ev_varP rfl (dm dv e12)) hz (fun i d x G' hd e dx => ?_) (fun _ => rfl)) fun v' G' M' e r' => ?_
    · exact ev_whole (ea_cons (ev_varP rfl dx) (ea_cons ev_c (ea_cons (ev_I0 (ev_var rfl) ev_c) ea_nil)))
    · obtain ⟨rfl, rfl⟩ := r'
      refine ⟨?_, rfl⟩
      show V.bl _ = V.bl (isCol b r (.tuple ds))
      simp [isCol, hl]

-- _are_columns
theorem ok__are_columns (T : Txt K mg) : FnOk P w K mg base CX0 3 T.a__are_columns T.fd__are_columns ["base", "rows", "value"] (spec (colsPre K) (colPost areCols)) := by
  refine fn_sv T.F__are_columns sc__are_columns (fun x G M vs h => by obtain ⟨v, rfl, _⟩ := h; rfl) fun cdv A outer s H E hr => ⟨_, (pss_cons (ps_if (pt_not (pt_val (pe_callB (k_isi (K := K) rfl) (by rfl) T.n_isinstance (by decide +kernel) (pa_cons (pv 2) (pa_cons (pe_bltn (v := .ty "list") (by rfl) T.n_list (by decide +kernel) rfl) pa_nil))))) (pss_one (ps_ret (pe_bl))) (pss_nil)) (pss_one (ps_ret (pe_callB (k_all (K := K) rfl rfl) (by rfl) T.n_all (by decide +kernel) (pa_cons (pe_lc (own := [("column", 3)]) (g := gName 3) (tt := tYes) rfl sc__are_columns.nd (pi_list (pv 2)) (blkOk_by (N := ["base", "rows", "value", "column"]) (sc := defScope s__are_columns) (by decide +kernel)) (fun _ _ _ _ _ => pg_name (i := 3) sc__are_columns.nd rfl (Or.inl rfl)) (fun _ _ _ _ _ => pts_nil) (fun _ _ _ _ _ => pe_call (ok_is_column T) (hr.mono (by decide)) (by rfl) T.m_is_column T.F_is_column.kp T.b_is_column .nil pass0 (pa_cons (pv 0) (pa_cons (pv 1) (pa_cons (pv 3) pa_nil))))) pa_nil))))), ?_⟩
  rintro ⟨b, r, d⟩ G M vs ⟨v, rfl, (dt : Dt K G M v d), (hz : dlen d ≤ 100000), (hy : ∀ ds, d = .list ds → ∀ c ∈ ds, dlen c ≤ 100000)⟩
  refine sv_ifs (et_not (et_B (ev_isiA (K := K) (.inr (.inr (.inr (.inl rfl)))) (ev_var rfl) dt.da))) ?_ ?_
  · intro G1 e1 hb
    refine sv_ret ev_c fun v' G' M' e r' => ?_
    obtain ⟨rfl, rfl⟩ := r'
    refine ⟨?_, rfl⟩
    show V.bl false = V.bl (areCols b r d)
    cases d with
    | list ds =>
      rw [isTy_lst] at hb
      cases hb
    | _ => rfl
  · intro G1 e1 hb
    refine sv_next fun G2 e2 => ?_
    have hb' : isTy d "list" = true := by simpa using hb
    obtain ⟨ds, rfl⟩ := lst_of hb'
    have e12 := e1.trans e2
    obtain ⟨a, xs, rfl, hA, hd⟩ := dt.lst
    refine sv_ret (ev_allA (K := K) (f := fun d => isCol b r d) (ev_var rfl) (hA.ex e12) (dma hd e12) hz (fun i d x G' hd e dx => ?_) (fun _ => rfl)) fun v' G' M' e r' => ?_
    · exact ev_col (f := isCol) (ea_cons (ev_var rfl) (ea_cons (ev_var rfl) (ea_cons (ev_varP rfl dx) ea_nil))) (hy ds rfl d (List.mem_of_getElem? hd))
    · obtain ⟨rfl, rfl⟩ := r'
      refine ⟨?_, rfl⟩
      show V.bl _ = V.bl (areCols b r (.list ds))
      rfl

-- is_base
theorem ok_is_base (T : Txt K mg) : FnOk P w K mg base CX0 2 T.a_is_base T.fd_is_base ["value"] (spec (d1Pre K) (b1Post fun d => isWhole d 2 12)) := by
  refine fn_sv T.F_is_base sc_is_base (fun x G M vs h => by obtain ⟨v, rfl, _⟩ := h; rfl) fun cdv A outer s H E hr => ⟨_, (pss_one (ps_ret (pe_call (ok_is_whole T) (hr.mono (by decide)) (by rfl) T.m_is_whole T.F_is_whole.kp T.b_is_whole .nil pass0 (pa_cons (pv 0) (pa_cons (pe_int) (pa_cons (pe_glob (v := .int 12) (by rfl) T.m_MOST_BASE ⟨_, rfl⟩) pa_nil)))))), ?_⟩
  rintro d G M vs ⟨v, rfl, dv⟩
  exact sv_ret (ev_whole (ea_cons (ev_varP rfl dv) (ea_cons ev_c (ea_cons ev_c ea_nil)))) fun v' G' M' e r => r

-- is_rows
theorem ok_is_rows (T : Txt K mg) : FnOk P w K mg base CX0 2 T.a_is_rows T.fd_is_rows ["value"] (spec (d1Pre K) (b1Post fun d => isWhole d 1 4)) := by
  refine fn_sv T.F_is_rows sc_is_rows (fun x G M vs h => by obtain ⟨v, rfl, _⟩ := h; rfl) fun cdv A outer s H E hr => ⟨_, (pss_one (ps_ret (pe_call (ok_is_whole T) (hr.mono (by decide)) (by rfl) T.m_is_whole T.F_is_whole.kp T.b_is_whole .nil pass0 (pa_cons (pv 0) (pa_cons (pe_int) (pa_cons (pe_glob (v := .int 4) (by rfl) T.m_MOST_ROWS ⟨_, rfl⟩) pa_nil)))))), ?_⟩
  rintro d G M vs ⟨v, rfl, dv⟩
  exact sv_ret (ev_whole (ea_cons (ev_varP rfl dv) (ea_cons ev_c (ea_cons ev_c ea_nil)))) fun v' G' M' e r => r

-- Sheet___init__
theorem ok_Sheet___init__ (T : Txt K mg) : FnOk P w K mg base (L2.CX P w) 4 T.a_Sheet___init__ T.fd_Sheet___init__ ["self", "base", "rows", "columns"] (specX (initPre K T.c_Sheet) (initPost K T.c_Sheet) (initExc T.c_InvalidSheet)) := by
  refine fn_svX T.F_Sheet___init__ sc_Sheet___init__ (fun x G M vs h => by obtain ⟨rfl, _⟩ := h; rfl) fun cdv A outer s H E hr => ⟨_, (pss_cons (ps_if (pt_not (pt_val (pe_call (ok_is_base T) (hr.mono (by decide)) (by rfl) T.m_is_base T.F_is_base.kp T.b_is_base .nil pass0 (pa_cons (pv 1) pa_nil)))) (pss_one (ps_raise rfl (takes_of rfl rfl rfl rfl) (pmk_own PySem.F.excBase_ValueError T.x_InvalidSheet T.m_InvalidSheet T.xk_InvalidSheet (raises_own T.xb_InvalidSheet T.xt_InvalidSheet) rfl))) (pss_nil)) (pss_cons (ps_if (pt_not (pt_val (pe_call (ok_is_rows T) (hr.mono (by decide)) (by rfl) T.m_is_rows T.F_is_rows.kp T.b_is_rows .nil pass0 (pa_cons (pv 2) pa_nil)))) (pss_one (ps_raise rfl (takes_of rfl rfl rfl rfl) (pmk_own PySem.F.excBase_ValueError T.x_InvalidSheet T.m_InvalidSheet T.xk_InvalidSheet (raises_own T.xb_InvalidSheet T.xt_InvalidSheet) rfl))) (pss_nil)) (pss_cons (ps_if (pt_not (pt_val (pe_call (ok__are_columns T) (hr.mono (by decide)) (by rfl) T.m__are_columns T.F__are_columns.kp T.b__are_columns .nil pass0 (pa_cons (pv 1) (pa_cons (pv 2) (pa_cons (pv 3) pa_nil)))))) (pss_one (ps_raise rfl (takes_of rfl rfl rfl rfl) (pmk_own PySem.F.excBase_ValueError T.x_InvalidSheet T.m_InvalidSheet T.xk_InvalidSheet (raises_own T.xb_InvalidSheet T.xt_InvalidSheet) rfl))) (pss_nil)) (pss_cons (ps_fld (pv 0) (pv 1) rfl) (pss_cons (ps_fld (pv 0) (pv 2) rfl) (pss_one (ps_fld (pv 0) (pe_lc (own := [("column", 4)]) (g := gName 4) (tt := tYes) rfl sc_Sheet___init__.nd (pi_list (pv 3)) (blkOk_by (N := ["self", "base", "rows", "columns", "column"]) (sc := defScope s_Sheet___init__) (by decide +kernel)) (fun _ _ _ _ _ => pg_name (i := 4) sc_Sheet___init__.nd rfl (Or.inl rfl)) (fun _ _ _ _ _ => pts_nil) (fun _ _ _ _ _ => pe_callTy (k_tup (K := K) rfl) (by rfl) T.n_tuple (by decide +kernel) (pa_cons (pv 4) pa_nil))) rfl))))))), ?_⟩
  rintro ⟨p, dx, vb, vr, vc, db, dr, dc⟩ G M vs ⟨rfl, M0, rfl, (hdb : Dp K G vb db), (hdr : Dp K G vr dr), (hdc : Dt K G M0 vc dc), (hz : dlen dc ≤ 100000), (hy : ∀ ds, dc = .list ds → ∀ c ∈ ds, dlen c ≤ 100000)⟩
  refine sv_ifs (et_not (et_B (ev_d1 (K := K) (ev_varP rfl hdb)))) (fun G1 e1 hb => sv_raise fun G2 e2 => ?_) fun G1 e1 hb => sv_next fun G2 e2 => ?_
  · exact ⟨by show (_ && _) = false; rw [show isWhole db 2 12 = false by simpa using hb]; rfl, rfl, rfl, rfl⟩
  have hw1 : isWhole db 2 12 = true := by simpa using hb
  refine sv_ifs (et_not (et_B (ev_d1 (K := K) (ev_varP rfl (dm hdr (e1.trans e2)))))) (fun G1 e1 hb => sv_raise fun G2 e2 => ?_) fun G3 e3 hb => sv_next fun G4 e4 => ?_
  · exact ⟨by show (_ && (_ && _)) = false; rw [show isWhole dr 1 4 = false by simpa using hb]; simp, rfl, rfl, rfl⟩
  have hw2 : isWhole dr 1 4 = true := by simpa using hb
  obtain ⟨b, rfl, b2, b12⟩ := whole_int hw1
  obtain ⟨r, rfl, r1, r4⟩ := whole_int hw2
  obtain rfl := dp_int hdb
  obtain rfl := dp_int hdr
  have e14 := ((e1.trans e2).trans e3).trans e4
  have hdc' : Dt K G4 (M0 ++ [(p, HO.ins T.c_Sheet dx [])]) vc dc := by
    rcases hdc with h | ⟨a, xs, ds, h1, h2, h3, h4⟩
    · exact .inl (dm h e14)
    · exact .inr ⟨a, xs, ds, h1, h2, h3.more.ex e14, dma h4 e14⟩
  refine sv_ifs (et_not (et_B (ev_cols (K := K) (f := areCols) (ea_cons (ev_var rfl) (ea_cons (ev_var rfl) (ea_cons (ev_var rfl) ea_nil))) hdc' hz hy))) (fun G1 e1 hb => sv_raise fun G2 e2 => ?_) fun G5 e5 hb => sv_next fun G6 e6 => ?_
  · exact ⟨by show (_ && (_ && areCols b r dc)) = false; rw [show areCols b r dc = false by simpa using hb]; simp, rfl, rfl, rfl⟩
  have hac : areCols b r dc = true := by simpa using hb
  obtain ⟨ds, rfl⟩ : ∃ ds, dc = .list ds := by
    cases dc with
    | list ds => exact ⟨ds, rfl⟩
    | _ => cases hac
  obtain ⟨a, xs, rfl, hA, hd⟩ := hdc.lst
  have hall : ∀ d ∈ ds, isCol b r d = true := List.all_eq_true.mp hac
  have hok : okSh (.int b) (.int r) (.list ds) = true := by
    unfold okSh
    rw [hw1, hw2]
    exact hac
  have e16 := (e14.trans e5).trans e6
  have hn0 : (M0 ++ [(p, HO.ins T.c_Sheet dx [])])[M0.length]? = some (p, .ins T.c_Sheet dx []) := by simp
  refine sv_seq (N := fun G' σ' M' => σ' = [some (.ref p), some (.int b), some (.int r), some (.ref a), none] ∧ M' = M0 ++ [(p, .ins T.c_Sheet dx (putF "_base" (.int b) []))]) (sv_fld (p := p) (C := T.c_Sheet) (dx := dx) (fs := []) (n := M0.length) (ev_var rfl) (fun G1 v' M1 e hR => ?_) T.cl_Sheet T.na_Sheet__base (by decide) fun G1 G2 v' M1 e e' hR => ?_) ?_
  · obtain ⟨rfl, rfl⟩ := hR
    exact ⟨ev_var rfl, hn0⟩
  · obtain ⟨rfl, rfl⟩ := hR
    exact ⟨rfl, by simp [List.set_append]⟩
  rintro G7 σ7 M7 e7 ⟨rfl, rfl⟩
  refine sv_seq (N := fun G' σ' M' => σ' = [some (.ref p), some (.int b), some (.int r), some (.ref a), none] ∧ M' = M0 ++ [(p, .ins T.c_Sheet dx (putF "_rows" (.int r) (putF "_base" (.int b) [])))]) (sv_fld (p := p) (C := T.c_Sheet) (dx := dx) (fs := putF "_base" (.int b) []) (n := M0.length) (ev_var rfl) (fun G1 v' M1 e hR => ?_) T.cl_Sheet T.na_Sheet__rows (by show 1 < 1000; decide) fun G1 G2 v' M1 e e' hR => ?_) ?_
  · obtain ⟨rfl, rfl⟩ := hR
    exact ⟨ev_var rfl, by simp⟩
  · obtain ⟨rfl, rfl⟩ := hR
    exact ⟨rfl, by simp [List.set_append]⟩
  rintro G8 σ8 M8 e8 ⟨rfl, rfl⟩
  refine sv_fld (fs := putF "_rows" (.int r) (putF "_base" (.int b) [])) (n := M0.length) (R := own K ds (M0 ++ [(p, .ins T.c_Sheet dx (putF "_rows" (.int r) (putF "_base" (.int b) [])))])) (p := p) (C := T.c_Sheet) (dx := dx) ?_ (fun G1 v' M1 e hR => ?_) T.cl_Sheet T.na_Sheet__columns (by show 2 < 1000; decide) fun G1 G2 v' M1 e e' hR => ?_
  · refine ev_mapA (K := K) (own' := [4]) (p := a) (xs := xs) (ds := ds) (k := 4) (fun i => (ds[i]?).getD .none) (ev_var rfl) (hA.more.ex ((e16.trans e7).trans e8)) (dma hd ((e16.trans e7).trans e8)) hz (fun i d x G' hd e dx => ?_) (fun _ => rfl) (kept_ids _)
    rw [hd]
    obtain ⟨c, rfl, _⟩ := isCol_of (hall d (List.mem_of_getElem? hd))
    exact ev_tupT (ev_varP rfl dx)
  · obtain ⟨l, ys, rfl, rfl, hdy⟩ := hR
    exact ⟨ev_var rfl, by simp⟩
  · obtain ⟨l, ys, rfl, rfl, hdy⟩ := hR
    exact ⟨hok, rfl, l, ys, M0, ds, rfl, rfl, by simp [List.set_append, shF], dma hdy e'⟩
theorem okG_Sheet___init__ (T : Txt K mg) : FnOk P w K mg base (L2.CX P w) 4 T.a_Sheet___init__ T.fd_Sheet___init__ ["self", "base", "rows", "columns"] (spec (mkShPre K T.c_Sheet) (mkShPost K T.c_Sheet)) :=
  (ok_Sheet___init__ T).imp fun vs H Q E h => by
    obtain ⟨⟨p, dx, b, r, cs⟩, G, M, F, m, ⟨a, xs, M0, rfl, rfl, hA, hd, g⟩, q⟩ := h
    have g : GoodSh b r cs := g
    refine ⟨⟨p, dx, .int b, .int r, .ref a, .int b, .int r, .list (cs.map colD)⟩, G, _, F, m, ⟨rfl, M0, rfl, .int b, .int r, .inr ⟨a, xs, _, rfl, rfl, hA, hd⟩, ?_, ?_⟩, fun v G' M' H' e' m' r' => ?_, fun c d G' M' H' e' m' r' => ?_⟩
    · show (cs.map colD).length ≤ 100000
      have := g.len
      rw [List.length_map]
      omega
    · intro ds hds c hc
      cases hds
      obtain ⟨c', hc', rfl⟩ := List.mem_map.mp hc
      rw [dlen_colD]
      have := g.clen hc'
      omega
    · obtain ⟨_, rfl, l, ys, M0', ds, h1, h2, rfl, h4⟩ := r'
      cases h2
      exact q _ G' _ H' e' m' ⟨rfl, l, ys, M0', h1, rfl, h4⟩
    · have hz : okSh (.int b) (.int r) (.list (cs.map colD)) = false := r'.1
      rw [okSh_good g] at hz
      cases hz

-- Sheet___setitem__
theorem ok_Sheet___setitem__ (T : Txt K mg) : FnOk P w K mg base (L2.CX P w) 3 T.a_Sheet___setitem__ T.fd_Sheet___setitem__ ["self", "at", "worth"] (specX (setPre K T.c_Sheet) (setPost K) (setExc T.c_InvalidColumn)) := by
  refine fn_svX T.F_Sheet___setitem__ sc_Sheet___setitem__ (fun x G M vs h => by obtain ⟨rfl, _⟩ := h; rfl) fun cdv A outer s H E hr => ⟨_, (pss_cons (ps_if (pt_not (pt_val (pe_call (ok_is_column T) (hr.mono (by decide)) (by rfl) T.m_is_column T.F_is_column.kp T.b_is_column .nil pass0 (pa_cons (k_fld (K := K) rfl (pv 0) rfl) (pa_cons (k_fld (K := K) rfl (pv 0) rfl) (pa_cons (pv 2) pa_nil)))))) (pss_one (ps_raise rfl (takes_of rfl rfl rfl rfl) (pmk_own PySem.F.excBase_ValueError T.x_InvalidColumn T.m_InvalidColumn T.xk_InvalidColumn (raises_own T.xb_InvalidColumn T.xt_InvalidColumn) rfl))) (pss_nil)) (pss_one (ps_asg (pe_callTy (k_tup (K := K) rfl) (by rfl) T.n_tuple (by decide +kernel) (pa_cons (pv 2) pa_nil)) (pg_sub (k_fld (K := K) rfl (pv 0) rfl) (pv 1) set_list)))), ?_⟩
  rintro ⟨p, dx, l, n, b, r, xs, i, j, v, d⟩ G M vs ⟨rfl, (hp : At G M p _), (hl : M[n]? = some (l, .lst xs)), (hj : ixN xs.length i = some j), (hd : Dp K G v d), (hz : dlen d ≤ 100000)⟩
  refine sv_ifs (et_not (et_B (ev_col (K := K) (f := isCol) (ea_cons (ev_fld (ev_var rfl) hp T.cl_Sheet T.na_Sheet__base shF_b) (ea_cons (ev_fld (ev_var rfl) hp T.cl_Sheet T.na_Sheet__rows shF_r) (ea_cons (ev_varP rfl hd) ea_nil))) hz))) (fun G1 e1 hb => sv_raise fun G2 e2 => ?_) fun G1 e1 hb => sv_next fun G2 e2 => ?_
  · exact ⟨by simpa using hb, rfl, rfl, rfl⟩
  have hc : isCol b r d = true := by simpa using hb
  obtain ⟨c, rfl, _⟩ := isCol_of hc
  have e12 := e1.trans e2
  refine sv_setIxP (n := n) (ev_tupT (K := K) (ev_varP rfl (dm hd e12))) (ev_fld (ev_var rfl) (hp.ex e12) T.cl_Sheet T.na_Sheet__columns shF_c) (ev_var rfl) hl hj fun y G' e hy => ⟨hc, rfl, y, hy, rfl⟩
theorem setO_Sheet___setitem__ (T : Txt K mg) {X : Cx} (hP : X.prog = P := by rfl) (hw : X.w = w := by rfl) (hK : X.K = K := by rfl) (hm : X.mg = mg := by rfl) (hr : Room 3 X.A) : PSet X (rSetO T.c_Sheet (spec (setGPre K T.c_Sheet) (setPost K)) E0) := by
  subst hP hw hK hm
  exact set_own T.me_Sheet___setitem__ T.ns_Sheet (FnOk.calm (ok_Sheet___setitem__ T) (fun x G M vs h => h.1) (fun x G M vs c d G' M' h z => by
    have h1 := h.2
    have z1 := z.1
    rw [h1] at z1
    cases z1)) hr T.b_Sheet___setitem__ passL

-- Written___init__
theorem ok_Written___init__ (T : Txt K mg) : FnOk P w K mg base CX0 1 T.a_Written___init__ T.fd_Written___init__ ["self", "base", "figures", "last"] (spec (mkWrPre K T.c_Written) (mkWrPost K T.c_Written)) := by
  refine fn_sv T.F_Written___init__ sc_Written___init__ (fun x G M vs h => by obtain ⟨v, M0, rfl, _⟩ := h; rfl) fun cdv A outer s H E hr => ⟨_, (pss_cons (ps_fld (pv 0) (pv 1) rfl) (pss_cons (ps_fld (pv 0) (pe_callTy (k_list (K := K) rfl) (by rfl) T.n_list (by decide +kernel) (pa_cons (pv 2) pa_nil)) rfl) (pss_one (ps_fld (pv 0) (pv 3) rfl)))), ?_⟩
  rintro ⟨p, dx, b, figs, last⟩ G M vs ⟨v, M0, rfl, rfl, (hd : Dt K G M0 v (.list (figs.map .int)))⟩
  obtain ⟨a, xs, rfl, hA, hx⟩ := hd.lst
  refine sv_seq (N := fun G' σ' M' => σ' = [some (.ref p), some (.int b), some (.ref a), some (.int last)] ∧ M' = M0 ++ [(p, HO.ins T.c_Written dx (putF "_base" (.int b) []))]) (sv_fld (p := p) (C := T.c_Written) (dx := dx) (fs := []) (n := M0.length) (ev_var rfl) (fun G1 v' M1 e hR => ?_) T.cl_Written T.na_Written__base (by decide) fun G1 G2 v' M1 e e' hR => ?_) ?_
  · obtain ⟨rfl, rfl⟩ := hR
    exact ⟨ev_var rfl, by simp⟩
  · obtain ⟨rfl, rfl⟩ := hR
    exact ⟨rfl, by simp [List.set_append]⟩
  rintro G7 σ7 M7 e7 ⟨rfl, rfl⟩
  refine sv_seq (N := fun G' σ' M' => σ' = [some (.ref p), some (.int b), some (.ref a), some (.int last)] ∧ ∃ l ys, M' = M0 ++ [(p, HO.ins T.c_Written dx (putF "_figures" (.ref l) (putF "_base" (.int b) []))), (l, .lst ys)] ∧ DpAll K G' ys (figs.map .int)) (sv_fld (fs := putF "_base" (.int b) []) (n := M0.length) (R := own K (figs.map .int) (M0 ++ [(p, HO.ins T.c_Written dx (putF "_base" (.int b) []))])) (p := p) (C := T.c_Written) (dx := dx) (ev_listA (K := K) (ev_var rfl) ((hA.more).ex e7) (dma hx e7)) (fun G1 v' M1 e hR => ?_) T.cl_Written T.na_Written__figures (by show 1 < 1000; decide) fun G1 G2 v' M1 e e' hR => ?_) ?_
  · obtain ⟨l, ys, rfl, rfl, hdy⟩ := hR
    exact ⟨ev_var rfl, by simp⟩
  · obtain ⟨l, ys, rfl, rfl, hdy⟩ := hR
    exact ⟨rfl, l, ys, by simp [List.set_append], dma hdy e'⟩
  rintro G8 σ8 M8 e8 ⟨rfl, l, ys, rfl, hdy⟩
  refine sv_fld (p := p) (C := T.c_Written) (dx := dx) (fs := putF "_figures" (.ref l) (putF "_base" (.int b) [])) (n := M0.length) (ev_var rfl) (fun G1 v' M1 e hR => ?_) T.cl_Written T.na_Written__last (by show 2 < 1000; decide) fun G1 G2 v' M1 e e' hR => ?_
  · obtain ⟨rfl, rfl⟩ := hR
    exact ⟨ev_var rfl, by simp⟩
  · obtain ⟨rfl, rfl⟩ := hR
    exact ⟨rfl, l, ys, M0, rfl, by simp [List.set_append, wrF], dma hdy (e.trans e')⟩

-- Written_figures
theorem ok_Written_figures (T : Txt K mg) : FnOk P w K mg base CX0 1 T.a_Written_figures T.fd_Written_figures ["self"] (spec (wrPre K T.c_Written) fun x M => own K (x.2.2.1.map .int) M) := by
  refine fn_sv T.F_Written_figures sc_Written_figures (fun x G M vs h => by obtain ⟨rfl, _⟩ := h; rfl) fun cdv A outer s H E hr => ⟨_, (pss_one (ps_ret (pe_callTy (k_list (K := K) rfl) (by rfl) T.n_list (by decide +kernel) (pa_cons (k_fld (K := K) rfl (pv 0) rfl) pa_nil)))), ?_⟩
  rintro ⟨p, b, figs, last⟩ G M vs ⟨rfl, dx, l, xs, h1, h2, h3⟩
  exact sv_ret (ev_listA (K := K) (ev_fld (ev_var rfl) (.G h1) T.cl_Written T.na_Written__figures wrF_f) (.G h2) h3) fun v' G' M' e r => r

-- place_value
theorem ok_place_value (T : Txt K mg) : FnOk P w K mg base CX0 1 T.a_place_value T.fd_place_value ["base", "figures", "last"] (spec (placePre K) placePost) := by
  refine fn_sv T.F_place_value sc_place_value (fun x G M vs h => by obtain ⟨v, rfl, _⟩ := h; rfl) fun cdv A outer s H E hr => ⟨_, (pss_cons (ps_set (i := 3) sc_place_value.nd rfl (Or.inl rfl) (pv 2)) (pss_cons (ps_for PassesOwn.never rfl (pi_list (pe_revL (pv 1))) (pg_name (i := 4) sc_place_value.nd rfl (Or.inl rfl)) (pss_one (ps_set (i := 3) sc_place_value.nd rfl (Or.inl rfl) (pe_op op_add (pe_op op_mul (pv 3) (pv 0)) (pv 4))))) (pss_one (ps_ret (pv 3))))), ?_⟩
  rintro ⟨b, figs, last⟩ G M vs ⟨v, rfl, (dv : Dp K G v (.list (figs.map PyData.int))), (hb : -(2 ^ 64) < b ∧ b < 2 ^ 64)⟩
  refine sv_let (ev_var rfl) ?_
  rintro _ G1 M1 e1 ⟨rfl, rfl⟩
  refine sv_seq (N := fun G2 σ2 M2 => M2 = M1 ∧ ∃ f, σ2 = [some (.int b), some v, some (.int last), some (.int (horner b figs last)), f]) ?_ ?_
  · refine sv_forD (K := K) (ds := (figs.map PyData.int).reverse) (M1 := M1) (fun i G2 σ2 M2 => M2 = M1 ∧ ∃ f, σ2 = [some (.int b), some v, some (.int last), some (.int (horner b (figs.reverse.take i).reverse last)), f]) (Ev.frz (ev_revL (ev_varP rfl (dm dv e1)))) ?_ ?_ ?_
    · exact fun G' _ => ⟨rfl, none, rfl⟩
    · rintro i d x G2 σ2 M2 e2 hd dx ⟨rfl, f, rfl⟩
      obtain ⟨n, hn, rfl⟩ : ∃ n, figs.reverse[i]? = some n ∧ d = .int n := by
        rw [← List.map_reverse, List.getElem?_map] at hd
        cases q : figs.reverse[i]? with
        | none => rw [q] at hd; cases hd
        | some n => rw [q] at hd; exact ⟨n, rfl, (Option.some.inj hd).symm⟩
      obtain rfl := dp_int dx
      refine sv_tgN (sv_set (ev_I0 (ev_I (ev_var rfl) (ev_var rfl) (.inr hb)) (ev_var rfl)) ?_)
      rintro _ G3 M3 e3 ⟨rfl, rfl⟩
      refine ⟨rfl, some (.int n), ?_⟩
      show _ = [some (.int b), some v, some (.int last), some (.int (horner b (figs.reverse.take (i + 1)).reverse last)), some (.int n)]
      rw [List.take_add_one, hn]
      simp [horner]
    · rintro G2 σ2 M2 e2 ⟨rfl, f, rfl⟩
      refine ⟨rfl, f, ?_⟩
      have hq : (figs.reverse.take figs.length).reverse = figs := by
        rw [List.take_of_length_le (by simp), List.reverse_reverse]
      simp only [List.length_reverse, List.length_map, hq]
  · rintro G2 σ2 M2 e2 ⟨rfl, f, rfl⟩
    exact sv_ret (ev_var rfl) fun v' G' M' e r => r

-- Sheet_value
theorem ok_Sheet_value (T : Txt K mg) : FnOk P w K mg base CX0 2 T.a_Sheet_value T.fd_Sheet_value ["self"] (spec (shGPre K T.c_Sheet) fun x M => isV (.int (valueOf x.2.1 x.2.2.2)) M) := by
  refine fn_sv T.F_Sheet_value sc_Sheet_value (fun x G M vs h => by obtain ⟨⟨rfl, _⟩, _⟩ := h; rfl) fun cdv A outer s H E hr => ⟨_, (pss_one (ps_ret (pe_call (ok_place_value T) (hr.mono (by decide)) (by rfl) T.m_place_value T.F_place_value.kp T.b_place_value .nil pass0 (pa_cons (k_fld (K := K) rfl (pv 0) rfl) (pa_cons (pe_lc (own := [("column", 1)]) (g := gName 1) (tt := tYes) rfl sc_Sheet_value.nd (pi_list (k_fld (K := K) rfl (pv 0) rfl)) (blkOk_by (N := ["self", "column"]) (sc := defScope s_Sheet_value) (by decide +kernel)) (fun _ _ _ _ _ => pg_name (i := 1) sc_Sheet_value.nd rfl (Or.inl rfl)) (fun _ _ _ _ _ => pts_nil) (fun _ _ _ _ _ => pe_callB (k_sumT (K := K) rfl rfl) (by rfl) T.n_sum (by decide +kernel) (pa_cons (pv 1) pa_nil))) (pa_cons (pe_int) pa_nil)))))), ?_⟩
  rintro ⟨p, b, r, cs⟩ G M vs ⟨⟨rfl, dx, l, xs, h1, h2, h3⟩, hl, hb⟩
  refine sv_ret (ev_place (K := K) (b := b) (figs := cs.map List.sum) (last := 0) (ea_cons (ev_fld (ev_var rfl) h1 T.cl_Sheet T.na_Sheet__base shF_b) (ea_cons ?_ (ea_cons ev_c ea_nil))) hb) fun v' G' M' e r => r
  refine Ev.frz (ev_mapA (K := K) (own' := [1]) (p := l) (xs := xs) (ds := cs.map colD) (M1 := M) (fun i => .int (((cs[i]?).getD []).sum)) (ev_fld (ev_var rfl) h1 T.cl_Sheet T.na_Sheet__columns shF_c) h2 h3 (by rw [List.length_map]; exact hl) (fun i d x G' hd e dx => ?_) (fun _ => rfl) ?_)
  · rw [List.getElem?_map] at hd
    cases q : cs[i]? with
    | none => rw [q] at hd; cases hd
    | some c =>
      rw [q] at hd
      cases hd
      exact ev_iD (ev_sumT (K := K) (ns := c) (ev_varP rfl dx))
  · refine kept_ext (by simp) fun i d hd => ?_
    rw [List.map_map, List.getElem?_map] at hd
    cases q : cs[i]? with
    | none => rw [q] at hd; cases hd
    | some z => rw [q] at hd; cases hd; rfl

-- Written_value
theorem ok_Written_value (T : Txt K mg) : FnOk P w K mg base CX0 2 T.a_Written_value T.fd_Written_value ["self"] (spec (wrGPre K T.c_Written) fun x M => isV (.int (horner x.2.1 x.2.2.1 x.2.2.2)) M) := by
  refine fn_sv T.F_Written_value sc_Written_value (fun x G M vs h => by obtain ⟨⟨rfl, _⟩, _⟩ := h; rfl) fun cdv A outer s H E hr => ⟨_, (pss_one (ps_ret (pe_call (ok_place_value T) (hr.mono (by decide)) (by rfl) T.m_place_value T.F_place_value.kp T.b_place_value .nil pass0 (pa_cons (k_fld (K := K) rfl (pv 0) rfl) (pa_cons (k_fld (K := K) rfl (pv 0) rfl) (pa_cons (k_fld (K := K) rfl (pv 0) rfl) pa_nil)))))), ?_⟩
  rintro ⟨p, b, figs, last⟩ G M vs ⟨⟨rfl, dx, l, xs, h1, h2, h3⟩, (hb : -(2 ^ 64) < b ∧ b < 2 ^ 64)⟩
  exact sv_ret (ev_place (K := K) (ea_cons (ev_fld (ev_var rfl) (.G h1) T.cl_Written T.na_Written__base wrF_b) (ea_cons (ev_fldD (ev_var rfl) (.G h1) T.cl_Written T.na_Written__figures wrF_f (.lst h2 h3)) (ea_cons (ev_fld (ev_var rfl) (.G h1) T.cl_Written T.na_Written__last wrF_l) ea_nil))) hb) fun v' G' M' e r => r

-- Written___sub__
theorem ok_Written___sub__ (T : Txt K mg) : FnOk P w K mg base CX0 5 T.a_Written___sub__ T.fd_Written___sub__ ["self", "other"] (spec (wsubPre K T.c_Written T.c_Sheet) wsubPost) := by
  refine fn_sv T.F_Written___sub__ sc_Written___sub__ (fun x G M vs h => by obtain ⟨rfl, _⟩ := h; rfl) fun cdv A outer s H E hr => ⟨_, (pss_cons (ps_if (pt_not (pt_val (pe_callB (k_isi (K := K) rfl) (by rfl) T.n_isinstance (by decide +kernel) (pa_cons (pv 1) (pa_cons (pe_glob (v := .ref T.c_Sheet) (by rfl) T.m_Sheet rfl) pa_nil))))) (pss_one (ps_never)) (pss_nil)) (pss_one (ps_ret (pe_op op_sub (pe_prop (pv 0) T.cl_Written T.p_Written_value (ok_Written_value T) (hr.mono (by decide)) T.b_Written_value .nil pass0 rfl) (pe_prop (pv 1) T.cl_Sheet T.p_Sheet_value (ok_Sheet_value T) (hr.mono (by decide)) T.b_Sheet_value .nil pass0 rfl))))), ?_⟩
  rintro ⟨⟨p, b, figs, last⟩, q, b', r, cs⟩ G M vs ⟨rfl, (hW : WrG K T.c_Written p b figs last G), (hS : ShAt K T.c_Sheet G M q b' r cs), (hb : -(2 ^ 64) < b ∧ b < 2 ^ 64), (hb' : -(2 ^ 64) < b' ∧ b' < 2 ^ 64), (hl : cs.length ≤ 100000)⟩
  obtain ⟨dx, l, xs, h1, h2, h3⟩ := hW
  obtain ⟨dy, l', ys, k1, k2, k3⟩ := hS
  refine sv_ifs (a := false) (et_not (a := true) (et_B (ev_isiO T.ic_Sheet T.cl_Sheet T.io_Sheet (ev_var rfl) k1))) (fun G1 e1 hb => by cases hb) fun G1 e1 _ => sv_next fun G2 e2 => ?_
  have e12 := e1.trans e2
  exact sv_ret (ev_I0 (g := fun i j => V.int (i - j)) (ev_prop (pre := wrGPre K T.c_Written) (post := fun x M => isV (.int (horner x.2.1 x.2.2.1 x.2.2.2)) M) (p, b, figs, last) (ev_var rfl) (.G (e12 _ _ h1)) fun G1 e1 => ⟨⟨rfl, dx, l, xs, (e12.trans e1) _ _ h1, ex_l (e12.trans e1) h2, dma h3 (e12.trans e1)⟩, hb⟩) (ev_prop (pre := shGPre K T.c_Sheet) (post := fun x M => isV (.int (valueOf x.2.1 x.2.2.2)) M) (q, b', r, cs) (ev_var rfl) (k1.ex e12) fun G1 e1 => ⟨⟨rfl, dy, l', ys, k1.ex (e12.trans e1), k2.ex (e12.trans e1), dma k3 (e12.trans e1)⟩, hl, hb'⟩)) fun v' G' M' e r => r
theorem op2_Written___sub__ (T : Txt K mg) {X : Cx} (hP : X.prog = P := by rfl) (hw : X.w = w := by rfl) (hK : X.K = K := by rfl) (hm : X.mg = mg := by rfl) (hr : Room 5 X.A) : OpR X (binaryOp .Sub) (rBin2 T.c_Written T.c_Sheet (spec (wsubPre K T.c_Written T.c_Sheet) wsubPost) E0) := by
  subst hP hw hK hm
  exact op_bin2 T.ne_Written_Sheet T.nop_Sheet_sub T.me_Written___sub__.at_ T.me_Written___sub__.fn T.sf_Written (ok_Written___sub__ T) hr T.b_Written___sub__ pass0

-- Written_rest
theorem ok_Written_rest (T : Txt K mg) : FnOk P w K mg base CX0 5 T.a_Written_rest T.fd_Written_rest ["self", "r"] (spec (restPre K T.c_Written) restPost) := by
  refine fn_sv T.F_Written_rest sc_Written_rest (fun x G M vs h => by obtain ⟨rfl, _⟩ := h; rfl) fun cdv A outer s H E hr => ⟨_, (pss_one (ps_ret (pe_op op_mod (pe_prop (pv 0) T.cl_Written T.p_Written_value (ok_Written_value T) (hr.mono (by decide)) T.b_Written_value .nil pass0 rfl) (pv 1)))), ?_⟩
  rintro ⟨⟨p, b, figs, last⟩, r⟩ G M vs ⟨rfl, (hW : WrG K T.c_Written p b figs last G), (hb : -(2 ^ 64) < b ∧ b < 2 ^ 64), (hr' : 0 < r)⟩
  obtain ⟨dx, l, xs, h1, h2, h3⟩ := hW
  exact sv_ret (ev_I (ev_prop (pre := wrGPre K T.c_Written) (post := fun x M => isV (.int (horner x.2.1 x.2.2.1 x.2.2.2)) M) (p, b, figs, last) (ev_var rfl) (.G h1) fun G1 e1 => ⟨⟨rfl, dx, l, xs, e1 _ _ h1, ex_l e1 h2, dma h3 e1⟩, hb⟩) (ev_var rfl) hr') fun v' G' M' e r => r

-- _law_is_integer
theorem ok__law_is_integer (T : Txt K mg) : FnOk P w K mg base CX0 1 T.a__law_is_integer T.fd__law_is_integer ["found"] (spec (d1Pre K) (b1Post isInt)) := by
  refine fn_sv T.F__law_is_integer sc__law_is_integer (fun x G M vs h => by obtain ⟨v, rfl, _⟩ := h; rfl) fun cdv A outer s H E hr => ⟨_, (pss_one (ps_ret (pe_and (pe_callB (k_isi (K := K) rfl) (by rfl) T.n_isinstance (by decide +kernel) (pa_cons (pv 0) (pa_cons (pe_bltn (v := .ty "int") (by rfl) T.n_int (by decide +kernel) rfl) pa_nil))) (pe_one (pe_not (pe_callB (k_isi (K := K) rfl) (by rfl) T.n_isinstance (by decide +kernel) (pa_cons (pv 0) (pa_cons (pe_bltn (v := .ty "bool") (by rfl) T.n_bool (by decide +kernel) rfl) pa_nil)))))))), ?_⟩
  rintro d G M vs ⟨v, rfl, dv⟩
  refine sv_ret (ev_andV (ev_isi (.inl rfl) (ev_varP rfl dv)) fun h1 => ev_notV (ev_isi (.inr (.inl rfl)) (ev_varP rfl dv))) fun v' G' M' e r => ?_
  obtain ⟨rfl, rfl⟩ := r
  exact ⟨by rw [isInt_ty], rfl⟩

-- _law_worth
theorem ok__law_worth (T : Txt K mg) : FnOk P w K mg base CX0 1 T.a__law_worth T.fd__law_worth ["base", "figures", "last"] (spec (wworthPre K) wworthPost) := by
  refine fn_sv T.F__law_worth sc__law_worth (fun x G M vs h => by obtain ⟨v, rfl, _⟩ := h; rfl) fun cdv A outer s H E hr => ⟨_, (pss_cons (ps_set (i := 3) sc__law_worth.nd rfl (Or.inl rfl) (pe_int)) (pss_cons (ps_set (i := 4) sc__law_worth.nd rfl (Or.inl rfl) (pe_int)) (pss_cons (ps_for PassesOwn.never rfl (pi_list (pv 1)) (pg_name (i := 5) sc__law_worth.nd rfl (Or.inl rfl)) (pss_cons (ps_set (i := 3) sc__law_worth.nd rfl (Or.inl rfl) (pe_op op_add (pv 3) (pe_op op_mul (pv 5) (pv 4)))) (pss_one (ps_set (i := 4) sc__law_worth.nd rfl (Or.inl rfl) (pe_op op_mul (pv 4) (pv 0)))))) (pss_one (ps_ret (pe_op op_add (pv 3) (pe_op op_mulW (pv 2) (pv 4)))))))), ?_⟩
  rintro ⟨b, figs, last⟩ G M vs ⟨v, rfl, (hv : Dp K G v (.list (figs.map .int))), ⟨(hb : 0 ≤ b ∧ b ≤ 12), (hl : figs.length ≤ 1000), (hs : ∀ f ∈ figs, -(2 ^ 64) < f ∧ f < 2 ^ 64)⟩, (hw : last.natAbs < 2 ^ 200)⟩
  have hbb : -(2 ^ 64) < b ∧ b < 2 ^ 64 := ⟨by omega, by omega⟩
  refine sv_let ev_c ?_
  rintro _ G1 M1 e1 ⟨rfl, rfl⟩
  refine sv_let ev_c ?_
  rintro _ G2 M2 e2 ⟨rfl, rfl⟩
  have e12 := e1.trans e2
  refine sv_seq (N := fun G' σ' M' => M' = M2 ∧ ∃ f, σ' = [some (.int b), some v, some (.int last), some (.int (horner b figs 0)), some (.int (b ^ figs.length)), f]) ?_ ?_
  · refine sv_forD (K := K) (ds := figs.map .int) (M1 := M2) (fun i G' σ' M' => M' = M2 ∧ ∃ f, σ' = [some (.int b), some v, some (.int last), some (.int (horner b (figs.take i) 0)), some (.int (b ^ i)), f]) (ev_varP rfl (dm hv e12)) (fun G' e => ⟨rfl, none, by rw [List.take_zero, Int.pow_zero]; rfl⟩) ?_ ?_
    · rintro i d x G' σ' M' e hd dx ⟨rfl, f, rfl⟩
      rw [List.getElem?_map] at hd
      cases q : figs[i]? with
      | none => rw [q] at hd; cases hd
      | some c =>
        rw [q] at hd
        cases hd
        obtain rfl := dp_int dx
        have hc : c ∈ figs := List.mem_of_getElem? q
        refine sv_tgN (sv_let (ev_I0 (ev_var rfl) (ev_I (ev_var rfl) (ev_var rfl) (.inl (hs c hc)))) ?_)
        rintro _ G3 M3 e3 ⟨rfl, rfl⟩
        refine sv_set (ev_I (ev_var rfl) (ev_var rfl) (.inr hbb)) ?_
        rintro _ G4 M4 e4 ⟨rfl, rfl⟩
        refine ⟨rfl, some (.int c), ?_⟩
        rw [List.take_add_one, q, show (some c).toList = [c] from rfl, horner_snoc, List.length_take, Nat.min_eq_left (Nat.le_of_lt (List.getElem?_eq_some_iff.mp q).1), Int.pow_succ]
        rfl
    · rintro G' σ' M' e ⟨rfl, f, rfl⟩
      refine ⟨rfl, f, ?_⟩
      rw [List.length_map, List.take_length]
  · rintro G3 σ3 M3 e3 ⟨rfl, f, rfl⟩
    have hcond : CMulW last (b ^ figs.length) := wide_mul (a := 200) (b := 4 * figs.length + 1) hw (pow_wide hb.1 hb.2) (by omega) (by omega) (by omega)
    refine sv_ret (ev_I0 (g := fun i j => V.int (i + j)) (ev_var rfl) (ev_I (C := CMulW) (g := fun i j => V.int (i * j)) (ev_var rfl) (ev_var rfl) hcond)) fun v' G' M' e r => ?_
    show isV (.int (horner b figs last)) _ G' v' M'
    rw [horner_last b figs last, Int.mul_comm]
    exact r

-- Written_base
theorem ok_Written_base (T : Txt K mg) : FnOk P w K mg base CX0 1 T.a_Written_base T.fd_Written_base ["self"] (spec (wrPre K T.c_Written) fun x M => isV (.int x.2.1) M) := by
  refine fn_sv T.F_Written_base sc_Written_base (fun x G M vs h => by obtain ⟨rfl, _⟩ := h; rfl) fun cdv A outer s H E hr => ⟨_, (pss_one (ps_ret (k_fld (K := K) rfl (pv 0) rfl))), ?_⟩
  rintro ⟨p, b, figs, last⟩ G M vs ⟨rfl, dx, l, xs, h1, h2, h3⟩
  exact sv_ret (ev_fld (ev_var rfl) (.G h1) T.cl_Written T.na_Written__base wrF_b) fun v' G' M' e r => r

-- Written_last
theorem ok_Written_last (T : Txt K mg) : FnOk P w K mg base CX0 1 T.a_Written_last T.fd_Written_last ["self"] (spec (wrPre K T.c_Written) fun x M => isV (.int x.2.2.2) M) := by
  refine fn_sv T.F_Written_last sc_Written_last (fun x G M vs h => by obtain ⟨rfl, _⟩ := h; rfl) fun cdv A outer s H E hr => ⟨_, (pss_one (ps_ret (k_fld (K := K) rfl (pv 0) rfl))), ?_⟩
  rintro ⟨p, b, figs, last⟩ G M vs ⟨rfl, dx, l, xs, h1, h2, h3⟩
  exact sv_ret (ev_fld (ev_var rfl) (.G h1) T.cl_Written T.na_Written__last wrF_l) fun v' G' M' e r => r

-- _law_written_right
theorem ok__law_written_right (T : Txt K mg) : FnOk P w K mg base CX0 4 T.a__law_written_right T.fd__law_written_right ["found", "base", "figures", "last"] (spec (wrRPre K T.c_Written) wrRPost) := by
  refine fn_sv T.F__law_written_right sc__law_written_right (fun x G M vs h => by obtain ⟨v, rfl, _⟩ := h; rfl) fun cdv A outer s H E hr => ⟨_, (pss_cons (ps_if (PW.pt (pw_or (pt_not (pt_val (pe_call (ok__law_is_integer T) (hr.mono (by decide)) (by rfl) T.m__law_is_integer T.F__law_is_integer.kp T.b__law_is_integer .nil pass0 (pa_cons (pe_prop (pv 0) T.cl_Written T.p_Written_base (ok_Written_base T) (hr.mono (by decide)) T.b_Written_base .nil pass0 rfl) pa_nil)))) (pw_or (pt_cmpR op_ne (pe_prop (pv 0) T.cl_Written T.p_Written_base (ok_Written_base T) (hr.mono (by decide)) T.b_Written_base .nil pass0 rfl) (pv 1) (nomark _)) (pw_or1 (pt_not (pt_val (pe_call (ok__law_is_integer T) (hr.mono (by decide)) (by rfl) T.m__law_is_integer T.F__law_is_integer.kp T.b__law_is_integer .nil pass0 (pa_cons (pe_prop (pv 0) T.cl_Written T.p_Written_last (ok_Written_last T) (hr.mono (by decide)) T.b_Written_last .nil pass0 rfl) pa_nil)))))))) (pss_one (ps_ret (pe_bl))) (pss_nil)) (pss_cons (ps_set (i := 4) sc__law_written_right.nd rfl (Or.inl rfl) (pe_prop (pv 0) T.cl_Written T.p_Written_figures (ok_Written_figures T) (hr.mono (by decide)) T.b_Written_figures .nil pass0 rfl)) (pss_cons (ps_if (PW.pt (pw_or (pt_not (pt_val (pe_callB (k_isi (K := K) rfl) (by rfl) T.n_isinstance (by decide +kernel) (pa_cons (pv 4) (pa_cons (pe_bltn (v := .ty "list") (by rfl) T.n_list (by decide +kernel) rfl) pa_nil))))) (pw_or1 (pt_not (pt_val (pe_callB (k_all (K := K) rfl rfl) (by rfl) T.n_all (by decide +kernel) (pa_cons (pe_lc (own := [("figure", 5)]) (g := gName 5) (tt := tYes) rfl sc__law_written_right.nd (pi_list (pv 4)) (blkOk_by (N := ["found", "base", "figures", "last", "told", "figure"]) (sc := defScope s__law_written_right) (by decide +kernel)) (fun _ _ _ _ _ => pg_name (i := 5) sc__law_written_right.nd rfl (Or.inl rfl)) (fun _ _ _ _ _ => pts_nil) (fun _ _ _ _ _ => pe_call (ok__law_is_integer T) (hr.mono (by decide)) (by rfl) T.m__law_is_integer T.F__law_is_integer.kp T.b__law_is_integer .nil pass0 (pa_cons (pv 5) pa_nil))) pa_nil))))))) (pss_one (ps_ret (pe_bl))) (pss_nil)) (pss_one (ps_ret (pe_and (pe_cmpR (k_eqD (K := K) rfl hr.units) (pv 4) (pv 2) (nomark _)) (pe_one (pe_cmpR op_eq (pe_prop (pv 0) T.cl_Written T.p_Written_last (ok_Written_last T) (hr.mono (by decide)) T.b_Written_last .nil pass0 rfl) (pv 3) (nomark _))))))))), ?_⟩
  rintro ⟨p, b, figs, last⟩ G M vs ⟨v, rfl, (hW : WrG K T.c_Written p b figs last G), (hv : Dp K G v (.list (figs.map .int))), (hl : figs.length ≤ 100000)⟩
  have hat : ∀ G', Ex G G' → ∃ dx l xs, At G' M p (.ins T.c_Written dx (wrF (.int b) (.ref l) (.int last))) := fun G' e => by
    obtain ⟨dx, l, xs, h1, _⟩ := hW.up e
    exact ⟨dx, l, xs, .G h1⟩
  have hbase : ∀ G' (σ : L2.St), Ex G G' → σ[0]? = some (some (.ref p)) → Ev (tProp T.c_Written (spec (wrPre K T.c_Written) fun x M => isV (.int x.2.1) M) [] E0 (tVar 0)) σ G' M (isV (.int b) M) := fun G' σ e h0 => by
    obtain ⟨dx, l, xs, h⟩ := hat G' e
    exact ev_prop (p, b, figs, last) (ev_var h0) h fun G1 e1 => ⟨rfl, hW.up (e.trans e1)⟩
  have hlast : ∀ G' (σ : L2.St), Ex G G' → σ[0]? = some (some (.ref p)) → Ev (tProp T.c_Written (spec (wrPre K T.c_Written) fun x M => isV (.int x.2.2.2) M) [] E0 (tVar 0)) σ G' M (isV (.int last) M) := fun G' σ e h0 => by
    obtain ⟨dx, l, xs, h⟩ := hat G' e
    exact ev_prop (p, b, figs, last) (ev_var h0) h fun G1 e1 => ⟨rfl, hW.up (e.trans e1)⟩
  refine sv_ifs (et_or (b := false) (a := false) (et_not (a := true) (et_B (ev_d1 (K := K) (f := isInt) (ev_iD (hbase _ _ (Ex.refl _) rfl))))) fun _ => et_or (b := false) (a := false) ?_ fun _ => et_not (a := true) (et_B (ev_d1 (K := K) (f := isInt) (ev_iD (hlast _ _ (Ex.refl _) rfl))))) (fun G1 e1 hb => by cases hb) fun G1 e1 _ => sv_next fun G2 e2 => ?_
  · have := ev_neI (hbase _ (start ["found", "base", "figures", "last", "told", "figure"] [.ref p, .int b, v, .int last]) (Ex.refl _) rfl) (ev_var (k := 1) (x := .int b) rfl)
    rw [show (!decide (b = b)) = false by simp] at this
    exact et_test this
  have e12 := e1.trans e2
  obtain ⟨dx, l, xs, h⟩ := hat G2 e12
  refine sv_let (Ev.frz (ev_prop (pre := wrPre K T.c_Written) (post := fun x M => own K (x.2.2.1.map .int) M) (p, b, figs, last) (ev_var rfl) h fun G1 e1 => ⟨rfl, hW.up (e12.trans e1)⟩)) ?_
  rintro tv G3 M3 e3 ⟨ht, rfl⟩
  refine sv_ifs (a := false) (M1 := M3) (et_or (b := false) (a := false) ?_ fun _ => et_not (a := true) (et_B ?_)) (fun G1 e1 hb => by cases hb) fun G4 e4 _ => sv_next fun G5 e5 => ?_
  · have := et_not (et_B (ev_isi (K := K) (T := "list") (.inr (.inr (.inr (.inl rfl)))) (ev_varP (σ := [some (.ref p), some (.int b), some v, some (.int last), some tv, none]) (G := G3) (M := M3) (k := 4) rfl ht)))
    rw [isTy_lst] at this
    exact this
  · have := ev_allL (K := K) (f := isInt) (σ := [some (.ref p), some (.int b), some v, some (.int last), some tv, none]) (own' := [5]) (k := 5) (te := tCall (spec (d1Pre K) (b1Post isInt)) [] E0 (tCons (tVar 5) tNil)) (ev_varP (G := G3) (M := M3) (k := 4) rfl ht) (by rw [List.length_map]; exact hl) (fun i d x G' hd e dx => ev_d1 (K := K) (ev_varP rfl dx)) (fun _ => rfl)
    rw [show ((figs.map PyData.int).all isInt) = true by rw [List.all_eq_true]; intro x hx; obtain ⟨i, _, rfl⟩ := List.mem_map.mp hx; rfl] at this
    exact this
  have e35 := e4.trans e5
  refine sv_ret (ev_andV (a := true) (b := true) ?_ fun _ => ?_) fun v' G' M' e r => r
  · have := ev_eqD (K := K) (ev_varP (σ := [some (.ref p), some (.int b), some v, some (.int last), some tv, none]) (M := M3) (k := 4) rfl (dm ht e35)) (ev_varP (k := 2) rfl (dm hv ((e12.trans e3).trans e35))) (sh_ints (n := 0) figs).ok (sh_ints (n := 0) figs).ok
    rw [eqv_lst, decide_eq_true rfl] at this
    exact this
  · have := ev_eqI (hlast _ [some (.ref p), some (.int b), some v, some (.int last), some tv, none] ((e12.trans e3).trans e35) rfl) (ev_var (k := 3) (x := .int last) rfl)
    rw [decide_eq_true rfl] at this
    exact this

-- _law_asked
theorem ok__law_asked (T : Txt K mg) : FnOk P w K mg base CX0 6 T.a__law_asked T.fd__law_asked ["written", "base", "figures", "last", "divisor", "sheet", "right"] (spec (askPre K T.c_Written T.c_Sheet) askPost) := by
  refine fn_sv T.F__law_asked sc__law_asked (fun x G M vs h => by obtain ⟨v, rfl, _⟩ := h; rfl) fun cdv A outer s H E hr => ⟨_, (pss_cons (ps_set (i := 7) sc__law_asked.nd rfl (Or.inl rfl) (pe_call (ok__law_worth T) (hr.mono (by decide)) (by rfl) T.m__law_worth T.F__law_worth.kp T.b__law_worth .nil pass0 (pa_cons (pv 1) (pa_cons (pv 2) (pa_cons (pv 3) pa_nil))))) (pss_cons (ps_if (pt_not (pt_val (pe_call (ok__law_written_right T) (hr.mono (by decide)) (by rfl) T.m__law_written_right T.F__law_written_right.kp T.b__law_written_right .nil pass0 (pa_cons (pv 0) (pa_cons (pv 1) (pa_cons (pv 2) (pa_cons (pv 3) pa_nil))))))) (pss_one (ps_ret (pe_bl))) (pss_nil)) (pss_cons (ps_if (PW.pt (pw_or (pt_not (pt_val (pe_call (ok__law_is_integer T) (hr.mono (by decide)) (by rfl) T.m__law_is_integer T.F__law_is_integer.kp T.b__law_is_integer .nil pass0 (pa_cons (pe_prop (pv 0) T.cl_Written T.p_Written_value (ok_Written_value T) (hr.mono (by decide)) T.b_Written_value .nil pass0 rfl) pa_nil)))) (pw_or1 (pt_cmpR op_ne (pe_prop (pv 0) T.cl_Written T.p_Written_value (ok_Written_value T) (hr.mono (by decide)) T.b_Written_value .nil pass0 rfl) (pv 7) (nomark _))))) (pss_one (ps_ret (pe_bl))) (pss_nil)) (pss_cons (ps_set (i := 8) sc__law_asked.nd rfl (Or.inl rfl) (pe_meth (pv 0) T.cl_Written T.me_Written_rest (ok_Written_rest T) (hr.mono (by decide)) T.b_Written_rest .nil pass0 (pa_cons (pv 4) pa_nil))) (pss_cons (ps_if (PW.pt (pw_or (pt_not (pt_val (pe_call (ok__law_is_integer T) (hr.mono (by decide)) (by rfl) T.m__law_is_integer T.F__law_is_integer.kp T.b__law_is_integer .nil pass0 (pa_cons (pv 8) pa_nil)))) (pw_or1 (pt_cmpR op_ne (pv 8) (pe_op op_mod (pe_callTy c_int (by rfl) T.n_int (by decide +kernel) (pa_cons (pv 7) pa_nil)) (pv 4)) (nomark _))))) (pss_one (ps_ret (pe_bl))) (pss_nil)) (pss_cons (ps_set (i := 9) sc__law_asked.nd rfl (Or.inl rfl) (pe_op (op2_Written___sub__ T (hr := hr.mono (by decide))) (pv 0) (pv 5))) (pss_one (ps_ret (pe_and (pe_call (ok__law_is_integer T) (hr.mono (by decide)) (by rfl) T.m__law_is_integer T.F__law_is_integer.kp T.b__law_is_integer .nil pass0 (pa_cons (pv 9) pa_nil)) (pe_one (pe_cmpR op_eq (pv 9) (pe_op op_sub (pv 7) (pv 6)) (nomark _)))))))))))), ?_⟩
  rintro ⟨p, b, figs, last, dv, q, ob, r, cs⟩ G M vs ⟨v, rfl, (hv : Dp K G v (.list (figs.map .int))), (hW : WrG K T.c_Written p b figs last G), (hs : SmallF b figs), (hl : last.natAbs < 2 ^ 200), (hd : 0 < dv), (hS : ShAt K T.c_Sheet G M q ob r cs), (g : GoodSh ob r cs)⟩
  have hb : -(2 ^ 64) < b ∧ b < 2 ^ 64 := ⟨by have := hs.1.1; omega, by have := hs.1.2; omega⟩
  have hob : -(2 ^ 64) < ob ∧ ob < 2 ^ 64 := ⟨by have := g.b2; omega, by have := g.b12; omega⟩
  have gl := g.len
  have hn := hs.2.1
  have hat : ∀ G', Ex G G' → ∃ dx l xs, At G' M p (.ins T.c_Written dx (wrF (.int b) (.ref l) (.int last))) := fun G' e => by
    obtain ⟨dx, l, xs, h1, _⟩ := hW.up e
    exact ⟨dx, l, xs, .G h1⟩
  refine sv_let (ev_wworth (K := K) (ea_cons (ev_var rfl) (ea_cons (ev_varP rfl hv) (ea_cons (ev_var rfl) ea_nil))) hs hl) ?_
  rintro _ G1 M1 e1 ⟨rfl, rfl⟩
  refine sv_ifs (a := false) (et_not (a := true) (et_B (ev_wrR (ea_cons (ev_var rfl) (ea_cons (ev_var rfl) (ea_cons (ev_varP rfl (dm hv e1)) (ea_cons (ev_var rfl) ea_nil)))) (hW.up e1) (by omega)))) (fun G1 e1 hb => by cases hb) fun G2 e2 _ => sv_next fun G3 e3 => ?_
  have e13 := (e1.trans e2).trans e3
  have hval : ∀ G' (σ : L2.St), Ex G G' → σ[0]? = some (some (.ref p)) → Ev (tProp T.c_Written (spec (wrGPre K T.c_Written) fun x M => isV (.int (horner x.2.1 x.2.2.1 x.2.2.2)) M) [] E0 (tVar 0)) σ G' M1 (isV (.int (horner b figs last)) M1) := fun G' σ e h0 => by
    obtain ⟨dx, l, xs, h⟩ := hat G' e
    exact ev_prop (p, b, figs, last) (ev_var h0) h fun G1 e1 => ⟨⟨rfl, hW.up (e.trans e1)⟩, hb⟩
  refine sv_ifs (a := false) (M1 := M1) (et_or (b := false) (a := false) (et_not (a := true) (et_B (ev_d1 (K := K) (f := isInt) (ev_iD (hval _ _ e13 rfl))))) fun _ => ?_) (fun G1 e1 hb => by cases hb) fun G4 e4 _ => sv_next fun G5 e5 => ?_
  · have := ev_neI (hval _ [some (.ref p), some (.int b), some v, some (.int last), some (.int dv), some (.ref q), some (.int (valueOf ob cs)), some (.int (horner b figs last)), none, none] e13 rfl) (ev_var (k := 7) (x := .int (horner b figs last)) rfl)
    rw [show (!decide (horner b figs last = horner b figs last)) = false by simp] at this
    exact et_test this
  have e15 := (e13.trans e4).trans e5
  obtain ⟨dx, l, xs, hA⟩ := hat G5 e15
  refine sv_let (ev_meth (pre := restPre K T.c_Written) (post := restPost) ((p, b, figs, last), dv) (ev_var rfl) hA (wrF_no (by decide +kernel) (by decide +kernel) (by decide +kernel)) (ea_cons (P := fun _ v => v = .int dv) (ev_var rfl) ea_nil) fun G1 vs e a => ?_) ?_
  · match vs, a with
    | [v1], ⟨p1, _⟩ =>
      subst p1
      exact ⟨rfl, hW.up (e15.trans e), hb, hd⟩
  rintro _ G6 M6 e6 ⟨rfl, rfl⟩
  refine sv_ifs (a := false) (M1 := M6) (et_or (b := false) (a := false) (et_not (a := true) (et_B (ev_d1 (K := K) (f := isInt) (ev_iD (ev_var rfl))))) fun _ => ?_) (fun G1 e1 hb => by cases hb) fun G7 e7 _ => sv_next fun G8 e8 => ?_
  · have := ev_neI (ev_var (σ := [some (.ref p), some (.int b), some v, some (.int last), some (.int dv), some (.ref q), some (.int (valueOf ob cs)), some (.int (horner b figs last)), some (.int (horner b figs last % dv)), none]) (G := G6) (M := M6) (k := 8) (x := .int (horner b figs last % dv)) rfl) (ev_I (C := fun _ j => 0 < j) (g := fun i j => V.int (i % j)) (ev_int (ev_var (k := 7) (x := .int (horner b figs last)) rfl)) (ev_var (k := 4) (x := .int dv) rfl) hd)
    rw [show (!decide (horner b figs last % dv = horner b figs last % dv)) = false by simp] at this
    exact et_test this
  have e18 := ((e15.trans e6).trans e7).trans e8
  refine sv_let (ev_wsub (C := T.c_Written) (D := T.c_Sheet) (ev_var rfl) (ev_var rfl) (hW.up e18) (hS.ex e18) hb hob (by omega)) ?_
  rintro _ G9 M9 e9 ⟨rfl, rfl⟩
  refine sv_ret (ev_andV (a := true) (b := true) (ev_d1 (K := K) (f := isInt) (ev_iD (ev_var rfl))) fun _ => ?_) fun v' G' M' e r => r
  have := ev_eqI (ev_var (σ := [some (.ref p), some (.int b), some v, some (.int last), some (.int dv), some (.ref q), some (.int (valueOf ob cs)), some (.int (horner b figs last)), some (.int (horner b figs last % dv)), some (.int (horner b figs last - valueOf ob cs))]) (G := G9) (M := M9) (k := 9) (x := .int (horner b figs last - valueOf ob cs)) rfl) (ev_I0 (g := fun i j => V.int (i - j)) (ev_var (k := 7) (x := .int (horner b figs last)) rfl) (ev_var (k := 6) (x := .int (valueOf ob cs)) rfl))
  rw [decide_eq_true rfl] at this
  exact this

-- _law_cells
theorem ok__law_cells (T : Txt K mg) : FnOk P w K mg base CX0 1 T.a__law_cells T.fd__law_cells ["script"] (spec (cellsPre K) (cellsPost K)) := by
  refine fn_sv T.F__law_cells sc__law_cells (fun x G M vs h => by obtain ⟨v, rfl, _⟩ := h; rfl) fun cdv A outer s H E hr => ⟨_, (pss_cons (ps_if (pt_cmpR (k_eqD (K := K) rfl hr.units) (pv 0) (pe_lst pa_nil) (nomark _)) (pss_one (ps_ret (pe_lst (pa_cons (pe_int) pa_nil)))) (pss_nil)) (pss_one (ps_ret (pe_slice (k_slL (K := K) rfl) (pv 0) po_none (po_some (pe_int)))))), ?_⟩
  rintro ns G M vs ⟨v, rfl, dv, hl⟩
  refine sv_ifs (et_test (ev_eqD (K := K) (d := .list (ns.map PyData.int)) (e := .list []) (ev_varP rfl dv) (Ev.frz (ev_lstO (ds := []) ea_nil (by decide))) (sh_ints (n := 0) ns).ok (sh_ints (n := 0) []).ok)) ?_ ?_
  · intro G1 e1 hb
    have hn : ns = [] := by
      have := eqv_lst ns []
      rw [show ([] : List Int).map PyData.int = [] from rfl, hb] at this
      exact of_decide_eq_true this.symm
    subst hn
    exact sv_ret (Ev.frz (ev_lstO (K := K) (ds := [.int 0]) (ea_cons (ev_iD ev_c) ea_nil) (by decide))) fun v' G' M' e r => r
  · intro G1 e1 hb
    refine sv_next fun G2 e2 => ?_
    have hn : ¬ ns = [] := fun z => by
      subst z
      cases hb
    refine sv_ret (Ev.frz (ev_slL (ds := ns.map PyData.int) (lo := none) (hi := some ((63 : Nat) : Int)) (ev_varP rfl (dm dv (e1.trans e2))) eo_none (eo_some ev_c))) fun v' G' M' e r => ?_
    rw [cutD_take, ← List.map_take] at r
    show isD K (.list ((cellsOf ns).map PyData.int)) M G' v' M'
    unfold cellsOf
    rw [if_neg hn]
    exact r

-- _law_deck
theorem ok__law_deck (T : Txt K mg) : FnOk P w K mg base CX0 1 T.a__law_deck T.fd__law_deck ["cell"] (spec deckPre deckPost) := by
  refine fn_sv T.F__law_deck sc__law_deck (fun x G M vs h => by cases h; rfl) fun cdv A outer s H E hr => ⟨_, (pss_cons (ps_if (pt_cmpR op_ge (pv 0) (pe_op op_pow (pe_int) (pe_int)) (nomark _)) (pss_one (ps_ret (pe_lst (pa_cons (pe_op op_sub (pv 0) (pe_op op_pow (pe_int) (pe_int))) (pa_cons (pe_int) (pa_cons (pe_int) pa_nil)))))) (pss_nil)) (pss_one (ps_ret (pe_lst (pa_cons (pe_int) (pa_cons (pe_int) (pa_cons (pe_op op_add (pe_op op_mod (pe_callTy c_int (by rfl) T.n_int (by decide +kernel) (pa_cons (pv 0) pa_nil)) (pe_int)) (pe_int)) pa_nil))))))), ?_⟩
  rintro c G M vs rfl
  have hp : ∀ G' , Ev (tOp (rI CPow fun i j => .int (i ^ j.toNat)) (tC (.int 10)) (tC (.int 18))) (start ["cell"] [.int c]) G' M (isV (.int (10 ^ 18)) M) := fun G' => ev_I ev_c ev_c ⟨by decide, by decide, by decide⟩
  refine sv_ifs (et_test (ev_I0 (ev_var rfl) (hp _))) ?_ ?_
  · intro G1 e1 hb
    have hc : (10 : Int) ^ 18 ≤ c := of_decide_eq_true hb
    refine sv_ret (ev_lstI (xs := [.int (c - 10 ^ 18), .int 0, .int 1]) (ea_cons (ev_I0 (ev_var rfl) (hp _)) (ea_cons ev_c (ea_cons ev_c ea_nil))) (by show 3 ≤ 1000; decide)) fun v' G' M' e r => ?_
    show ∃ dk, v' = .ref dk ∧ M' = M ++ [(dk, (deckOf c).ho)]
    unfold deckOf
    rw [if_pos hc]
    exact r
  · intro G1 e1 hb
    have hc : ¬ (10 : Int) ^ 18 ≤ c := of_decide_eq_false hb
    refine sv_next fun G2 e2 => sv_ret (ev_lstI (xs := [.int 0, .int 0, .int (c % 2147483629 + 2)]) (ea_cons ev_c (ea_cons ev_c (ea_cons (ev_I0 (ev_I (ev_int (ev_var rfl)) ev_c (by decide)) ev_c) ea_nil))) (by show 3 ≤ 1000; decide)) fun v' G' M' e r => ?_
    show ∃ dk, v' = .ref dk ∧ M' = M ++ [(dk, (deckOf c).ho)]
    unfold deckOf
    rw [if_neg hc]
    exact r

-- _law_draw
theorem ok__law_draw (T : Txt K mg) : FnOk P w K mg base CX0 1 T.a__law_draw T.fd__law_draw ["deck", "many"] (spec drawPre drawPost) := by
  refine fn_sv T.F__law_draw sc__law_draw (fun x G M vs h => by obtain ⟨rfl, _⟩ := h; rfl) fun cdv A outer s H E hr => ⟨_, (pss_cons (ps_if (pt_cmpR op_gt (pe_ix (k_ixL (K := K) rfl) (pv 0) (pe_int) (fun _ _ => rfl)) (pe_int) (nomark _)) (pss_cons (ps_set (i := 3) sc__law_draw.nd rfl (Or.inl rfl) (pe_op op_mod (pe_callTy c_int (by rfl) T.n_int (by decide +kernel) (pa_cons (pe_ix (k_ixL (K := K) rfl) (pv 0) (pe_int) (fun _ _ => rfl)) pa_nil)) (pv 1))) (pss_cons (ps_asg (pe_op op_fdivW (pe_ix (k_ixL (K := K) rfl) (pv 0) (pe_int) (fun _ _ => rfl)) (pv 1)) (pg_sub (pv 0) (pe_int) set_list)) (pss_one (ps_ret (pv 3))))) (pss_nil)) (pss_cons (ps_asg (pe_op op_add (pe_ix (k_ixL (K := K) rfl) (pv 0) (pe_int) (fun _ _ => rfl)) (pe_int)) (pg_sub (pv 0) (pe_int) set_list)) (pss_cons (ps_set (i := 2) sc__law_draw.nd rfl (Or.inl rfl) (pe_op op_mod (pe_callTy c_int (by rfl) T.n_int (by decide +kernel) (pa_cons (pe_op op_add (pe_op op_mul (pe_ix (k_ixL (K := K) rfl) (pv 0) (pe_int) (fun _ _ => rfl)) (pe_int)) (pe_op op_mul (pe_ix (k_ixL (K := K) rfl) (pv 0) (pe_int) (fun _ _ => rfl)) (pe_int))) pa_nil)) (pe_int))) (pss_cons (ps_set (i := 2) sc__law_draw.nd rfl (Or.inl rfl) (pe_op op_mod (pe_callTy c_int (by rfl) T.n_int (by decide +kernel) (pa_cons (pe_op op_add (pe_op op_mul (pv 2) (pv 2)) (pe_ix (k_ixL (K := K) rfl) (pv 0) (pe_int) (fun _ _ => rfl))) pa_nil)) (pe_int))) (pss_cons (ps_set (i := 2) sc__law_draw.nd rfl (Or.inl rfl) (pe_op op_mod (pe_callTy c_int (by rfl) T.n_int (by decide +kernel) (pa_cons (pe_op op_mul (pv 2) (pe_int)) pa_nil)) (pe_int))) (pss_one (ps_ret (pe_op op_mod (pe_callTy c_int (by rfl) T.n_int (by decide +kernel) (pa_cons (pe_op op_fdivW (pv 2) (pe_int)) pa_nil)) (pv 1))))))))), ?_⟩
  rintro ⟨dk, i, D, n⟩ G M vs ⟨rfl, (h0 : 0 < n), (h1 : n < 2 ^ 200), (hi : M[i]? = some (dk, .lst [.int D.a, .int D.b, .int D.c]))⟩
  obtain ⟨a, b, c⟩ := D
  have hw : CDivW a n := wide_div (b := 200) h0 (by omega) (by decide) (by decide)
  refine sv_ifs (et_test (ev_I0 (i := a) (ev_ixL (K := K) (ev_var rfl) ev_c (AtL.M hi) rfl) ev_c)) ?_ ?_
  · intro G1 e1 hb
    have ha : a > 0 := of_decide_eq_true hb
    refine sv_let (ev_I (ev_int (ev_ixL (K := K) (ev_var rfl) ev_c (AtL.M hi) rfl)) (ev_var rfl) h0) ?_
    rintro _ G2 M2 e2 ⟨rfl, rfl⟩
    refine sv_seq (N := fun G' σ' M' => σ' = [some (.ref dk), some (.int n), none, some (.int (a % n))] ∧ M' = M2.set i (dk, .lst [.int (a / n), .int b, .int c])) (sv_setIx (ev_I (ev_ixL (K := K) (ev_var rfl) ev_c (AtL.M hi) rfl) (ev_var rfl) hw) (ev_var rfl) ev_c hi rfl fun G' e => ⟨rfl, rfl⟩) ?_
    rintro G3 σ3 M3 e3 ⟨rfl, rfl⟩
    refine sv_ret (ev_var rfl) fun v' G' M' e r => ?_
    show v' = .int (dv ⟨a, b, c⟩ n) ∧ M' = M2.set i (dk, (dn ⟨a, b, c⟩ n).ho)
    unfold dv dn
    rw [if_pos ha, if_pos ha]
    exact r
  · intro G1 e1 hb
    have ha : ¬ a > 0 := of_decide_eq_false hb
    refine sv_next fun G2 e2 => ?_
    refine sv_seq (N := fun G' σ' M' => σ' = [some (.ref dk), some (.int n), none, none] ∧ M' = M.set i (dk, .lst [.int a, .int (b + 1), .int c])) (sv_setIx (ev_I0 (ev_ixL (K := K) (ev_var rfl) ev_c (AtL.M hi) rfl) ev_c) (ev_var rfl) ev_c hi rfl fun G' e => ⟨rfl, rfl⟩) ?_
    rintro G3 σ3 M3 e3 ⟨rfl, rfl⟩
    have hi' : (M.set i (dk, HO.lst [.int a, .int (b + 1), .int c]))[i]? = some (dk, .lst [.int a, .int (b + 1), .int c]) := by
      rw [List.getElem?_set_self (List.getElem?_eq_some_iff.mp hi).1]
    refine sv_let (ev_I (ev_int (ev_I0 (ev_I (ev_ixL (K := K) (ev_var rfl) ev_c (AtL.M hi') rfl) ev_c (.inr ⟨by decide, by decide⟩)) (ev_I (ev_ixL (K := K) (ev_var rfl) ev_c (AtL.M hi') rfl) ev_c (.inr ⟨by decide, by decide⟩)))) ev_c (by decide)) ?_
    rintro _ G4 M4 e4 ⟨rfl, rfl⟩
    have q1 : 0 ≤ (c * 48271 + (b + 1) * 69621) % 2147483647 := Int.emod_nonneg _ (by decide)
    have q2 : (c * 48271 + (b + 1) * 69621) % 2147483647 < 2147483647 := Int.emod_lt_of_pos _ (by decide)
    refine sv_let (ev_I (ev_int (ev_I0 (ev_I (ev_var rfl) (ev_var rfl) (.inr ⟨by omega, by omega⟩)) (ev_ixL (K := K) (ev_var rfl) ev_c (AtL.M hi') rfl))) ev_c (by decide)) ?_
    rintro _ G5 M5 e5 ⟨rfl, rfl⟩
    refine sv_let (ev_I (ev_int (ev_I (ev_var rfl) ev_c (.inr ⟨by decide, by decide⟩))) ev_c (by decide)) ?_
    rintro _ G6 M6 e6 ⟨rfl, rfl⟩
    refine sv_ret (ev_I (ev_int (ev_I (ev_var rfl) ev_c (wide_div (b := 200) (by decide) (by decide) (by decide) (by decide)))) (ev_var rfl) h0) fun v' G' M' e r => ?_
    show v' = .int (dv ⟨a, b, c⟩ n) ∧ M' = M.set i (dk, (dn ⟨a, b, c⟩ n).ho)
    unfold dv dn
    rw [if_neg ha, if_neg ha]
    exact r

-- Written___eq__
theorem ok_Written___eq__ (T : Txt K mg) : FnOk P w K mg base CX0 1 T.a_Written___eq__ T.fd_Written___eq__ ["self", "other"] (spec (weqPre K T.c_Written) weqPost) := by
  refine fn_sv T.F_Written___eq__ sc_Written___eq__ (fun x G M vs h => by obtain ⟨rfl, _⟩ := h; rfl) fun cdv A outer s H E hr => ⟨_, (pss_cons (ps_if (pt_not (pt_val (pe_callB (k_isi (K := K) rfl) (by rfl) T.n_isinstance (by decide +kernel) (pa_cons (pv 1) (pa_cons (pe_glob (v := .ref T.c_Written) (by rfl) T.m_Written rfl) pa_nil))))) (pss_one (ps_ret (pe_bl))) (pss_nil)) (pss_one (ps_ret (pe_and (pe_cmpR op_eq (k_fld (K := K) rfl (pv 0) rfl) (k_fld (K := K) rfl (pv 1) rfl) (nomark _)) (pe_and (pe_cmpR (k_eqD (K := K) rfl hr.units) (k_fld (K := K) rfl (pv 0) rfl) (k_fld (K := K) rfl (pv 1) rfl) (nomark _)) (pe_one (pe_cmpR op_eq (k_fld (K := K) rfl (pv 0) rfl) (k_fld (K := K) rfl (pv 1) rfl) (nomark _)))))))), ?_⟩
  rintro ⟨⟨p, b, figs, last⟩, q, b', figs', last'⟩ G M vs ⟨rfl, (hW : WrG K T.c_Written p b figs last G), (hV : WrG K T.c_Written q b' figs' last' G)⟩
  obtain ⟨dx, l, xs, h1, h2, h3⟩ := hW
  obtain ⟨dy, l', ys, k1, k2, k3⟩ := hV
  refine sv_ifs (a := false) (et_not (a := true) (et_B (ev_isiO T.ic_Written T.cl_Written T.io_Written (ev_var rfl) (.G k1)))) (fun G1 e1 hb => by cases hb) fun G1 e1 _ => sv_next fun G2 e2 => ?_
  have e12 := e1.trans e2
  refine sv_ret (ev_andV (ev_eqI (ev_fld (ev_var rfl) (.G (e12 _ _ h1)) T.cl_Written T.na_Written__base wrF_b) (ev_fld (ev_var rfl) (.G (e12 _ _ k1)) T.cl_Written T.na_Written__base wrF_b)) fun _ => ev_andV (ev_eqD (K := K) (ev_fldD (ev_var rfl) (.G (e12 _ _ h1)) T.cl_Written T.na_Written__figures wrF_f (.lst (ex_l e12 h2) (dma h3 e12))) (ev_fldD (ev_var rfl) (.G (e12 _ _ k1)) T.cl_Written T.na_Written__figures wrF_f (.lst (ex_l e12 k2) (dma k3 e12))) (sh_ints (n := 0) figs).ok (sh_ints (n := 0) figs').ok) fun _ => ev_eqI (ev_fld (ev_var rfl) (.G (e12 _ _ h1)) T.cl_Written T.na_Written__last wrF_l) (ev_fld (ev_var rfl) (.G (e12 _ _ k1)) T.cl_Written T.na_Written__last wrF_l)) fun v' G' M' e r => ?_
  obtain ⟨rfl, rfl⟩ := r
  refine ⟨?_, rfl⟩
  show V.bl _ = V.bl (decide ((b, figs, last) = (b', figs', last')))
  rw [eqv_lst]
  congr 1
  simp only [Prod.mk.injEq, Bool.decide_and]
theorem okX_Written___eq__ (T : Txt K mg) : FnOk P w K mg base CX0 1 T.a_Written___eq__ T.fd_Written___eq__ ["self", "other"] (spec (xeqPre K) xeqPost) := by
  refine fn_sv T.F_Written___eq__ sc_Written___eq__ (fun x G M vs h => by obtain ⟨rfl, _⟩ := h; rfl) fun cdv A outer s H E hr => ⟨_, (pss_cons (ps_if (pt_not (pt_val (pe_callB (k_isi (K := K) rfl) (by rfl) T.n_isinstance (by decide +kernel) (pa_cons (pv 1) (pa_cons (pe_glob (v := .ref T.c_Written) (by rfl) T.m_Written rfl) pa_nil))))) (pss_one (ps_ret (pe_bl))) (pss_nil)) (pss_one (ps_ret (pe_and (pe_cmpR op_eq (k_fld (K := K) rfl (pv 0) rfl) (k_fld (K := K) rfl (pv 1) rfl) (nomark _)) (pe_and (pe_cmpR (k_eqD (K := K) rfl hr.units) (k_fld (K := K) rfl (pv 0) rfl) (k_fld (K := K) rfl (pv 1) rfl) (nomark _)) (pe_one (pe_cmpR op_eq (k_fld (K := K) rfl (pv 0) rfl) (k_fld (K := K) rfl (pv 1) rfl) (nomark _)))))))), ?_⟩
  rintro ⟨p, v, d⟩ G M vs ⟨rfl, (hd : Dp K G v d)⟩
  exact sv_ifs (a := true) (et_not (a := false) (et_B (ev_isiX T.do_Written (ev_varP rfl hd)))) (fun G1 e1 _ => sv_ret ev_c fun v' G' M' e r => r) fun G1 e1 hb => by cases hb
theorem opO_Written___eq__ (T : Txt K mg) {X : Cx} (hP : X.prog = P := by rfl) (hw : X.w = w := by rfl) (hK : X.K = K := by rfl) (hm : X.mg = mg := by rfl) (hr : Room 1 X.A) : OpR X (compareOp .Eq) (rCmpO T.c_Written (spec (weqPre K T.c_Written) weqPost) E0) := by
  subst hP hw hK hm
  exact op_cmpO rfl T.me_Written___eq__.at_ T.me_Written___eq__.fn (ok_Written___eq__ T) hr T.b_Written___eq__ pass0
theorem opX_Written___eq__ (T : Txt K mg) {X : Cx} (hP : X.prog = P := by rfl) (hw : X.w = w := by rfl) (hK : X.K = K := by rfl) (hm : X.mg = mg := by rfl) (hr : Room 1 X.A) : OpR X (compareOp .Eq) (rCmpX K T.c_Written (spec (xeqPre K) xeqPost) E0) := by
  subst hP hw hK hm
  exact op_cmpX rfl T.me_Written___eq__.at_ T.me_Written___eq__.fn (okX_Written___eq__ T) hr T.b_Written___eq__ pass0

-- _law_beside
theorem ok__law_beside (T : Txt K mg) : FnOk P w K mg base CX0 1 T.a__law_beside T.fd__law_beside ["base", "figures", "last"] (spec (besPre K) (besPost K)) := by
  refine fn_sv T.F__law_beside sc__law_beside (fun x G M vs h => by obtain ⟨v, rfl, _⟩ := h; rfl) fun cdv A outer s H E hr => ⟨_, (pss_cons (ps_set (i := 3) sc__law_beside.nd rfl (Or.inr rfl) (pe_op op_sub (pe_op op_add (pv 0) (pe_int)) (pe_op op_mul (pe_int) (pe_callTy c_int (by rfl) T.n_int (by decide +kernel) (pa_cons (pe_cmpR op_eq (pv 0) (pe_int) (nomark _)) pa_nil))))) (pss_cons (ps_set (i := 4) sc__law_beside.nd rfl (Or.inl rfl) (pe_lst (pa_cons (pe_tup (pa_cons (pv 0) (pa_cons (pv 1) (pa_cons (pe_op op_add (pv 2) (pe_int)) pa_nil)))) (pa_cons (pe_tup (pa_cons (pv 0) (pa_cons (pe_op (k_cat (K := K) rfl) (pv 1) (pe_lst (pa_cons (pe_int) pa_nil))) (pa_cons (pv 2) pa_nil)))) pa_nil)))) (pss_cons (ps_if (pt_val (pe_callB (k_all (K := K) rfl rfl) (by rfl) T.n_all (by decide +kernel) (pa_cons (pe_lc (own := [("figure", 5)]) (g := gName 5) (tt := tYes) rfl sc__law_beside.nd (pi_list (pv 1)) (blkOk_by (N := ["base", "figures", "last", "other_base", "beside", "figure"]) (sc := defScope s__law_beside) (by decide +kernel)) (fun _ _ _ _ _ => pg_name (i := 5) sc__law_beside.nd rfl (Or.inl rfl)) (fun _ _ _ _ _ => pts_nil) (fun _ _ _ _ _ => pe_cmpR op_lt (pv 5) (pv 3) (nomark _))) pa_nil))) (pss_one (ps_expr (pe_bm PySem.F.plainAttrs_list PySem.F.slot_list_append PySem.F.type_list_append mt_append (pv 4) (pa_cons (pe_tup (pa_cons (pv 3) (pa_cons (pv 1) (pa_cons (pv 2) pa_nil)))) pa_nil)))) (pss_nil)) (pss_cons (ps_if (pt_cmpR (k_neD (K := K) rfl hr.units) (pv 1) (pe_lst pa_nil) (nomark _)) (pss_cons (ps_expr (pe_bm PySem.F.plainAttrs_list PySem.F.slot_list_append PySem.F.type_list_append mt_append (pv 4) (pa_cons (pe_tup (pa_cons (pv 0) (pa_cons (pe_slice (k_slL (K := K) rfl) (pv 1) po_none (po_some (pe_un un_neg (pe_int)))) (pa_cons (pe_op op_add (pe_op op_mul (pv 2) (pv 0)) (pe_ix (k_ixL (K := K) rfl) (pv 1) (pe_un un_neg (pe_int)) (fun _ _ => rfl))) pa_nil)))) pa_nil))) (pss_one (ps_expr (pe_bm PySem.F.plainAttrs_list PySem.F.slot_list_append PySem.F.type_list_append mt_append (pv 4) (pa_cons (pe_tup (pa_cons (pv 0) (pa_cons (pe_op (k_cat (K := K) rfl) (pe_lst (pa_cons (pe_op op_mod (pe_callTy c_int (by rfl) T.n_int (by decide +kernel) (pa_cons (pe_op op_add (pe_ix (k_ixL (K := K) rfl) (pv 1) (pe_int) (fun _ _ => rfl)) (pe_int)) pa_nil)) (pv 0)) pa_nil)) (pe_slice (k_slL (K := K) rfl) (pv 1) (po_some (pe_int)) po_none)) (pa_cons (pv 2) pa_nil)))) pa_nil))))) (pss_nil)) (pss_one (ps_ret (pv 4))))))), ?_⟩
  rintro ⟨b, figs, last⟩ G M vs ⟨v, rfl, (hv : Dp K G v (.list (figs.map .int))), (hb : 2 ≤ b ∧ b ≤ 12), (hl : figs.length ≤ 1000), (hf : ∀ f ∈ figs, 0 ≤ f ∧ f < b)⟩
  refine sv_let (ev_I0 (g := fun i j => V.int (i - j)) (ev_I0 (g := fun i j => V.int (i + j)) (ev_var rfl) ev_c) (ev_I (C := CMul) (g := fun i j => V.int (i * j)) ev_c (ev_intB (ev_eqI (ev_var rfl) ev_c)) (.inl ⟨by decide, by decide⟩))) ?_
  rintro _ G1 M1 e1 ⟨rfl, rfl⟩
  show Sv E _ [some (.int b), some v, some (.int last), some (.int (othB b)), none, none] G1 M1 _
  have hv1 := dm hv e1
  have htup : ∀ (σ : L2.St) (G' : Hp) (M' : Mem) (ta tb tc : TE) (x : Int) (fs : List Int) (y : Int), Ev ta σ G' M' (isV (.int x) M') → Ev tb σ G' M' (isD K (.list (fs.map .int)) M') → Ev tc σ G' M' (isV (.int y) M') → Ev (tTup (tCons ta (tCons tb (tCons tc tNil)))) σ G' M' (isD K (besD (x, fs, y)) M') := fun σ G' M' ta tb tc x fs y h1 h2 h3 => ev_tup (K := K) (ds := [.int x, .list (fs.map .int), .int y]) (ea_cons (ev_iD h1) (ea_cons h2 (ea_cons (ev_iD h3) ea_nil))) (by show 3 ≤ 1000; decide)
  refine sv_let (ev_lstO (K := K) (ds := [besD (b, figs, last + 1), besD (b, figs ++ [0], last)]) (ea_cons (htup _ _ _ _ _ _ _ _ _ (ev_var rfl) (ev_varP rfl hv1) (ev_I0 (g := fun i j => V.int (i + j)) (ev_var rfl) ev_c)) (ea_cons (htup _ _ _ _ _ _ _ _ _ (ev_var rfl) ?_ (ev_var rfl)) ea_nil)) (by show 2 ≤ 1000; decide)) ?_
  · rw [List.map_append]
    exact Ev.frz (ev_catD (K := K) (es := [.int 0]) (ev_varP rfl hv1) (Ev.frz (ev_lstO (K := K) (ds := [.int 0]) (ea_cons (ev_iD ev_c) ea_nil) (by decide))) (by rw [List.length_map]; show _ + 1 ≤ 100000; omega))
  rintro _ G2 M2 e2 ⟨bl, xs, rfl, rfl, hxs⟩
  have hv2 := dm hv1 e2
  have hxl : xs.length = 2 := by rw [dpa_len hxs]; rfl
  refine sv_seq (N := fun G' σ' M' => σ' = [some (.int b), some v, some (.int last), some (.int (othB b)), some (.ref bl), none] ∧ ∃ xs, M' = M1 ++ [(bl, .lst xs)] ∧ xs.length ≤ 3 ∧ DpAll K G' xs (([(b, figs, last + 1), (b, figs ++ [0], last)] ++ (if figs.all (fun f => decide (f < othB b)) then [(othB b, figs, last)] else [])).map besD)) (sv_if (a := figs.all (fun f => decide (f < othB b))) (M1 := M1 ++ [(bl, .lst xs)]) (et_B ?_) (fun G3 e3 hc => ?_) fun G3 e3 hc => ?_) ?_
  · have := ev_allL (K := K) (f := fun d => decide (intOf d < othB b)) (σ := [some (.int b), some v, some (.int last), some (.int (othB b)), some (.ref bl), none]) (own' := [5]) (k := 5) (te := tOp (rI0 fun i j => V.bl (decide (i < j))) (tVar 5) (tVar 3)) (ev_varP (G := G2) (M := M1 ++ [(bl, .lst xs)]) (k := 1) rfl hv2) (by rw [List.length_map]; omega) (fun i d x G' hd e dx => ?_) (fun _ => rfl)
    · rw [List.all_map] at this
      exact this
    · rw [List.getElem?_map] at hd
      cases q : figs[i]? with
      | none => rw [q] at hd; cases hd
      | some c =>
        rw [q] at hd
        cases hd
        obtain rfl := dp_int dx
        exact ev_I0 (g := fun i j => V.bl (decide (i < j))) (ev_var rfl) (ev_var rfl)
  · refine sv_drop (ev_append (K := K) (P1 := fun G v => Dp K G v (besD (othB b, figs, last))) (n := M1.length) (xs := xs) (M1 := M1 ++ [(bl, .lst xs)]) (ev_var rfl) (htup _ _ _ _ _ _ _ _ _ (ev_var rfl) (ev_varP rfl (dm hv2 e3)) (ev_var rfl)) (by simp) ⟨M1.length, _, by rw [List.getElem?_append_right (Nat.le_refl _), Nat.sub_self]; rfl⟩ (by omega)) fun v' G' M' e z => ?_
    obtain ⟨_, y, hy, rfl⟩ := z
    rw [hc, if_pos rfl]
    exact ⟨rfl, xs ++ [y], by simp, by simp [hxl], dpa_app (dma hxs (e3.trans e)) (.cons hy .nil)⟩
  · rw [hc]
    exact sv_next fun G' e => ⟨rfl, xs, rfl, by omega, dma hxs (e3.trans e)⟩
  rintro G3 σ3 M3 e3 ⟨rfl, ys, rfl, hyl, hys⟩
  have hv3 := dm hv2 e3
  refine sv_seq (N := fun G' σ' M' => σ' = [some (.int b), some v, some (.int last), some (.int (othB b)), some (.ref bl), none] ∧ ∃ xs, M' = M1 ++ [(bl, .lst xs)] ∧ DpAll K G' xs ((besides b figs last).map besD)) (sv_if (a := !decide (figs = [])) (M1 := M1 ++ [(bl, .lst ys)]) ?_ (fun G4 e4 hc => ?_) fun G4 e4 hc => ?_) ?_
  · have := ev_neD (K := K) (d := .list (figs.map .int)) (e := .list (([] : List Int).map .int)) (ev_varP (σ := [some (.int b), some v, some (.int last), some (.int (othB b)), some (.ref bl), none]) (M := M1 ++ [(bl, .lst ys)]) (k := 1) rfl hv3) (Ev.frz (ev_lstO (K := K) (ds := []) ea_nil (by decide))) (sh_ints (n := 0) figs).ok (sh_ints (n := 0) []).ok
    rw [eqv_lst] at this
    exact et_test this
  · have hne : figs ≠ [] := by simpa using hc
    obtain ⟨f, fs, rfl⟩ := List.exists_cons_of_ne_nil hne
    have hv4 := dm hv3 e4
    have hlast : (f :: fs).getLast? = some ((f :: fs).getLastD 0) := by
      rw [List.getLast?_eq_some_getLast (by simp)]
      rfl
    have hbb : -(2 ^ 64) < b ∧ b < 2 ^ 64 := ⟨by omega, by omega⟩
    refine sv_do (ev_append (K := K) (P1 := fun G v => Dp K G v (besD (b, (f :: fs).dropLast, last * b + (f :: fs).getLastD 0))) (n := M1.length) (xs := ys) (M1 := M1 ++ [(bl, .lst ys)]) (ev_var rfl) (htup _ _ _ _ _ _ _ _ _ (ev_var rfl) ?_ (ev_I0 (g := fun i j => V.int (i + j)) (ev_I (C := CMul) (g := fun i j => V.int (i * j)) (ev_var rfl) (ev_var rfl) (.inr hbb)) (ev_dI (ev_ixDL (K := K) (ev_varP rfl hv4) (ev_neg ev_c) (atI_last (by rw [List.getLast?_map, hlast]; rfl)))))) (by simp) ⟨M1.length, _, by rw [List.getElem?_append_right (Nat.le_refl _), Nat.sub_self]; rfl⟩ (by omega)) ?_
    · have := Ev.frz (ev_slL (K := K) (lo := none) (hi := some (-1)) (ev_varP (σ := [some (.int b), some v, some (.int last), some (.int (othB b)), some (.ref bl), none]) (M := M1 ++ [(bl, .lst ys)]) (k := 1) rfl hv4) eo_none (eo_some (ev_neg (ev_c (x := .int 1)))))
      rw [cutD_init, ← List.map_dropLast] at this
      exact this
    rintro _ G5 M5 e5 ⟨rfl, y, hy, rfl⟩
    have hset : (M1 ++ [(bl, HO.lst ys)]).set M1.length (bl, .lst (ys ++ [y])) = M1 ++ [(bl, .lst (ys ++ [y]))] := by simp
    rw [hset]
    have hv5 := dm hv4 e5
    refine sv_drop (ev_append (K := K) (P1 := fun G v => Dp K G v (besD (b, (f + 1) % b :: fs, last))) (n := M1.length) (xs := ys ++ [y]) (M1 := M1 ++ [(bl, .lst (ys ++ [y]))]) (ev_var rfl) (htup _ _ _ _ _ _ _ _ _ (ev_var rfl) ?_ (ev_var rfl)) (by simp) ⟨M1.length, _, by rw [List.getElem?_append_right (Nat.le_refl _), Nat.sub_self]; rfl⟩ (by simp; omega)) fun v' G' M' e z => ?_
    · have hsl := Ev.frz (ev_slL (K := K) (lo := some ((1 : Nat) : Int)) (hi := none) (ev_varP (σ := [some (.int b), some v, some (.int last), some (.int (othB b)), some (.ref bl), none]) (M := M1 ++ [(bl, .lst (ys ++ [y]))]) (k := 1) rfl hv5) (eo_some ev_c) eo_none)
      rw [cutD_drop] at hsl
      exact Ev.frz (ev_catD (K := K) (ds := [.int ((f + 1) % b)]) (es := fs.map .int) (Ev.frz (ev_lstO (K := K) (ds := [.int ((f + 1) % b)]) (ea_cons (ev_iD (ev_I (C := fun _ j => 0 < j) (g := fun i j => V.int (i % j)) (ev_int (ev_I0 (g := fun i j => V.int (i + j)) (ev_dI (ev_ixDL (K := K) (ev_varP rfl hv5) ev_c (atI_int (by decide) rfl))) ev_c)) (ev_var rfl) (by omega))) ea_nil) (by show 1 ≤ 1000; decide))) hsl (by rw [List.length_map]; simp only [List.length_cons, List.length_nil] at hl ⊢; omega))
    obtain ⟨_, z, hz, rfl⟩ := z
    refine ⟨rfl, ys ++ [y] ++ [z], by simp, ?_⟩
    unfold besides
    rw [if_neg hne, List.map_append]
    rw [List.append_assoc]
    exact dpa_app (dma hys ((e4.trans e5).trans e)) (.cons (dm hy e) (.cons hz .nil))
  · have he : figs = [] := by simpa using hc
    refine sv_next fun G' e => ⟨rfl, ys, rfl, ?_⟩
    unfold besides
    rw [if_pos he, List.append_nil]
    exact dma hys (e4.trans e)
  rintro G4 σ4 M4 e4 ⟨rfl, zs, rfl, hzs⟩
  refine sv_frzLast fun G5 e5 hbl => ?_
  exact sv_ret (ev_varP (P := fun G v => Dp K G v (.list ((besides b figs last).map besD))) rfl (.lst (SqL.of hbl) (dma hzs e5))) fun v' G' M' e r => r

-- _law_equal_right
theorem ok__law_equal_right (T : Txt K mg) : FnOk P w K mg base CX0 5 T.a__law_equal_right T.fd__law_equal_right ["written", "base", "figures", "last"] (spec (weqRPre K T.c_Written) wrRPost) := by
  refine fn_sv T.F__law_equal_right sc__law_equal_right (fun x G M vs h => by obtain ⟨v, rfl, _⟩ := h; rfl) fun cdv A outer s H E hr => ⟨_, (pss_cons (ps_if (pt_cmpR op_notBl (pe_cmpR (opO_Written___eq__ T (hr := hr.mono (by decide))) (pv 0) (pe_make T.k_Written (ok_Written___init__ T) (hr.mono (by decide)) (by rfl) T.m_Written T.b_Written___init__ .nil pass0 (pa_cons (pv 1) (pa_cons (pe_callTy (k_list (K := K) rfl) (by rfl) T.n_list (by decide +kernel) (pa_cons (pv 2) pa_nil)) (pa_cons (pv 3) pa_nil)))) (nomark _)) (pe_bl) (nomark _)) (pss_one (ps_ret (pe_bl))) (pss_nil)) (pss_cons (ps_for PassesOwn.never rfl (pi_list (pe_lst (pa_cons (pe_non) (pa_cons (pe_callTy (k_list (K := K) rfl) (by rfl) T.n_list (by decide +kernel) (pa_cons (pv 2) pa_nil)) (pa_cons (pe_prop (pv 0) T.cl_Written T.p_Written_value (ok_Written_value T) (hr.mono (by decide)) T.b_Written_value .nil pass0 rfl) (pa_cons (pe_tup (pa_cons (pv 1) (pa_cons (pe_callTy (k_list (K := K) rfl) (by rfl) T.n_list (by decide +kernel) (pa_cons (pv 2) pa_nil)) (pa_cons (pv 3) pa_nil)))) pa_nil)))))) (pg_name (i := 4) sc__law_equal_right.nd rfl (Or.inl rfl)) (pss_one (ps_if (pt_cmpR op_notBl (pe_cmpR (opX_Written___eq__ T (hr := hr.mono (by decide))) (pv 0) (pv 4) (nomark _)) (pe_bl) (nomark _)) (pss_one (ps_ret (pe_bl))) (pss_nil)))) (pss_cons (ps_for PassesOwn.never rfl (pi_list (pe_call (ok__law_beside T) (hr.mono (by decide)) (by rfl) T.m__law_beside T.F__law_beside.kp T.b__law_beside .nil pass0 (pa_cons (pv 1) (pa_cons (pv 2) (pa_cons (pv 3) pa_nil))))) (pg_tup (by rfl) (pgs_cons (pg_name (i := 5) sc__law_equal_right.nd rfl (Or.inl rfl)) (pgs_cons (pg_name (i := 6) sc__law_equal_right.nd rfl (Or.inl rfl)) (pgs_cons (pg_name (i := 7) sc__law_equal_right.nd rfl (Or.inl rfl)) pgs_nil)))) (pss_cons (ps_set (i := 8) sc__law_equal_right.nd rfl (Or.inl rfl) (pe_make T.k_Written (ok_Written___init__ T) (hr.mono (by decide)) (by rfl) T.m_Written T.b_Written___init__ .nil pass0 (pa_cons (pv 5) (pa_cons (pe_callTy (k_list (K := K) rfl) (by rfl) T.n_list (by decide +kernel) (pa_cons (pv 6) pa_nil)) (pa_cons (pv 7) pa_nil))))) (pss_cons (ps_if (PW.pt (pw_or (pt_cmpR op_notBl (pe_cmpR (opO_Written___eq__ T (hr := hr.mono (by decide))) (pv 0) (pv 8) (nomark _)) (pe_bl) (nomark _)) (pw_or1 (pt_cmpR op_notBl (pe_cmpR (opO_Written___eq__ T (hr := hr.mono (by decide))) (pv 8) (pv 0) (nomark _)) (pe_bl) (nomark _))))) (pss_one (ps_ret (pe_bl))) (pss_nil)) (pss_one (ps_if (pt_not (pt_val (pe_call (ok__law_written_right T) (hr.mono (by decide)) (by rfl) T.m__law_written_right T.F__law_written_right.kp T.b__law_written_right .nil pass0 (pa_cons (pv 8) (pa_cons (pv 5) (pa_cons (pv 6) (pa_cons (pv 7) pa_nil))))))) (pss_one (ps_ret (pe_bl))) (pss_nil)))))) (pss_one (ps_ret (pe_bl)))))), ?_⟩
  rintro ⟨p, b, figs, last⟩ G M vs ⟨v, rfl, (hW : WrG K T.c_Written p b figs last G), (hv : Dp K G v (.list (figs.map .int))), (hb : 2 ≤ b ∧ b ≤ 12), (hl : figs.length ≤ 1000), (hf : ∀ f ∈ figs, 0 ≤ f ∧ f < b)⟩
  have hbb : -(2 ^ 64) < b ∧ b < 2 ^ 64 := ⟨by omega, by omega⟩
  have hat : ∀ G', Ex G G' → ∃ dx l xs, At G' M p (.ins T.c_Written dx (wrF (.int b) (.ref l) (.int last))) := fun G' e => by
    obtain ⟨dx, l, xs, h1, _⟩ := hW.up e
    exact ⟨dx, l, xs, .G h1⟩
  have hval : ∀ G' (σ : L2.St), Ex G G' → σ[0]? = some (some (.ref p)) → Ev (tProp T.c_Written (spec (wrGPre K T.c_Written) fun x M => isV (.int (horner x.2.1 x.2.2.1 x.2.2.2)) M) [] E0 (tVar 0)) σ G' M (isV (.int (horner b figs last)) M) := fun G' σ e h0 => by
    obtain ⟨dx, l, xs, h⟩ := hat G' e
    exact ev_prop (p, b, figs, last) (ev_var h0) h fun G1 e1 => ⟨⟨rfl, hW.up (e.trans e1)⟩, hbb⟩
  have hcopy : ∀ G' (M' : Mem) (σ : L2.St), Ex G G' → σ[2]? = some (some v) → Ev (tCB (rListS K) (tCons (tVar 2) tNil)) σ G' M' (isD K (.list (figs.map .int)) M') := fun G' M' σ e h2 => Ev.frz (ev_listD (K := K) (ev_varP h2 (dm hv e)))
  refine sv_ifs (a := false) (M1 := M) ?_ (fun G' _ hb => by cases hb) fun G1 e1 _ => sv_next fun G2 e2 => ?_
  · have := ev_notB (ev_weq (K := K) (C := T.c_Written) (E := E0) (P1 := fun _ v => v = .ref p) (P2 := WrFz K T.c_Written b figs last) (ev_var (σ := start ["written", "base", "figures", "last", "value", "other_base", "other_figures", "other_last", "other"] [.ref p, .int b, v, .int last]) (M := M) (k := 0) rfl) (ev_mkWr (E := E0) (C := T.c_Written) (Pv := fun G v => Dp K G v (.list (figs.map .int))) (ea_cons (ev_var (k := 1) rfl) (ea_cons (hcopy _ _ _ (Ex.refl _) rfl) (ea_cons (ev_var (k := 3) rfl) ea_nil))) fun G1 v e h => .inl h) (fun G1 v e h => ⟨p, h, hW.up e⟩) (fun G1 v e h => h)) (ev_c (x := .bl true))
    rw [decide_eq_true rfl] at this
    exact et_test this
  have e12 := e1.trans e2
  refine sv_seq (N := fun G' σ' M' => M' = M ∧ ∃ y, σ' = [some (.ref p), some (.int b), some v, some (.int last), y, none, none, none, none]) (sv_forD (K := K) (M1 := M) (ds := [.none, .list (figs.map .int), .int (horner b figs last), .tuple [.int b, .list (figs.map .int), .int last]]) (fun i G' σ' M' => M' = M ∧ ∃ y, σ' = [some (.ref p), some (.int b), some v, some (.int last), y, none, none, none, none]) (Ev.frz (ev_lstO (K := K) (ds := [.none, .list (figs.map .int), .int (horner b figs last), .tuple [.int b, .list (figs.map .int), .int last]]) (ea_cons (ev_nD ev_c) (ea_cons (hcopy _ _ _ e12 rfl) (ea_cons (ev_iD (hval _ _ e12 rfl)) (ea_cons (ev_tup (K := K) (ds := [.int b, .list (figs.map .int), .int last]) (ea_cons (ev_iD (ev_var rfl)) (ea_cons (hcopy _ _ _ e12 rfl) (ea_cons (ev_iD (ev_var rfl)) ea_nil))) (by show 3 ≤ 1000; decide)) ea_nil)))) (by show 4 ≤ 1000; decide))) (fun G' e => ⟨rfl, none, rfl⟩) ?_ ?_) ?_
  · rintro i d x G' σ' M' e hd dx ⟨rfl, y, rfl⟩
    obtain ⟨dx', l, xs, h⟩ := hat G' (e12.trans e)
    refine sv_tgN (sv_if (a := false) (M1 := M') ?_ (fun G' _ hb => by cases hb) fun G3 e3 _ => sv_next fun G4 e4 => ⟨rfl, _, rfl⟩)
    have := ev_notB (ev_cmpX (K := K) (C := T.c_Written) (pre := xeqPre K) (post := xeqPost) (E' := E0) (R := isV (.bl false) M') (fun v => (p, v, d)) T.do_Written (ev_var (σ := [some (.ref p), some (.int b), some v, some (.int last), some x, none, none, none, none]) (k := 0) rfl) (ev_varP (k := 4) rfl dx) h (fun v G1 e h => ⟨rfl, h⟩) fun v G1 w M3 e r => r) (ev_c (x := .bl false))
    rw [decide_eq_true rfl] at this
    exact et_test this
  · rintro G' σ' M' e ⟨rfl, y, rfl⟩
    exact ⟨rfl, y, rfl⟩
  rintro G3 σ3 M3 e3 ⟨rfl, y, rfl⟩
  have e13 := e12.trans e3
  refine sv_seq (N := fun G' σ' M' => M' = M3) (sv_forD (K := K) (M1 := M3) (ds := (besides b figs last).map besD) (fun i G' σ' M' => M' = M3 ∧ ∃ y1 y2 y3 y4, σ' = [some (.ref p), some (.int b), some v, some (.int last), y, y1, y2, y3, y4]) (ev_bes (K := K) (ea_cons (ev_var rfl) (ea_cons (ev_varP rfl (dm hv e13)) (ea_cons (ev_var rfl) ea_nil))) hb hl hf) (fun G' e => ⟨rfl, none, none, none, none, rfl⟩) ?_ ?_) ?_
  · rintro i d x G' σ' M' e hd dx ⟨rfl, y1, y2, y3, y4, rfl⟩
    rw [List.getElem?_map] at hd
    cases q : (besides b figs last)[i]? with
    | none => rw [q] at hd; cases hd
    | some z =>
      rw [q] at hd
      cases hd
      obtain ⟨ob, of, ol⟩ := z
      have hm := List.mem_of_getElem? q
      have hne : ((ob, of, ol) : Int × List Int × Int) ≠ (b, figs, last) := besides_ne hb.1 hf _ hm
      have hol : of.length ≤ figs.length + 1 := besides_len _ hm
      refine sv_tg3 (K := K) dx fun x1 x2 x3 h1 h2 h3 => ?_
      obtain rfl := dp_int h1
      obtain rfl := dp_int h3
      refine sv_let (ev_mkWr (C := T.c_Written) (b := ob) (figs := of) (last := ol) (Pv := fun G v => Dp K G v (.list (of.map .int))) (ea_cons (ev_var rfl) (ea_cons (Ev.frz (ev_listD (K := K) (ev_varP rfl h2))) (ea_cons (ev_var rfl) ea_nil))) fun G1 v e h => .inl h) ?_
      rintro _ G4 M4 e4 ⟨⟨po, rfl, hO⟩, rfl⟩
      have e14 := (e13.trans e).trans e4
      refine sv_ifs (a := false) (M1 := M4) (et_or (a := false) (b := false) ?_ fun _ => ?_) (fun G' _ hb => by cases hb) fun G5 e5 _ => sv_next fun G6 e6 => ?_
      · have := ev_notB (ev_weq (K := K) (C := T.c_Written) (E := E0) (P1 := fun _ v => v = .ref p) (P2 := fun _ v => v = .ref po) (b := b) (figs := figs) (last := last) (b' := ob) (figs' := of) (last' := ol) (ev_var (σ := [some (.ref p), some (.int b), some v, some (.int last), y, some (.int ob), some x2, some (.int ol), some (.ref po)]) (G := G4) (M := M4) (k := 0) rfl) (ev_var (k := 8) rfl) (fun G1 v e h => ⟨p, h, hW.up (e14.trans e)⟩) (fun G1 v e h => ⟨po, h, hO.up e⟩)) (ev_c (x := .bl false))
        have hd1 : decide ((b, figs, last) = (ob, of, ol)) = false := decide_eq_false (fun z => hne z.symm)
        rw [hd1, decide_eq_true rfl] at this
        exact et_test this
      · have := ev_notB (ev_weq (K := K) (C := T.c_Written) (E := E0) (P1 := fun _ v => v = .ref po) (P2 := fun _ v => v = .ref p) (b := ob) (figs := of) (last := ol) (b' := b) (figs' := figs) (last' := last) (ev_var (σ := [some (.ref p), some (.int b), some v, some (.int last), y, some (.int ob), some x2, some (.int ol), some (.ref po)]) (G := G4) (M := M4) (k := 8) rfl) (ev_var (k := 0) rfl) (fun G1 v e h => ⟨po, h, hO.up e⟩) (fun G1 v e h => ⟨p, h, hW.up (e14.trans e)⟩)) (ev_c (x := .bl false))
        have hd1 : decide ((ob, of, ol) = (b, figs, last)) = false := decide_eq_false hne
        rw [hd1, decide_eq_true rfl] at this
        exact et_test this
      have e46 := e5.trans e6
      refine sv_if (a := false) (M1 := M4) (et_not (a := true) (et_B (ev_wrR (C := T.c_Written) (p := po) (b := ob) (figs := of) (last := ol) (ea_cons (ev_var rfl) (ea_cons (ev_var rfl) (ea_cons (ev_varP rfl (dm h2 (e4.trans e46))) (ea_cons (ev_var rfl) ea_nil)))) (hO.up e46) (by omega)))) (fun G' _ hb => by cases hb) fun G7 e7 _ => sv_next fun G8 e8 => ⟨rfl, _, _, _, _, rfl⟩
  · rintro G' σ' M' e ⟨rfl, _⟩
    rfl
  rintro G4 σ4 M4 e4 rfl
  exact sv_ret ev_c fun v' G' M' e r => r

-- _law_value
theorem ok__law_value (T : Txt K mg) : FnOk P w K mg base CX0 1 T.a__law_value T.fd__law_value ["base", "columns"] (spec (lvPre K) lvPost) := by
  refine fn_sv T.F__law_value sc__law_value (fun x G M vs h => by obtain ⟨rfl, _⟩ := h; rfl) fun cdv A outer s H E hr => ⟨_, (pss_cons (ps_set (i := 2) sc__law_value.nd rfl (Or.inl rfl) (pe_int)) (pss_cons (ps_set (i := 3) sc__law_value.nd rfl (Or.inl rfl) (pe_int)) (pss_cons (ps_for PassesOwn.never rfl (pi_list (pv 1)) (pg_name (i := 4) sc__law_value.nd rfl (Or.inl rfl)) (pss_cons (ps_set (i := 2) sc__law_value.nd rfl (Or.inl rfl) (pe_op op_add (pv 2) (pe_op op_mul (pe_callB (k_sum (K := K) rfl rfl) (by rfl) T.n_sum (by decide +kernel) (pa_cons (pe_callTy (k_list (K := K) rfl) (by rfl) T.n_list (by decide +kernel) (pa_cons (pv 4) pa_nil)) pa_nil)) (pv 3)))) (pss_one (ps_set (i := 3) sc__law_value.nd rfl (Or.inl rfl) (pe_op op_mul (pv 3) (pv 0)))))) (pss_one (ps_ret (pv 2)))))), ?_⟩
  rintro ⟨b, a, cs⟩ G M vs ⟨rfl, (h1 : ColsAt K G M a cs), (hs : ∀ c ∈ cs, -(2 ^ 64) < c.sum ∧ c.sum < 2 ^ 64), (hb : -(2 ^ 64) < b ∧ b < 2 ^ 64)⟩
  obtain ⟨xs, ax, dx⟩ := h1.ex
  refine sv_let ev_c ?_
  rintro _ G1 M1 e1 ⟨rfl, rfl⟩
  refine sv_let ev_c ?_
  rintro _ G2 M2 e2 ⟨rfl, rfl⟩
  have e12 := e1.trans e2
  have hlx : xs.length = cs.length := by rw [dpa_len dx, List.length_map]
  refine sv_seq (N := fun G' σ' M' => M' = M2 ∧ ∃ sc f, σ' = [some (.int b), some (.ref a), some (.int (valueOf b cs)), some (.int sc), f]) ?_ ?_
  · refine sv_forL (aa := a) (xs := xs) (fun i G' σ' M' => M' = M2 ∧ ∃ f, σ' = [some (.int b), some (.ref a), some (.int (valueOf b (cs.take i))), some (.int (b ^ i)), f]) (Ev.imp (ev_var rfl) fun G' v M' e r => ?_) ?_ ?_ ?_
    · obtain ⟨rfl, rfl⟩ := r
      exact ⟨rfl, rfl, none, by rw [List.take_zero, Int.pow_zero]; rfl⟩
    · rintro i G' σ' M' e ⟨rfl, _⟩
      exact ax.ex (e12.trans e)
    · rintro i x G' σ' M' e hx ⟨rfl, f, rfl⟩
      obtain ⟨d, hd, dd⟩ := dpa_atV dx hx
      rw [List.getElem?_map] at hd
      cases q : cs[i]? with
      | none => rw [q] at hd; cases hd
      | some c =>
        rw [q] at hd
        cases hd
        have hc : c ∈ cs := List.mem_of_getElem? q
        refine sv_tgN (sv_let (ev_I0 (ev_var rfl) (ev_I (ev_sumL (K := K) (ns := c) (Ev.frz (ev_listT (ev_varP rfl (dm dd (e12.trans e)))))) (ev_var rfl) (.inl (hs c hc)))) ?_)
        rintro _ G3 M3 e3 ⟨rfl, rfl⟩
        refine sv_set (ev_I (ev_var rfl) (ev_var rfl) (.inr hb)) ?_
        · rintro _ G4 M4 e4 ⟨rfl, rfl⟩
          refine ⟨rfl, some x, ?_⟩
          rw [List.take_add_one, q]
          show [_, _, some (V.int _), some (V.int _), _] = _
          rw [show (some c).toList = [c] from rfl, valueOf_snoc, List.length_take, Nat.min_eq_left (Nat.le_of_lt (List.getElem?_eq_some_iff.mp q).1), Int.pow_succ]
    · rintro G' σ' M' e ⟨rfl, f, rfl⟩
      refine ⟨rfl, b ^ xs.length, f, ?_⟩
      rw [hlx, List.take_length]
  · rintro G3 σ3 M3 e3 ⟨rfl, sc, f, rfl⟩
    exact sv_ret (ev_var rfl) fun v' G' M' e r => r

-- law
theorem ok_law (T : Txt K mg) : FnOk P w K mg base CX0 7 T.a_law T.fd_law ["script"] (spec (lawPre K) lawPost) := by
  refine fn_sv T.F_law sc_law (fun x G M vs h => by obtain ⟨v, rfl, _⟩ := h; rfl) fun cdv A outer s H E hr => ⟨_, (pss_cons (ps_for PassesOwn.never rfl (pi_list (pe_call (ok__law_cells T) (hr.mono (by decide)) (by rfl) T.m__law_cells T.F__law_cells.kp T.b__law_cells .nil pass0 (pa_cons (pv 0) pa_nil))) (pg_name (i := 1) sc_law.nd rfl (Or.inl rfl)) (pss_cons (ps_set (i := 2) sc_law.nd rfl (Or.inr rfl) (pe_call (ok__law_deck T) (hr.mono (by decide)) (by rfl) T.m__law_deck T.F__law_deck.kp T.b__law_deck .nil pass0 (pa_cons (pv 1) pa_nil))) (pss_cons (ps_set (i := 3) sc_law.nd rfl (Or.inr rfl) (pe_op op_add (pe_int) (pe_call (ok__law_draw T) (hr.mono (by decide)) (by rfl) T.m__law_draw T.F__law_draw.kp T.b__law_draw .nil pass0 (pa_cons (pv 2) (pa_cons (pe_int) pa_nil))))) (pss_cons (ps_set (i := 4) sc_law.nd rfl (Or.inl rfl) (pe_ix (k_ixL (K := K) rfl) (pe_lst (pa_cons (pe_call (ok__law_draw T) (hr.mono (by decide)) (by rfl) T.m__law_draw T.F__law_draw.kp T.b__law_draw .nil pass0 (pa_cons (pv 2) (pa_cons (pe_int) pa_nil))) (pa_cons (pe_call (ok__law_draw T) (hr.mono (by decide)) (by rfl) T.m__law_draw T.F__law_draw.kp T.b__law_draw .nil pass0 (pa_cons (pv 2) (pa_cons (pe_op op_pow (pe_int) (pe_int)) pa_nil))) pa_nil))) (pe_call (ok__law_draw T) (hr.mono (by decide)) (by rfl) T.m__law_draw T.F__law_draw.kp T.b__law_draw .nil pass0 (pa_cons (pv 2) (pa_cons (pe_int) pa_nil))) (fun _ _ => rfl))) (pss_cons (ps_set (i := 5) sc_law.nd rfl (Or.inl rfl) (pe_op op_add (pe_int) (pe_call (ok__law_draw T) (hr.mono (by decide)) (by rfl) T.m__law_draw T.F__law_draw.kp T.b__law_draw .nil pass0 (pa_cons (pv 2) (pa_cons (pe_int) pa_nil))))) (pss_cons (ps_if (pt_cmpR op_eq (pe_call (ok__law_draw T) (hr.mono (by decide)) (by rfl) T.m__law_draw T.F__law_draw.kp T.b__law_draw .nil pass0 (pa_cons (pv 2) (pa_cons (pe_int) pa_nil))) (pe_int) (nomark _)) (pss_one (ps_set (i := 5) sc_law.nd rfl (Or.inl rfl) (pe_op op_add (pv 5) (pe_call (ok__law_draw T) (hr.mono (by decide)) (by rfl) T.m__law_draw T.F__law_draw.kp T.b__law_draw .nil pass0 (pa_cons (pv 2) (pa_cons (pe_op op_sub (pe_op op_pow (pe_int) (pe_int)) (pe_int)) pa_nil)))))) (pss_nil)) (pss_cons (ps_set (i := 6) sc_law.nd rfl (Or.inl rfl) (pe_ix (k_ixL (K := K) rfl) (pe_lst (pa_cons (pe_call (ok__law_draw T) (hr.mono (by decide)) (by rfl) T.m__law_draw T.F__law_draw.kp T.b__law_draw .nil pass0 (pa_cons (pv 2) (pa_cons (pe_int) pa_nil))) (pa_cons (pe_call (ok__law_draw T) (hr.mono (by decide)) (by rfl) T.m__law_draw T.F__law_draw.kp T.b__law_draw .nil pass0 (pa_cons (pv 2) (pa_cons (pe_int) pa_nil))) pa_nil))) (pe_call (ok__law_draw T) (hr.mono (by decide)) (by rfl) T.m__law_draw T.F__law_draw.kp T.b__law_draw .nil pass0 (pa_cons (pv 2) (pa_cons (pe_int) pa_nil))) (fun _ _ => rfl))) (pss_cons (ps_setLc (i := 7) (own := [("k", 17)]) (g := gName 17) (tt := tYes) rfl sc_law.nd rfl rfl (sw_true rfl rfl rfl (by decide +kernel)) (pi_range1 (by rfl) T.n_range (pa_cons (pv 6) pa_nil)) (blkOk_by (N := ["script", "cell", "deck", "base", "last", "divisor", "many", "figures", "rows", "other", "columns", "i", "sheet", "passed", "written", "right", "told", "k", "figure", "j"]) (sc := defScope s_law) (by decide +kernel)) (fun _ _ _ _ _ => pg_name (i := 17) sc_law.nd rfl (Or.inl rfl)) (fun _ _ _ _ _ => pts_nil) (fun _ _ _ _ _ => pe_call (ok__law_draw T) (hr.mono (by decide)) (by rfl) T.m__law_draw T.F__law_draw.kp T.b__law_draw .nil pass0 (pa_cons (pv 2) (pa_cons (pv 3) pa_nil)))) (pss_cons (ps_set (i := 8) sc_law.nd rfl (Or.inl rfl) (pe_op op_add (pe_int) (pe_call (ok__law_draw T) (hr.mono (by decide)) (by rfl) T.m__law_draw T.F__law_draw.kp T.b__law_draw .nil pass0 (pa_cons (pv 2) (pa_cons (pe_int) pa_nil))))) (pss_cons (ps_set (i := 9) sc_law.nd rfl (Or.inr rfl) (pv 3)) (pss_cons (ps_if (pt_cmpR op_eq (pe_call (ok__law_draw T) (hr.mono (by decide)) (by rfl) T.m__law_draw T.F__law_draw.kp T.b__law_draw .nil pass0 (pa_cons (pv 2) (pa_cons (pe_int) pa_nil))) (pe_int) (nomark _)) (pss_one (ps_set (i := 9) sc_law.nd rfl (Or.inr rfl) (pe_op op_add (pe_int) (pe_call (ok__law_draw T) (hr.mono (by decide)) (by rfl) T.m__law_draw T.F__law_draw.kp T.b__law_draw .nil pass0 (pa_cons (pv 2) (pa_cons (pe_int) pa_nil)))))) (pss_nil)) (pss_cons (ps_set (i := 10) sc_law.nd rfl (Or.inl rfl) (pe_lst pa_nil)) (pss_cons (ps_for PassesOwn.never rfl (pi_range1 (by rfl) T.n_range (pa_cons (pe_call (ok__law_draw T) (hr.mono (by decide)) (by rfl) T.m__law_draw T.F__law_draw.kp T.b__law_draw .nil pass0 (pa_cons (pv 2) (pa_cons (pe_int) pa_nil))) pa_nil)) (pg_name (i := 11) sc_law.nd rfl (Or.inl rfl)) (pss_one (ps_expr (pe_bm PySem.F.plainAttrs_list PySem.F.slot_list_append PySem.F.type_list_append mt_append (pv 10) (pa_cons (pe_callTy (k_tup (K := K) rfl) (by rfl) T.n_tuple (by decide +kernel) (pa_cons (pe_lc (own := [("j", 19)]) (g := gName 19) (tt := tYes) rfl sc_law.nd (pi_range1 (by rfl) T.n_range (pa_cons (pv 8) pa_nil)) (blkOk_by (N := ["script", "cell", "deck", "base", "last", "divisor", "many", "figures", "rows", "other", "columns", "i", "sheet", "passed", "written", "right", "told", "k", "figure", "j"]) (sc := defScope s_law) (by decide +kernel)) (fun _ _ _ _ _ => pg_name (i := 19) sc_law.nd rfl (Or.inl rfl)) (fun _ _ _ _ _ => pts_nil) (fun _ _ _ _ _ => pe_call (ok__law_draw T) (hr.mono (by decide)) (by rfl) T.m__law_draw T.F__law_draw.kp T.b__law_draw .nil pass0 (pa_cons (pv 2) (pa_cons (pv 9) pa_nil)))) pa_nil)) pa_nil))))) (pss_cons (ps_set (i := 12) sc_law.nd rfl (Or.inl rfl) (pe_make T.k_Sheet (okG_Sheet___init__ T) (hr.mono (by decide)) (by rfl) T.m_Sheet T.b_Sheet___init__ .nil passL (pa_cons (pv 9) (pa_cons (pv 8) (pa_cons (pv 10) pa_nil))))) (pss_cons (ps_set (i := 13) sc_law.nd rfl (Or.inl rfl) (pe_callTy (k_list (K := K) rfl) (by rfl) T.n_list (by decide +kernel) (pa_cons (pv 7) pa_nil))) (pss_cons (ps_set (i := 14) sc_law.nd rfl (Or.inl rfl) (pe_make T.k_Written (ok_Written___init__ T) (hr.mono (by decide)) (by rfl) T.m_Written T.b_Written___init__ .nil pass0 (pa_cons (pv 3) (pa_cons (pv 13) (pa_cons (pv 4) pa_nil))))) (pss_cons (ps_set (i := 15) sc_law.nd rfl (Or.inl rfl) (pe_call (ok__law_value T) (hr.mono (by decide)) (by rfl) T.m__law_value T.F__law_value.kp T.b__law_value .nil pass0 (pa_cons (pv 9) (pa_cons (pv 10) pa_nil)))) (pss_cons (ps_if (PW.pt (pw_or (pt_not (pt_val (pe_call (ok__law_asked T) (hr.mono (by decide)) (by rfl) T.m__law_asked T.F__law_asked.kp T.b__law_asked .nil pass0 (pa_cons (pv 14) (pa_cons (pv 3) (pa_cons (pv 7) (pa_cons (pv 4) (pa_cons (pv 5) (pa_cons (pv 12) (pa_cons (pv 15) pa_nil)))))))))) (pw_or1 (pt_cmpR (k_neD (K := K) rfl hr.units) (pv 13) (pv 7) (nomark _))))) (pss_one (ps_ret (pe_bl))) (pss_nil)) (pss_cons (ps_expr (pe_bm PySem.F.plainAttrs_list PySem.F.slot_list_append PySem.F.type_list_append mt_append (pv 13) (pa_cons (pe_int) pa_nil))) (pss_cons (ps_set (i := 16) sc_law.nd rfl (Or.inl rfl) (pe_prop (pv 14) T.cl_Written T.p_Written_figures (ok_Written_figures T) (hr.mono (by decide)) T.b_Written_figures .nil pass0 rfl)) (pss_cons (ps_expr (pe_bm PySem.F.plainAttrs_list PySem.F.slot_list_append PySem.F.type_list_append mt_append (pv 16) (pa_cons (pe_int) pa_nil))) (pss_cons (ps_expr (pe_bm0 PySem.F.plainAttrs_list PySem.F.slot_list_reverse PySem.F.type_list_reverse mt_reverse (pv 16))) (pss_cons (ps_if (pt_not (pt_val (pe_call (ok__law_equal_right T) (hr.mono (by decide)) (by rfl) T.m__law_equal_right T.F__law_equal_right.kp T.b__law_equal_right .nil pass0 (pa_cons (pv 14) (pa_cons (pv 3) (pa_cons (pv 7) (pa_cons (pv 4) pa_nil))))))) (pss_one (ps_ret (pe_bl))) (pss_nil)) (pss_cons (ps_if (pt_cmpR (k_neD (K := K) rfl hr.units) (pv 10) (pe_lst pa_nil) (nomark _)) (pss_cons (ps_asg (pe_callTy (k_tup (K := K) rfl) (by rfl) T.n_tuple (by decide +kernel) (pa_cons (pe_lc (own := [("figure", 18)]) (g := gName 18) (tt := tYes) rfl sc_law.nd (pi_tup (pe_ix (k_ixL (K := K) rfl) (pv 10) (pe_un un_neg (pe_int)) (fun _ _ => rfl))) (blkOk_by (N := ["script", "cell", "deck", "base", "last", "divisor", "many", "figures", "rows", "other", "columns", "i", "sheet", "passed", "written", "right", "told", "k", "figure", "j"]) (sc := defScope s_law) (by decide +kernel)) (fun _ _ _ _ _ => pg_name (i := 18) sc_law.nd rfl (Or.inl rfl)) (fun _ _ _ _ _ => pts_nil) (fun _ _ _ _ _ => pe_op op_sub (pe_op op_sub (pv 9) (pe_int)) (pv 18))) pa_nil)) (pg_sub (pv 10) (pe_un un_neg (pe_int)) set_list)) (pss_cons (ps_asg (pe_ix (k_ixL (K := K) rfl) (pv 10) (pe_un un_neg (pe_int)) (fun _ _ => rfl)) (pg_sub (pv 12) (pe_op op_sub (pe_callB (k_len (K := K) rfl) (by rfl) T.n_len (by decide +kernel) (pa_cons (pv 10) pa_nil)) (pe_int)) (setO_Sheet___setitem__ T (hr := hr.mono (by decide))))) (pss_one (ps_set (i := 15) sc_law.nd rfl (Or.inl rfl) (pe_call (ok__law_value T) (hr.mono (by decide)) (by rfl) T.m__law_value T.F__law_value.kp T.b__law_value .nil pass0 (pa_cons (pv 9) (pa_cons (pv 10) pa_nil))))))) (pss_nil)) (pss_one (ps_if (pt_not (pt_val (pe_call (ok__law_asked T) (hr.mono (by decide)) (by rfl) T.m__law_asked T.F__law_asked.kp T.b__law_asked .nil pass0 (pa_cons (pv 14) (pa_cons (pv 3) (pa_cons (pv 7) (pa_cons (pv 4) (pa_cons (pv 5) (pa_cons (pv 12) (pa_cons (pv 15) pa_nil)))))))))) (pss_one (ps_ret (pe_bl))) (pss_nil))))))))))))))))))))))))))) (pss_one (ps_ret (pe_bl)))), ?_⟩
  rintro ns G M vs ⟨v, rfl, dvs, hl, rfl⟩
  refine sv_seq (N := fun _ _ _ => True) (sv_forD (K := K) (ds := (cellsOf ns).map PyData.int) (fun i G' σ' M' => M' = [] ∧ ∃ y1 y2 y3 y4 y5 y6 y7 y8 y9 y10 y11 y12 y13 y14 y15 y16, σ' = [some v, y1, y2, y3, y4, y5, y6, y7, y8, y9, y10, y11, y12, y13, y14, y15, y16, none, none, none]) (ev_cells (ea_cons (ev_varP rfl dvs) ea_nil) hl) ?_ ?_ ?_) ?_
  · exact fun G' _ => ⟨rfl, none, none, none, none, none, none, none, none, none, none, none, none, none, none, none, none, rfl⟩
  · rintro i d x G2 σ2 M2 e2 hd dx ⟨rfl, y1, y2, y3, y4, y5, y6, y7, y8, y9, y10, y11, y12, y13, y14, y15, y16, rfl⟩
    obtain ⟨c, hc, rfl⟩ : ∃ c, (cellsOf ns)[i]? = some c ∧ d = .int c := by
      rw [List.getElem?_map] at hd
      cases q : (cellsOf ns)[i]? with
      | none => rw [q] at hd; cases hd
      | some n => rw [q] at hd; exact ⟨n, rfl, (Option.some.inj hd).symm⟩
    obtain rfl := dp_int dx
    refine sv_tgN (sv_let (ev_deck (ea_cons (ev_var rfl) ea_nil)) ?_)
    rintro _ G3 M3 e3 ⟨dk, rfl, rfl⟩
    refine sv_let (ev_I0 ev_c (ev_draw 0 (ea_cons (ev_var rfl) (ea_cons ev_c ea_nil)) rfl (by decide) (by decide))) ?_
    rintro _ G4 M4 e4 ⟨rfl, rfl⟩
    have hb0 : 0 ≤ dv (deckOf c) 11 := dv_lo (by decide)
    have hb1 : dv (deckOf c) 11 < 11 := dv_hi (by decide)
    generalize hb : (2 : Int) + dv (deckOf c) 11 = b
    generalize dn (deckOf c) 11 = D
    show Sv E _ [some v, some (.int c), some (.ref dk), some (.int b), y4, y5, y6, y7, y8, y9, y10, y11, y12, y13, y14, y15, y16, none, none, none] G4 [(dk, D.ho)] _
    have b2 : 2 ≤ b := by omega
    have b12 : b ≤ 12 := by omega
    clear hb hb0 hb1
    have h20 : (10 : Int) ^ (20 : Int).toNat = 100000000000000000000 := by decide
    have h12 : (10 : Int) ^ (12 : Int).toNat = 1000000000000 := by decide
    -- one of two drawn numbers
    have two : ∀ (σ : L2.St) (G' : Hp) (D : Deck) (n1 n2 : Int) (te1 te2 : TE), σ[2]? = some (some (.ref dk)) → 0 < n1 → n1 < 2 ^ 200 → 0 < n2 → n2 < 2 ^ 200 → (∀ M', Ev te1 σ G' M' (isV (.int n1) M')) → (∀ M', Ev te2 σ G' M' (isV (.int n2) M')) → ∃ (L : Int) (D' : Deck), (0 ≤ L ∧ (L < n1 ∨ L < n2)) ∧
        Ev (tOp (rIxL K) (tLst (tCons (tCall (spec drawPre drawPost) [] E0 (tCons (tVar 2) (tCons te1 tNil))) (tCons (tCall (spec drawPre drawPost) [] E0 (tCons (tVar 2) (tCons te2 tNil))) tNil))) (tCall (spec drawPre drawPost) [] E0 (tCons (tVar 2) (tCons (tC (.int 2)) tNil)))) σ G' [(dk, D.ho)] (isV (.int L) [(dk, D'.ho)]) := fun σ G' D n1 n2 te1 te2 h2 a1 a2 a3 a4 t1 t2 => by
      have k0 : 0 ≤ dv (dn (dn D n1) n2) 2 := dv_lo (by decide)
      have k1 : dv (dn (dn D n1) n2) 2 < 2 := dv_hi (by decide)
      have hi : ∃ L, atI [PyData.int (dv D n1), .int (dv (dn D n1) n2)] (dv (dn (dn D n1) n2) 2) = some (.int L) ∧ (0 ≤ L ∧ (L < n1 ∨ L < n2)) := by
        have l0 : 0 ≤ dv D n1 := dv_lo a1
        have l1 : dv D n1 < n1 := dv_hi a1
        have l2 : 0 ≤ dv (dn D n1) n2 := dv_lo a3
        have l3 : dv (dn D n1) n2 < n2 := dv_hi a3
        rcases (show dv (dn (dn D n1) n2) 2 = 0 ∨ dv (dn (dn D n1) n2) 2 = 1 by omega) with h | h
        · rw [h]
          exact ⟨_, rfl, l0, .inl l1⟩
        · rw [h]
          exact ⟨_, rfl, l2, .inr l3⟩
      obtain ⟨L, hL, hLb⟩ := hi
      exact ⟨L, dn (dn (dn D n1) n2) 2, hLb, ev_dI (ev_ixDL (K := K) (M1 := [(dk, (dn (dn D n1) n2).ho)]) (Ev.frz (ev_lstO (K := K) (ds := [.int (dv D n1), .int (dv (dn D n1) n2)]) (ea_cons (ev_iD (ev_draw (D := D) 0 (ea_cons (ev_var h2) (ea_cons (t1 _) ea_nil)) rfl a1 a2)) (ea_cons (ev_iD (ev_draw (D := dn D n1) 0 (ea_cons (ev_var h2) (ea_cons (t2 _) ea_nil)) rfl a3 a4)) ea_nil)) (by show 2 ≤ 1000; decide))) (ev_draw (D := dn (dn D n1) n2) 0 (ea_cons (ev_var h2) (ea_cons ev_c ea_nil)) rfl (by decide) (by decide)) hL)⟩
    obtain ⟨last, D', hlast, hev⟩ := two [some v, some (.int c), some (.ref dk), some (.int b), y4, y5, y6, y7, y8, y9, y10, y11, y12, y13, y14, y15, y16, none, none, none] G4 D 5 ((10 : Int) ^ (20 : Int).toNat) (tC (.int 5)) (tOp (rI CPow fun i j => .int (i ^ j.toNat)) (tC (.int 10)) (tC (.int 20))) rfl (by decide) (by decide) (by decide) (by decide) (fun _ => ev_c) (fun _ => ev_I (C := CPow) (g := fun i j => V.int (i ^ j.toNat)) ev_c ev_c ⟨by decide, by decide, by decide⟩)
    refine sv_let hev ?_
    rintro _ G5 M5 e5 ⟨rfl, rfl⟩
    clear hev
    rw [h20] at hlast
    have hlw : last.natAbs < 2 ^ 200 := by omega
    clear D
    show Sv E _ [some v, some (.int c), some (.ref dk), some (.int b), some (.int last), y5, y6, y7, y8, y9, y10, y11, y12, y13, y14, y15, y16, none, none, none] G5 [(dk, D'.ho)] _
    refine sv_let (ev_I0 (g := fun i j => V.int (i + j)) ev_c (ev_draw (D := D') 0 (ea_cons (ev_var rfl) (ea_cons ev_c ea_nil)) rfl (by decide) (by decide))) ?_
    rintro _ G6 M6 e6 ⟨rfl, rfl⟩
    have d0 : 0 ≤ dv D' 59 := dv_lo (by decide)
    refine sv_seq (N := fun G' σ' M' => ∃ (q : Int) (D : Deck), 2 ≤ q ∧ M' = [(dk, D.ho)] ∧ σ' = [some v, some (.int c), some (.ref dk), some (.int b), some (.int last), some (.int q), y6, y7, y8, y9, y10, y11, y12, y13, y14, y15, y16, none, none, none]) (sv_if (M1 := [(dk, (dn (dn D' 59) 4).ho)]) (et_test (ev_eqI (ev_draw (D := dn D' 59) 0 (ea_cons (ev_var rfl) (ea_cons ev_c ea_nil)) rfl (by decide) (by decide)) ev_c)) (fun G7 e7 _ => ?_) fun G7 e7 _ => sv_next fun G8 e8 => ⟨2 + dv D' 59, dn (dn D' 59) 4, by omega, rfl, rfl⟩) ?_
    · refine sv_set (ev_I0 (g := fun i j => V.int (i + j)) (ev_var rfl) (ev_draw (D := dn (dn D' 59) 4) (n := (10 : Int) ^ (12 : Int).toNat - 60) 0 (ea_cons (ev_var rfl) (ea_cons (ev_I0 (g := fun i j => V.int (i - j)) (ev_I (C := CPow) (g := fun i j => V.int (i ^ j.toNat)) ev_c ev_c ⟨by decide, by decide, by decide⟩) ev_c) ea_nil)) rfl (by decide) (by decide))) ?_
      rintro _ G8 M8 e8 ⟨rfl, rfl⟩
      have d1 : 0 ≤ dv (dn (dn D' 59) 4) ((10 : Int) ^ (12 : Int).toNat - 60) := dv_lo (by decide)
      exact ⟨2 + dv D' 59 + dv (dn (dn D' 59) 4) ((10 : Int) ^ (12 : Int).toNat - 60), dn (dn (dn D' 59) 4) ((10 : Int) ^ (12 : Int).toNat - 60), by omega, rfl, rfl⟩
    rintro G8 σ8 M8 e8 ⟨q, D, q2, rfl, rfl⟩
    obtain ⟨many, D', hmany, hev⟩ := two [some v, some (.int c), some (.ref dk), some (.int b), some (.int last), some (.int q), y6, y7, y8, y9, y10, y11, y12, y13, y14, y15, y16, none, none, none] G8 D 6 61 (tC (.int 6)) (tC (.int 61)) rfl (by decide) (by decide) (by decide) (by decide) (fun _ => ev_c) (fun _ => ev_c)
    refine sv_let hev ?_
    rintro _ G9 M9 e9 ⟨rfl, rfl⟩
    clear hev two
    refine sv_let (R := isD K (.list ((drawsV D' b many.toNat).map PyData.int)) [(dk, (drawsD D' b many.toNat).ho)]) (Ev.frz ?_) ?_
    · have := ev_lcR (K := K) (σ := [some v, some (.int c), some (.ref dk), some (.int b), some (.int last), some (.int q), some (.int many), y7, y8, y9, y10, y11, y12, y13, y14, y15, y16, none, none, none]) (G := G9) (M := [(dk, D'.ho)]) (own' := [17]) (k := 17) (te := tCall (spec drawPre drawPost) [] E0 (tCons (tVar 2) (tCons (tVar 3) tNil))) (tt := tYes) (nn := many) (fun _ => true) (fun j => [(dk, (drawsD D' b j).ho)]) (fun j => .int (dv (drawsD D' b j) b)) (ea_cons (ev_var (k := 6) rfl) ea_nil) (by omega) (by omega) (fun _ _ _ _ => et_yes) (fun j G' hj e _ => ?_) (fun _ z => by cases z) (fun _ => rfl)
      · rw [kept_all] at this
        rw [drawsV, List.map_map]
        exact this
      · exact ev_iD (ev_draw (D := drawsD D' b j) 0 (ea_cons (ev_var rfl) (ea_cons (ev_var rfl) ea_nil)) rfl (by omega) (by omega))
    rintro fv G10 M10 e10 ⟨hfv, rfl⟩
    have hfl : (drawsV D' b many.toNat).length ≤ 60 := by rw [drawsV_len]; omega
    have hfm : ∀ f ∈ drawsV D' b many.toNat, 0 ≤ f ∧ f < b := drawsV_mem (by omega)
    generalize drawsV D' b many.toNat = figs at hfv hfl hfm
    generalize drawsD D' b many.toNat = D
    have hsm : SmallF b figs := ⟨⟨by omega, b12⟩, by omega, fun f hf => by have := hfm f hf; omega⟩
    show Sv E _ [some v, some (.int c), some (.ref dk), some (.int b), some (.int last), some (.int q), some (.int many), some fv, y8, y9, y10, y11, y12, y13, y14, y15, y16, none, none, none] G10 [(dk, D.ho)] _
    refine sv_let (ev_I0 (g := fun i j => V.int (i + j)) ev_c (ev_draw (D := D) 0 (ea_cons (ev_var rfl) (ea_cons ev_c ea_nil)) rfl (by decide) (by decide))) ?_
    rintro _ G11 M11 e11 ⟨rfl, rfl⟩
    have hr0 : 0 ≤ dv D 4 := dv_lo (by decide)
    have hr1 : dv D 4 < 4 := dv_hi (by decide)
    generalize hr' : (1 : Int) + dv D 4 = r
    generalize dn D 4 = D
    have r1 : 1 ≤ r := by omega
    have r4 : r ≤ 4 := by omega
    clear hr' hr0 hr1
    refine sv_let (ev_var rfl) ?_
    rintro _ G12 M12 e12 ⟨rfl, rfl⟩
    refine sv_seq (N := fun G' σ' M' => ∃ (ob : Int) (D : Deck), (2 ≤ ob ∧ ob ≤ 12) ∧ M' = [(dk, D.ho)] ∧ σ' = [some v, some (.int c), some (.ref dk), some (.int b), some (.int last), some (.int q), some (.int many), some fv, some (.int r), some (.int ob), y10, y11, y12, y13, y14, y15, y16, none, none, none]) (sv_if (M1 := [(dk, (dn D 2).ho)]) (et_test (ev_eqI (ev_draw (D := D) 0 (ea_cons (ev_var rfl) (ea_cons ev_c ea_nil)) rfl (by decide) (by decide)) ev_c)) (fun G7 e7 _ => ?_) fun G7 e7 _ => sv_next fun G8 e8 => ⟨b, dn D 2, ⟨b2, b12⟩, rfl, rfl⟩) ?_
    · refine sv_set (ev_I0 (g := fun i j => V.int (i + j)) ev_c (ev_draw (D := dn D 2) 0 (ea_cons (ev_var rfl) (ea_cons ev_c ea_nil)) rfl (by decide) (by decide))) ?_
      rintro _ G8 M8 e8 ⟨rfl, rfl⟩
      have d1 : 0 ≤ dv (dn D 2) 11 := dv_lo (by decide)
      have d2 : dv (dn D 2) 11 < 11 := dv_hi (by decide)
      exact ⟨2 + dv (dn D 2) 11, dn (dn D 2) 11, by omega, rfl, rfl⟩
    rintro G13 σ13 M13 e13 ⟨ob, D, hob, rfl, rfl⟩
    refine sv_let (ev_lstO (K := K) (ds := []) ea_nil (by decide)) ?_
    rintro _ G14 M14 e14 ⟨cl, hs0, rfl, rfl, hhs⟩
    have hhs0 := dpa_nil hhs
    subst hhs0
    have n0 : 0 ≤ dv D 5 := dv_lo (by decide)
    have n1 : dv D 5 < 5 := dv_hi (by decide)
    refine sv_seq (N := fun G' σ' M' => ∃ (D : Deck) (cs : List (List Int)) (xs : List V) (y11 : Option V), M' = [(dk, D.ho), (cl, HO.lst xs)] ∧ DpAll K G' xs (cs.map colD) ∧ (∀ c ∈ cs, GoodCol ob r c) ∧ cs.length ≤ 5 ∧ σ' = [some v, some (.int c), some (.ref dk), some (.int b), some (.int last), some (.int q), some (.int many), some fv, some (.int r), some (.int ob), some (.ref cl), y11, y12, y13, y14, y15, y16, none, none, none])
      (sv_forR (n := dv D 5) (M1 := [(dk, (dn D 5).ho), (cl, HO.lst [])]) (fun i G' σ' M' => ∃ (D : Deck) (cs : List (List Int)) (xs : List V) (y11 : Option V), M' = [(dk, D.ho), (cl, HO.lst xs)] ∧ DpAll K G' xs (cs.map colD) ∧ (∀ c ∈ cs, GoodCol ob r c) ∧ cs.length ≤ i ∧ σ' = [some v, some (.int c), some (.ref dk), some (.int b), some (.int last), some (.int q), some (.int many), some fv, some (.int r), some (.int ob), some (.ref cl), y11, y12, y13, y14, y15, y16, none, none, none]) (ea_cons (ev_draw (D := D) (M1 := [(dk, D.ho), (cl, HO.lst [])]) 0 (ea_cons (ev_var rfl) (ea_cons ev_c ea_nil)) rfl (by decide) (by decide)) ea_nil) (fun G' e => ⟨dn D 5, [], [], y11, rfl, .nil, (fun c h => by cases h), Nat.le_refl _, rfl⟩) (by omega) ?_ ?_) ?_
    · rintro i G' σ' M' e hi ⟨D, cs, xs, y11, rfl, hxs, hcs, hcl, rfl⟩
      have hxl : xs.length = cs.length := by rw [dpa_len hxs, List.length_map]
      refine sv_tgN (sv_drop (ev_append (K := K) (P1 := fun G v => Dp K G v (colD (drawsV D ob r.toNat))) (n := 1) (xs := xs) (M1 := [(dk, (drawsD D ob r.toNat).ho), (cl, .lst xs)]) (ev_var rfl) (ev_tupD (K := K) (Ev.frz ?_)) rfl ⟨1, xs, rfl⟩ (by omega)) fun v' G'' M'' e' z => ?_)
      · have := ev_lcR (K := K) (σ := [some v, some (.int c), some (.ref dk), some (.int b), some (.int last), some (.int q), some (.int many), some fv, some (.int r), some (.int ob), some (.ref cl), some (.int (0 + (i : Int))), y12, y13, y14, y15, y16, none, none, none]) (G := G') (M := [(dk, D.ho), (cl, .lst xs)]) (own' := [19]) (k := 19) (te := tCall (spec drawPre drawPost) [] E0 (tCons (tVar 2) (tCons (tVar 9) tNil))) (tt := tYes) (nn := r) (fun _ => true) (fun j => [(dk, (drawsD D ob j).ho), (cl, .lst xs)]) (fun j => .int (dv (drawsD D ob j) ob)) (ea_cons (ev_var (k := 8) rfl) ea_nil) (by omega) (by omega) (fun _ _ _ _ => et_yes) (fun j G' hj e _ => ?_) (fun _ z => by cases z) (fun _ => rfl)
        · rw [kept_all] at this
          rw [drawsV, List.map_map]
          exact this
        · exact ev_iD (ev_draw (D := drawsD D ob j) (M1 := [(dk, (drawsD D ob j).ho), (cl, .lst xs)]) 0 (ea_cons (ev_var rfl) (ea_cons (ev_var rfl) ea_nil)) rfl (by omega) (by omega))
      · obtain ⟨_, y, hy, rfl⟩ := z
        refine ⟨drawsD D ob r.toNat, cs ++ [drawsV D ob r.toNat], xs ++ [y], some (.int (0 + (i : Int))), rfl, ?_, fun c hc => ?_, by simp; exact hcl, rfl⟩
        · rw [List.map_append]
          exact dpa_app (dma hxs e') (.cons hy .nil)
        · rcases List.mem_append.mp hc with h | h
          · exact hcs c h
          · cases List.mem_singleton.mp h
            exact drawsV_good (by omega) (by omega)
    · rintro G' σ' M' e ⟨D, cs, xs, y11, rfl, hxs, hcs, hcl, rfl⟩
      exact ⟨D, cs, xs, y11, rfl, hxs, hcs, by omega, rfl⟩
    rintro G15 σ15 M15 e15 ⟨D, cs, xs, y11, rfl, hxs, hcs, hcl, rfl⟩
    have g : GoodSh ob r cs := ⟨hob.1, hob.2, r1, r4, by omega, hcs⟩
    have hobb : -(2 ^ 64) < ob ∧ ob < 2 ^ 64 := ⟨by omega, by omega⟩
    have hfv : Dp K G15 fv (.list (figs.map .int)) := dm hfv (((((e11.trans e12).trans e13).trans e14).trans e15))
    refine sv_let (ev_mkSh (K := K) (C := T.c_Sheet) (cs := cs) (ea_cons (ev_var rfl) (ea_cons (ev_var rfl) (ea_cons (ev_var rfl) ea_nil))) (AtL.M (i := 1) rfl) hxs g) ?_
    rintro _ G16 M16 e16 ⟨ps, dxs, sl, ys, rfl, hps, rfl, hys⟩
    refine sv_let (ev_listD (K := K) (ev_varP rfl (dm hfv e16))) ?_
    rintro _ G17 M17 e17 ⟨pl, pp, rfl, rfl, hpp⟩
    have hppl : pp.length ≤ 60 := by rw [dpa_len hpp, List.length_map]; exact hfl
    show Sv E _ [some v, some (.int c), some (.ref dk), some (.int b), some (.int last), some (.int q), some (.int many), some fv, some (.int r), some (.int ob), some (.ref cl), y11, some (.ref ps), some (.ref pl), y14, y15, y16, none, none, none] G17 [(dk, D.ho), (cl, .lst xs), (sl, .lst ys), (pl, .lst pp)] _
    refine sv_let (ev_mkWr (K := K) (C := T.c_Written) (b := b) (figs := figs) (last := last) (Pv := fun _ v => v = .ref pl) (M1 := [(dk, D.ho), (cl, .lst xs), (sl, .lst ys), (pl, .lst pp)]) (ea_cons (ev_var rfl) (ea_cons (ev_var rfl) (ea_cons (ev_var rfl) ea_nil))) fun G1 v e h => .inr ⟨pl, pp, _, h, rfl, AtL.M (i := 3) rfl, dma hpp e⟩) ?_
    rintro _ G18 M18 e18 ⟨⟨pw, rfl, hW⟩, rfl⟩
    have hxs := dma hxs (e16.trans (e17.trans e18))
    have hys := dma hys (e17.trans e18)
    have hps := (e17.trans e18) _ _ hps
    have hfv := dm hfv (e16.trans (e17.trans e18))
    refine sv_let (ev_lv (K := K) (cs := cs) (ea_cons (ev_var rfl) (ea_cons (ev_var rfl) ea_nil)) ⟨xs, .M (i := 1) rfl, hxs⟩ g.sum hobb) ?_
    rintro _ G19 M19 e19 ⟨rfl, rfl⟩
    have hxs := dma hxs e19
    have hys := dma hys e19
    have hps := e19 _ _ hps
    have hfv := dm hfv e19
    have hW := hW.up e19
    show Sv E _ [some v, some (.int c), some (.ref dk), some (.int b), some (.int last), some (.int q), some (.int many), some fv, some (.int r), some (.int ob), some (.ref cl), y11, some (.ref ps), some (.ref pl), some (.ref pw), some (.int (valueOf ob cs)), y16, none, none, none] G19 [(dk, D.ho), (cl, .lst xs), (sl, .lst ys), (pl, .lst pp)] _
    refine sv_ifs (a := false) (M1 := [(dk, D.ho), (cl, .lst xs), (sl, .lst ys), (pl, .lst pp)]) (et_or (a := false) (b := false) (et_not (a := true) (et_B ?_)) fun _ => ?_) (fun G' _ hb => by cases hb) fun G20 e20 _ => sv_next fun G21 e21 => ?_
    · exact ev_ask (C := T.c_Written) (D := T.c_Sheet) ⟨pw, b, figs, last, q, ps, ob, r, cs⟩ (ea_cons (ev_var rfl) (ea_cons (ev_var rfl) (ea_cons (ev_varP rfl hfv) (ea_cons (ev_var rfl) (ea_cons (ev_var rfl) (ea_cons (ev_var rfl) (ea_cons (ev_var rfl) ea_nil))))))) hW hsm hlw (by show 0 < q; omega) ⟨dxs, sl, ys, .G hps, .M (i := 2) rfl, hys⟩ g
    · have := ev_neAD (K := K) (ev_var (σ := [some v, some (.int c), some (.ref dk), some (.int b), some (.int last), some (.int q), some (.int many), some fv, some (.int r), some (.int ob), some (.ref cl), y11, some (.ref ps), some (.ref pl), some (.ref pw), some (.int (valueOf ob cs)), y16, none, none, none]) (G := G19) (M := [(dk, D.ho), (cl, .lst xs), (sl, .lst ys), (pl, .lst pp)]) (k := 13) (x := .ref pl) rfl) (ev_varP (k := 7) rfl hfv) (Da.lst (AtL.M (i := 3) rfl) (dma hpp (e18.trans e19))) (sh_ints (n := 0) figs).ok (sh_ints (n := 0) figs).ok
      rw [eqv_lst, decide_eq_true rfl] at this
      exact et_test this
    have e1921 := e20.trans e21
    refine sv_do (ev_append (K := K) (P1 := fun _ v => v = .int 1) (n := 3) (xs := pp) (ev_var rfl) ev_c rfl ⟨3, pp, rfl⟩ (by omega)) ?_
    rintro _ G22 M22 e22 ⟨rfl, y, rfl, rfl⟩
    have e1922 := e1921.trans e22
    obtain ⟨dxw, lw, xw, hw1, hw2, hw3⟩ := hW.up e1922
    refine sv_let (ev_prop (pre := wrPre K T.c_Written) (post := fun x M => own K (x.2.2.1.map .int) M) (pw, b, figs, last) (ev_var rfl) (.G hw1) fun G1 e1 => ⟨rfl, hW.up (e1922.trans e1)⟩) ?_
    rintro _ G23 M23 e23 ⟨tl, ts, rfl, rfl, hts⟩
    have htl : ts.length ≤ 60 := by rw [dpa_len hts, List.length_map]; exact hfl
    show Sv E _ [some v, some (.int c), some (.ref dk), some (.int b), some (.int last), some (.int q), some (.int many), some fv, some (.int r), some (.int ob), some (.ref cl), y11, some (.ref ps), some (.ref pl), some (.ref pw), some (.int (valueOf ob cs)), some (.ref tl), none, none, none] G23 [(dk, D.ho), (cl, .lst xs), (sl, .lst ys), (pl, .lst (pp ++ [.int 1])), (tl, .lst ts)] _
    refine sv_do (ev_append (K := K) (P1 := fun _ v => v = .int 1) (n := 4) (xs := ts) (ev_var rfl) ev_c rfl ⟨4, ts, rfl⟩ (by omega)) ?_
    rintro _ G24 M24 e24 ⟨rfl, y, rfl, rfl⟩
    refine sv_do (ev_reverse (n := 4) (xs := ts ++ [.int 1]) (K := K) (ev_var rfl) rfl) ?_
    rintro _ G25 M25 e25 ⟨rfl, rfl⟩
    refine sv_less (M := [(dk, D.ho), (cl, .lst xs), (sl, .lst ys)]) ?_
    have e1925 := ((e1922.trans e23).trans e24).trans e25
    refine sv_ifs (a := false) (M1 := [(dk, D.ho), (cl, .lst xs), (sl, .lst ys)]) (et_not (a := true) (et_B (ev_weqR (C := T.c_Written) (p := pw) (b := b) (figs := figs) (last := last) (ea_cons (ev_var rfl) (ea_cons (ev_var rfl) (ea_cons (ev_varP rfl (dm hfv e1925)) (ea_cons (ev_var rfl) ea_nil)))) (hW.up e1925) ⟨b2, b12⟩ (by omega) hfm))) (fun G' _ hb => by cases hb) fun G26 e26 _ => sv_next fun G27 e27 => ?_
    have e1927 := (e1925.trans e26).trans e27
    have hxs := dma hxs e1927
    have hys := dma hys e1927
    have hps := e1927 _ _ hps
    have hfv := dm hfv e1927
    have hW := hW.up e1927
    have hxl : xs.length = cs.length := by rw [dpa_len hxs, List.length_map]
    have hyl : ys.length = cs.length := by rw [dpa_len hys, List.length_map]
    show Sv E _ [some v, some (.int c), some (.ref dk), some (.int b), some (.int last), some (.int q), some (.int many), some fv, some (.int r), some (.int ob), some (.ref cl), y11, some (.ref ps), some (.ref pl), some (.ref pw), some (.int (valueOf ob cs)), some (.ref tl), none, none, none] G27 [(dk, D.ho), (cl, .lst xs), (sl, .lst ys)] _
    refine sv_seq (N := fun G' σ' M' => ∃ (cs : List (List Int)) (xs ys : List V), M' = [(dk, D.ho), (cl, HO.lst xs), (sl, HO.lst ys)] ∧ DpAll K G' ys (cs.map colD) ∧ GoodSh ob r cs ∧ σ' = [some v, some (.int c), some (.ref dk), some (.int b), some (.int last), some (.int q), some (.int many), some fv, some (.int r), some (.int ob), some (.ref cl), y11, some (.ref ps), some (.ref pl), some (.ref pw), some (.int (valueOf ob cs)), some (.ref tl), none, none, none]) (sv_if (a := !decide (cs = [])) (M1 := [(dk, D.ho), (cl, .lst xs), (sl, .lst ys)]) ?_ (fun G28 e28 hc => ?_) fun G28 e28 hc => sv_next fun G29 e29 => ⟨cs, xs, ys, rfl, dma hys (e28.trans e29), g, rfl⟩) ?_
    · have := ev_neAD (K := K) (d := .list (cs.map colD)) (e := .list (([] : List (List Int)).map colD)) (ev_var (σ := [some v, some (.int c), some (.ref dk), some (.int b), some (.int last), some (.int q), some (.int many), some fv, some (.int r), some (.int ob), some (.ref cl), y11, some (.ref ps), some (.ref pl), some (.ref pw), some (.int (valueOf ob cs)), some (.ref tl), none, none, none]) (G := G27) (M := [(dk, D.ho), (cl, .lst xs), (sl, .lst ys)]) (k := 10) (x := .ref cl) rfl) (Ev.frz (ev_lstO (K := K) (ds := []) ea_nil (by decide))) (Da.lst (AtL.M (i := 1) rfl) hxs) (sh_cols (n := 0) cs).ok (sh_cols (n := 0) []).ok
      rw [eqv_cols] at this
      exact et_test this
    · have hne : cs ≠ [] := by simpa using hc
      have hcl1 : cs.length - 1 < cs.length := by have := List.length_pos_iff.mpr hne; omega
      obtain ⟨cc, hcc⟩ : ∃ cc, cs[cs.length - 1]? = some cc := ⟨_, List.getElem?_eq_getElem hcl1⟩
      have gcc : GoodCol ob r cc := hcs cc (List.mem_of_getElem? hcc)
      have hccl : cc.length ≤ 4 := by have := gcc.1; omega
      obtain ⟨xv, hxv, dxv⟩ := dpa_at (i := cs.length - 1) (d := colD cc) hxs (by rw [List.getElem?_map, hcc]; rfl)
      have hlastX : atI xs (-1) = some xv := atI_last (by rw [List.getLast?_eq_getElem?, hxl]; exact hxv)
      have hixX : ixN xs.length (-1) = some (cs.length - 1) := by
        unfold ixN
        rw [if_neg (by decide), if_pos (by omega), hxl]
        congr 1
        omega
      have gnew : GoodCol ob r (cc.map fun f => ob - 1 - f) := ⟨by rw [List.length_map]; exact gcc.1, fun f hf => by
        obtain ⟨z, hz, rfl⟩ := List.mem_map.mp hf
        have := gcc.2 z hz
        omega⟩
      have k1 : kept (cc.map PyData.int).length (fun _ => true) (fun i => .int (ob - 1 - ((cc[i]?).getD 0))) = (cc.map fun f => ob - 1 - f).map .int := by
        refine kept_ext (by simp) fun i d hd => ?_
        rw [List.getElem?_map, List.getElem?_map] at hd
        cases q : cc[i]? with
        | none => rw [q] at hd; cases hd
        | some z => rw [q] at hd; cases hd; rfl
      refine sv_seq (N := fun G' σ' M' => σ' = [some v, some (.int c), some (.ref dk), some (.int b), some (.int last), some (.int q), some (.int many), some fv, some (.int r), some (.int ob), some (.ref cl), y11, some (.ref ps), some (.ref pl), some (.ref pw), some (.int (valueOf ob cs)), some (.ref tl), none, none, none] ∧ ∃ y, Dp K G' y (colD (cc.map fun f => ob - 1 - f)) ∧ M' = [(dk, D.ho), (cl, .lst (xs.set (cs.length - 1) y)), (sl, .lst ys)]) (sv_setIxP (Pp := fun G v => Dp K G v (colD (cc.map fun f => ob - 1 - f))) (n := 1) (M1 := [(dk, D.ho), (cl, .lst xs), (sl, .lst ys)]) (ev_tupD (K := K) (Ev.frz ?_)) (ev_var rfl) (ev_neg ev_c) rfl hixX fun y G' e hy => ⟨rfl, y, hy, rfl⟩) ?_
      · rw [← k1]
        refine ev_lcT (K := K) (fun _ => true) (fun _ => [(dk, D.ho), (cl, .lst xs), (sl, .lst ys)]) _ (Ev.toDp (ev_ixL (K := K) (ev_var rfl) (ev_neg ev_c) (AtL.M (i := 1) rfl) hlastX) (dm dxv e28)) (by rw [List.length_map]; omega) (fun _ _ _ _ _ _ _ => et_yes) (fun i d x G' hd e dx _ => ?_) (fun _ _ => rfl) (fun _ => rfl)
        rw [List.getElem?_map] at hd
        cases q : cc[i]? with
        | none => rw [q] at hd; cases hd
        | some z =>
          rw [q] at hd
          cases hd
          obtain rfl := dp_int dx
          exact ev_iD (ev_I0 (g := fun i j => V.int (i - j)) (ev_I0 (g := fun i j => V.int (i - j)) (ev_var rfl) ev_c) (ev_var rfl))
      rintro G29 σ29 M29 e29 ⟨rfl, y, hy, rfl⟩
      have e2729 := e28.trans e29
      have hlx : (xs.set (cs.length - 1) y).length = cs.length := by rw [List.length_set, hxl]
      have hlastY : atI (xs.set (cs.length - 1) y) (-1) = some y := atI_last (by rw [List.getLast?_eq_getElem?, hlx, List.getElem?_set_self (by omega)])
      have hixY : ixN ys.length ((((xs.set (cs.length - 1) y).length : Int)) - 1) = some (cs.length - 1) := by
        rw [hlx, hyl]
        unfold ixN
        rw [if_pos (by omega), if_pos (by omega)]
        congr 1
        omega
      refine sv_seq (N := fun G' σ' M' => σ' = [some v, some (.int c), some (.ref dk), some (.int b), some (.int last), some (.int q), some (.int many), some fv, some (.int r), some (.int ob), some (.ref cl), y11, some (.ref ps), some (.ref pl), some (.ref pw), some (.int (valueOf ob cs)), some (.ref tl), none, none, none] ∧ ∃ z, Dp K G' z (colD (cc.map fun f => ob - 1 - f)) ∧ M' = [(dk, D.ho), (cl, .lst (xs.set (cs.length - 1) y)), (sl, .lst (ys.set (cs.length - 1) z))]) (sv_setG (pre := setGPre K T.c_Sheet) (post := setPost K) (C := T.c_Sheet) (p := ps) (y := .int ((((xs.set (cs.length - 1) y).length : Int)) - 1)) (M1 := [(dk, D.ho), (cl, .lst (xs.set (cs.length - 1) y)), (sl, .lst ys)]) (fun u => ⟨ps, dxs, sl, 2, ob, r, ys, (((xs.set (cs.length - 1) y).length : Int)) - 1, cs.length - 1, u, colD (cc.map fun f => ob - 1 - f)⟩) (Pp := fun _ u => u = y) (ev_ixL (K := K) (ev_var rfl) (ev_neg ev_c) (AtL.M (i := 1) rfl) hlastY) (ev_var rfl) (ev_I0 (g := fun i j => V.int (i - j)) (ev_lenA (K := K) (ev_var rfl) (AtL.M (i := 1) rfl)) ev_c) (.G (e2729 _ _ hps)) (fun u G1 e hu => ?_) fun u w' G1 M2 e z => ?_) ?_
      · subst hu
        exact ⟨⟨rfl, .G ((e2729.trans e) _ _ hps), rfl, hixY, dm hy e, by rw [dlen_colD, List.length_map]; omega⟩, isCol_good gnew⟩
      · obtain ⟨_, _, z, hz, rfl⟩ := z
        exact ⟨rfl, z, hz, rfl⟩
      rintro G30 σ30 M30 e30 ⟨rfl, z, hz, rfl⟩
      have gn : GoodSh ob r (cs.set (cs.length - 1) (cc.map fun f => ob - 1 - f)) := ⟨g.b2, g.b12, g.r1, g.r4, by rw [List.length_set]; exact g.len, fun c' hc' => (List.mem_or_eq_of_mem_set hc').elim (hcs c') fun e => e ▸ gnew⟩
      have hxn : DpAll K G30 (xs.set (cs.length - 1) y) ((cs.set (cs.length - 1) (cc.map fun f => ob - 1 - f)).map colD) := by
        rw [List.map_set]
        exact dpa_set (dma hxs (e2729.trans e30)) (dm hy e30)
      have hyn : DpAll K G30 (ys.set (cs.length - 1) z) ((cs.set (cs.length - 1) (cc.map fun f => ob - 1 - f)).map colD) := by
        rw [List.map_set]
        exact dpa_set (dma hys (e2729.trans e30)) hz
      refine sv_set (ev_lv (K := K) (cs := cs.set (cs.length - 1) (cc.map fun f => ob - 1 - f)) (M1 := [(dk, D.ho), (cl, .lst (xs.set (cs.length - 1) y)), (sl, .lst (ys.set (cs.length - 1) z))]) (ea_cons (ev_var rfl) (ea_cons (ev_var rfl) ea_nil)) ⟨_, .M (i := 1) rfl, hxn⟩ gn.sum hobb) ?_
      rintro _ G31 M31 e31 ⟨rfl, rfl⟩
      exact ⟨_, _, _, rfl, dma hyn e31, gn, rfl⟩
    rintro G32 σ32 M32 e32 ⟨cs, xs, ys, rfl, hys, g, rfl⟩
    refine sv_if (a := false) (M1 := [(dk, D.ho), (cl, .lst xs), (sl, .lst ys)]) (et_not (a := true) (et_B (ev_ask (C := T.c_Written) (D := T.c_Sheet) ⟨pw, b, figs, last, q, ps, ob, r, cs⟩ (ea_cons (ev_var rfl) (ea_cons (ev_var rfl) (ea_cons (ev_varP rfl (dm hfv e32)) (ea_cons (ev_var rfl) (ea_cons (ev_var rfl) (ea_cons (ev_var rfl) (ea_cons (ev_var rfl) ea_nil))))))) (hW.up e32) hsm hlw (by show 0 < q; omega) ⟨dxs, sl, ys, .G (e32 _ _ hps), .M (i := 2) rfl, hys⟩ g))) (fun G' _ hb => by cases hb) fun G33 e33 _ => sv_less (M := []) (sv_next fun G34 e34 => ⟨rfl, _, _, _, _, _, _, _, _, _, _, _, _, _, _, _, _, rfl⟩)
  · exact fun _ _ _ _ _ => trivial
  · rintro G2 σ2 M2 e2 _
    refine sv_ret ev_c fun v' G' M' e r => r.1

end
def txt_mk {K : PySem.W.Frag} {h : Heap} {mg : Str → Option Value} (X : K.In h) (G : h.Ns mainGlobals mg) {c_Sheet : Addr} {c_Written : Addr} {c_InvalidSheet : Addr} {c_InvalidColumn : Addr} {a_is_whole : Addr} {oc_is_whole kV_is_whole dc_is_whole pm_is_whole cd_is_whole ct_is_whole : Value} {od_is_whole an_is_whole : Option Addr} {sl_is_whole : Array (Option Value)} {a_is_column : Addr} {oc_is_column kV_is_column dc_is_column pm_is_column cd_is_column ct_is_column : Value} {od_is_column an_is_column : Option Addr} {sl_is_column : Array (Option Value)} {a__are_columns : Addr} {oc__are_columns kV__are_columns dc__are_columns pm__are_columns cd__are_columns ct__are_columns : Value} {od__are_columns an__are_columns : Option Addr} {sl__are_columns : Array (Option Value)} {a_is_base : Addr} {oc_is_base kV_is_base dc_is_base pm_is_base cd_is_base ct_is_base : Value} {od_is_base an_is_base : Option Addr} {sl_is_base : Array (Option Value)} {a_is_rows : Addr} {oc_is_rows kV_is_rows dc_is_rows pm_is_rows cd_is_rows ct_is_rows : Value} {od_is_rows an_is_rows : Option Addr} {sl_is_rows : Array (Option Value)} {a_Sheet___init__ : Addr} {oc_Sheet___init__ kV_Sheet___init__ dc_Sheet___init__ pm_Sheet___init__ cd_Sheet___init__ ct_Sheet___init__ : Value} {od_Sheet___init__ an_Sheet___init__ : Option Addr} {sl_Sheet___init__ : Array (Option Value)} {a_Sheet___setitem__ : Addr} {oc_Sheet___setitem__ kV_Sheet___setitem__ dc_Sheet___setitem__ pm_Sheet___setitem__ cd_Sheet___setitem__ ct_Sheet___setitem__ : Value} {od_Sheet___setitem__ an_Sheet___setitem__ : Option Addr} {sl_Sheet___setitem__ : Array (Option Value)} {a_Written___init__ : Addr} {oc_Written___init__ kV_Written___init__ dc_Written___init__ pm_Written___init__ cd_Written___init__ ct_Written___init__ : Value} {od_Written___init__ an_Written___init__ : Option Addr} {sl_Written___init__ : Array (Option Value)} {a_Written_figures : Addr} {oc_Written_figures kV_Written_figures dc_Written_figures pm_Written_figures cd_Written_figures ct_Written_figures : Value} {od_Written_figures an_Written_figures : Option Addr} {sl_Written_figures : Array (Option Value)} {pa_Written_figures : Addr} {re_Written_figures : List Value} {a_place_value : Addr} {oc_place_value kV_place_value dc_place_value pm_place_value cd_place_value ct_place_value : Value} {od_place_value an_place_value : Option Addr} {sl_place_value : Array (Option Value)} {a_Sheet_value : Addr} {oc_Sheet_value kV_Sheet_value dc_Sheet_value pm_Sheet_value cd_Sheet_value ct_Sheet_value : Value} {od_Sheet_value an_Sheet_value : Option Addr} {sl_Sheet_value : Array (Option Value)} {pa_Sheet_value : Addr} {re_Sheet_value : List Value} {a_Written_value : Addr} {oc_Written_value kV_Written_value dc_Written_value pm_Written_value cd_Written_value ct_Written_value : Value} {od_Written_value an_Written_value : Option Addr} {sl_Written_value : Array (Option Value)} {pa_Written_value : Addr} {re_Written_value : List Value} {a_Written___sub__ : Addr} {oc_Written___sub__ kV_Written___sub__ dc_Written___sub__ pm_Written___sub__ cd_Written___sub__ ct_Written___sub__ : Value} {od_Written___sub__ an_Written___sub__ : Option Addr} {sl_Written___sub__ : Array (Option Value)} {a_Written_rest : Addr} {oc_Written_rest kV_Written_rest dc_Written_rest pm_Written_rest cd_Written_rest ct_Written_rest : Value} {od_Written_rest an_Written_rest : Option Addr} {sl_Written_rest : Array (Option Value)} {a__law_is_integer : Addr} {oc__law_is_integer kV__law_is_integer dc__law_is_integer pm__law_is_integer cd__law_is_integer ct__law_is_integer : Value} {od__law_is_integer an__law_is_integer : Option Addr} {sl__law_is_integer : Array (Option Value)} {a__law_worth : Addr} {oc__law_worth kV__law_worth dc__law_worth pm__law_worth cd__law_worth ct__law_worth : Value} {od__law_worth an__law_worth : Option Addr} {sl__law_worth : Array (Option Value)} {a_Written_base : Addr} {oc_Written_base kV_Written_base dc_Written_base pm_Written_base cd_Written_base ct_Written_base : Value} {od_Written_base an_Written_base : Option Addr} {sl_Written_base : Array (Option Value)} {pa_Written_base : Addr} {re_Written_base : List Value} {a_Written_last : Addr} {oc_Written_last kV_Written_last dc_Written_last pm_Written_last cd_Written_last ct_Written_last : Value} {od_Written_last an_Written_last : Option Addr} {sl_Written_last : Array (Option Value)} {pa_Written_last : Addr} {re_Written_last : List Value} {a__law_written_right : Addr} {oc__law_written_right kV__law_written_right dc__law_written_right pm__law_written_right cd__law_written_right ct__law_written_right : Value} {od__law_written_right an__law_written_right : Option Addr} {sl__law_written_right : Array (Option Value)} {a__law_asked : Addr} {oc__law_asked kV__law_asked dc__law_asked pm__law_asked cd__law_asked ct__law_asked : Value} {od__law_asked an__law_asked : Option Addr} {sl__law_asked : Array (Option Value)} {a__law_cells : Addr} {oc__law_cells kV__law_cells dc__law_cells pm__law_cells cd__law_cells ct__law_cells : Value} {od__law_cells an__law_cells : Option Addr} {sl__law_cells : Array (Option Value)} {a__law_deck : Addr} {oc__law_deck kV__law_deck dc__law_deck pm__law_deck cd__law_deck ct__law_deck : Value} {od__law_deck an__law_deck : Option Addr} {sl__law_deck : Array (Option Value)} {a__law_draw : Addr} {oc__law_draw kV__law_draw dc__law_draw pm__law_draw cd__law_draw ct__law_draw : Value} {od__law_draw an__law_draw : Option Addr} {sl__law_draw : Array (Option Value)} {a_Written___eq__ : Addr} {oc_Written___eq__ kV_Written___eq__ dc_Written___eq__ pm_Written___eq__ cd_Written___eq__ ct_Written___eq__ : Value} {od_Written___eq__ an_Written___eq__ : Option Addr} {sl_Written___eq__ : Array (Option Value)} {a__law_beside : Addr} {oc__law_beside kV__law_beside dc__law_beside pm__law_beside cd__law_beside ct__law_beside : Value} {od__law_beside an__law_beside : Option Addr} {sl__law_beside : Array (Option Value)} {a__law_equal_right : Addr} {oc__law_equal_right kV__law_equal_right dc__law_equal_right pm__law_equal_right cd__law_equal_right ct__law_equal_right : Value} {od__law_equal_right an__law_equal_right : Option Addr} {sl__law_equal_right : Array (Option Value)} {a__law_value : Addr} {oc__law_value kV__law_value dc__law_value pm__law_value cd__law_value ct__law_value : Value} {od__law_value an__law_value : Option Addr} {sl__law_value : Array (Option Value)} {a_law : Addr} {oc_law kV_law dc_law pm_law cd_law ct_law : Value} {od_law an_law : Option Addr} {sl_law : Array (Option Value)} {cd_of_Sheet : ClassData} {tk_MOST_BASE : Tok} {tk_MOST_ROWS : Tok}
    (ac_Sheet : PySem.W.nsIn K mainGlobals "Sheet" = some (some (.ref c_Sheet)))
    (ac_Written : PySem.W.nsIn K mainGlobals "Written" = some (some (.ref c_Written)))
    (ac_InvalidSheet : PySem.W.nsIn K mainGlobals "InvalidSheet" = some (some (.ref c_InvalidSheet)))
    (ac_InvalidColumn : PySem.W.nsIn K mainGlobals "InvalidColumn" = some (some (.ref c_InvalidColumn)))
    (af_is_whole : PySem.W.nsIn K mainGlobals "is_whole" = some (some (.ref a_is_whole)))
    (lf_is_whole : K.lookup a_is_whole = some ⟨oc_is_whole, od_is_whole, .func (PySem.W.fnOf "is_whole" "is_whole" (defArgs s_is_whole) (defBody s_is_whole) (defScope s_is_whole) .none kV_is_whole dc_is_whole pm_is_whole an_is_whole cd_is_whole ct_is_whole), sl_is_whole⟩)
    (cf_is_whole : PySem.W.codeIn K cd_is_whole "is_whole" = true)
    (kf_is_whole : PySem.W.keepIn K (.ref a_is_whole) = true)
    (af_is_column : PySem.W.nsIn K mainGlobals "is_column" = some (some (.ref a_is_column)))
    (lf_is_column : K.lookup a_is_column = some ⟨oc_is_column, od_is_column, .func (PySem.W.fnOf "is_column" "is_column" (defArgs s_is_column) (defBody s_is_column) (defScope s_is_column) .none kV_is_column dc_is_column pm_is_column an_is_column cd_is_column ct_is_column), sl_is_column⟩)
    (cf_is_column : PySem.W.codeIn K cd_is_column "is_column" = true)
    (kf_is_column : PySem.W.keepIn K (.ref a_is_column) = true)
    (af__are_columns : PySem.W.nsIn K mainGlobals "_are_columns" = some (some (.ref a__are_columns)))
    (lf__are_columns : K.lookup a__are_columns = some ⟨oc__are_columns, od__are_columns, .func (PySem.W.fnOf "_are_columns" "_are_columns" (defArgs s__are_columns) (defBody s__are_columns) (defScope s__are_columns) .none kV__are_columns dc__are_columns pm__are_columns an__are_columns cd__are_columns ct__are_columns), sl__are_columns⟩)
    (cf__are_columns : PySem.W.codeIn K cd__are_columns "_are_columns" = true)
    (kf__are_columns : PySem.W.keepIn K (.ref a__are_columns) = true)
    (af_is_base : PySem.W.nsIn K mainGlobals "is_base" = some (some (.ref a_is_base)))
    (lf_is_base : K.lookup a_is_base = some ⟨oc_is_base, od_is_base, .func (PySem.W.fnOf "is_base" "is_base" (defArgs s_is_base) (defBody s_is_base) (defScope s_is_base) .none kV_is_base dc_is_base pm_is_base an_is_base cd_is_base ct_is_base), sl_is_base⟩)
    (cf_is_base : PySem.W.codeIn K cd_is_base "is_base" = true)
    (kf_is_base : PySem.W.keepIn K (.ref a_is_base) = true)
    (af_is_rows : PySem.W.nsIn K mainGlobals "is_rows" = some (some (.ref a_is_rows)))
    (lf_is_rows : K.lookup a_is_rows = some ⟨oc_is_rows, od_is_rows, .func (PySem.W.fnOf "is_rows" "is_rows" (defArgs s_is_rows) (defBody s_is_rows) (defScope s_is_rows) .none kV_is_rows dc_is_rows pm_is_rows an_is_rows cd_is_rows ct_is_rows), sl_is_rows⟩)
    (cf_is_rows : PySem.W.codeIn K cd_is_rows "is_rows" = true)
    (kf_is_rows : PySem.W.keepIn K (.ref a_is_rows) = true)
    (af_Sheet___init__ : PySem.W.findIn K (.ref c_Sheet) "__init__" = some (some (.ref a_Sheet___init__)))
    (if_Sheet___init__ : PySem.W.isFn K (.ref a_Sheet___init__) = true)
    (lf_Sheet___init__ : K.lookup a_Sheet___init__ = some ⟨oc_Sheet___init__, od_Sheet___init__, .func (PySem.W.fnOf "__init__" "Sheet.__init__" (defArgs s_Sheet___init__) (defBody s_Sheet___init__) (defScope s_Sheet___init__) .none kV_Sheet___init__ dc_Sheet___init__ pm_Sheet___init__ an_Sheet___init__ cd_Sheet___init__ ct_Sheet___init__), sl_Sheet___init__⟩)
    (cf_Sheet___init__ : PySem.W.codeIn K cd_Sheet___init__ "Sheet.__init__" = true)
    (kf_Sheet___init__ : PySem.W.keepIn K (.ref a_Sheet___init__) = true)
    (af_Sheet___setitem__ : PySem.W.findIn K (.ref c_Sheet) "__setitem__" = some (some (.ref a_Sheet___setitem__)))
    (if_Sheet___setitem__ : PySem.W.isFn K (.ref a_Sheet___setitem__) = true)
    (lf_Sheet___setitem__ : K.lookup a_Sheet___setitem__ = some ⟨oc_Sheet___setitem__, od_Sheet___setitem__, .func (PySem.W.fnOf "__setitem__" "Sheet.__setitem__" (defArgs s_Sheet___setitem__) (defBody s_Sheet___setitem__) (defScope s_Sheet___setitem__) .none kV_Sheet___setitem__ dc_Sheet___setitem__ pm_Sheet___setitem__ an_Sheet___setitem__ cd_Sheet___setitem__ ct_Sheet___setitem__), sl_Sheet___setitem__⟩)
    (cf_Sheet___setitem__ : PySem.W.codeIn K cd_Sheet___setitem__ "Sheet.__setitem__" = true)
    (kf_Sheet___setitem__ : PySem.W.keepIn K (.ref a_Sheet___setitem__) = true)
    (af_Written___init__ : PySem.W.findIn K (.ref c_Written) "__init__" = some (some (.ref a_Written___init__)))
    (if_Written___init__ : PySem.W.isFn K (.ref a_Written___init__) = true)
    (lf_Written___init__ : K.lookup a_Written___init__ = some ⟨oc_Written___init__, od_Written___init__, .func (PySem.W.fnOf "__init__" "Written.__init__" (defArgs s_Written___init__) (defBody s_Written___init__) (defScope s_Written___init__) .none kV_Written___init__ dc_Written___init__ pm_Written___init__ an_Written___init__ cd_Written___init__ ct_Written___init__), sl_Written___init__⟩)
    (cf_Written___init__ : PySem.W.codeIn K cd_Written___init__ "Written.__init__" = true)
    (kf_Written___init__ : PySem.W.keepIn K (.ref a_Written___init__) = true)
    (pf_Written_figures : PySem.W.findIn K (.ref c_Written) "figures" = some (some (.ref pa_Written_figures)))
    (pg_Written_figures : PySem.W.specialIn K (.ref pa_Written_figures) "__get__" = some (some (.builtin "property.__get__")))
    (pt_Written_figures : PySem.W.takesIn K (.ref pa_Written_figures) = some true)
    (pr_Written_figures : PySem.W.recIn K pa_Written_figures "property" = some (.ref a_Written_figures :: re_Written_figures))
    (lf_Written_figures : K.lookup a_Written_figures = some ⟨oc_Written_figures, od_Written_figures, .func (PySem.W.fnOf "figures" "Written.figures" (defArgs s_Written_figures) (defBody s_Written_figures) (defScope s_Written_figures) .none kV_Written_figures dc_Written_figures pm_Written_figures an_Written_figures cd_Written_figures ct_Written_figures), sl_Written_figures⟩)
    (cf_Written_figures : PySem.W.codeIn K cd_Written_figures "Written.figures" = true)
    (kf_Written_figures : PySem.W.keepIn K (.ref a_Written_figures) = true)
    (af_place_value : PySem.W.nsIn K mainGlobals "place_value" = some (some (.ref a_place_value)))
    (lf_place_value : K.lookup a_place_value = some ⟨oc_place_value, od_place_value, .func (PySem.W.fnOf "place_value" "place_value" (defArgs s_place_value) (defBody s_place_value) (defScope s_place_value) .none kV_place_value dc_place_value pm_place_value an_place_value cd_place_value ct_place_value), sl_place_value⟩)
    (cf_place_value : PySem.W.codeIn K cd_place_value "place_value" = true)
    (kf_place_value : PySem.W.keepIn K (.ref a_place_value) = true)
    (pf_Sheet_value : PySem.W.findIn K (.ref c_Sheet) "value" = some (some (.ref pa_Sheet_value)))
    (pg_Sheet_value : PySem.W.specialIn K (.ref pa_Sheet_value) "__get__" = some (some (.builtin "property.__get__")))
    (pt_Sheet_value : PySem.W.takesIn K (.ref pa_Sheet_value) = some true)
    (pr_Sheet_value : PySem.W.recIn K pa_Sheet_value "property" = some (.ref a_Sheet_value :: re_Sheet_value))
    (lf_Sheet_value : K.lookup a_Sheet_value = some ⟨oc_Sheet_value, od_Sheet_value, .func (PySem.W.fnOf "value" "Sheet.value" (defArgs s_Sheet_value) (defBody s_Sheet_value) (defScope s_Sheet_value) .none kV_Sheet_value dc_Sheet_value pm_Sheet_value an_Sheet_value cd_Sheet_value ct_Sheet_value), sl_Sheet_value⟩)
    (cf_Sheet_value : PySem.W.codeIn K cd_Sheet_value "Sheet.value" = true)
    (kf_Sheet_value : PySem.W.keepIn K (.ref a_Sheet_value) = true)
    (pf_Written_value : PySem.W.findIn K (.ref c_Written) "value" = some (some (.ref pa_Written_value)))
    (pg_Written_value : PySem.W.specialIn K (.ref pa_Written_value) "__get__" = some (some (.builtin "property.__get__")))
    (pt_Written_value : PySem.W.takesIn K (.ref pa_Written_value) = some true)
    (pr_Written_value : PySem.W.recIn K pa_Written_value "property" = some (.ref a_Written_value :: re_Written_value))
    (lf_Written_value : K.lookup a_Written_value = some ⟨oc_Written_value, od_Written_value, .func (PySem.W.fnOf "value" "Written.value" (defArgs s_Written_value) (defBody s_Written_value) (defScope s_Written_value) .none kV_Written_value dc_Written_value pm_Written_value an_Written_value cd_Written_value ct_Written_value), sl_Written_value⟩)
    (cf_Written_value : PySem.W.codeIn K cd_Written_value "Written.value" = true)
    (kf_Written_value : PySem.W.keepIn K (.ref a_Written_value) = true)
    (af_Written___sub__ : PySem.W.findIn K (.ref c_Written) "__sub__" = some (some (.ref a_Written___sub__)))
    (if_Written___sub__ : PySem.W.isFn K (.ref a_Written___sub__) = true)
    (lf_Written___sub__ : K.lookup a_Written___sub__ = some ⟨oc_Written___sub__, od_Written___sub__, .func (PySem.W.fnOf "__sub__" "Written.__sub__" (defArgs s_Written___sub__) (defBody s_Written___sub__) (defScope s_Written___sub__) .none kV_Written___sub__ dc_Written___sub__ pm_Written___sub__ an_Written___sub__ cd_Written___sub__ ct_Written___sub__), sl_Written___sub__⟩)
    (cf_Written___sub__ : PySem.W.codeIn K cd_Written___sub__ "Written.__sub__" = true)
    (kf_Written___sub__ : PySem.W.keepIn K (.ref a_Written___sub__) = true)
    (af_Written_rest : PySem.W.findIn K (.ref c_Written) "rest" = some (some (.ref a_Written_rest)))
    (if_Written_rest : PySem.W.isFn K (.ref a_Written_rest) = true)
    (lf_Written_rest : K.lookup a_Written_rest = some ⟨oc_Written_rest, od_Written_rest, .func (PySem.W.fnOf "rest" "Written.rest" (defArgs s_Written_rest) (defBody s_Written_rest) (defScope s_Written_rest) .none kV_Written_rest dc_Written_rest pm_Written_rest an_Written_rest cd_Written_rest ct_Written_rest), sl_Written_rest⟩)
    (cf_Written_rest : PySem.W.codeIn K cd_Written_rest "Written.rest" = true)
    (kf_Written_rest : PySem.W.keepIn K (.ref a_Written_rest) = true)
    (af__law_is_integer : PySem.W.nsIn K mainGlobals "_law_is_integer" = some (some (.ref a__law_is_integer)))
    (lf__law_is_integer : K.lookup a__law_is_integer = some ⟨oc__law_is_integer, od__law_is_integer, .func (PySem.W.fnOf "_law_is_integer" "_law_is_integer" (defArgs s__law_is_integer) (defBody s__law_is_integer) (defScope s__law_is_integer) .none kV__law_is_integer dc__law_is_integer pm__law_is_integer an__law_is_integer cd__law_is_integer ct__law_is_integer), sl__law_is_integer⟩)
    (cf__law_is_integer : PySem.W.codeIn K cd__law_is_integer "_law_is_integer" = true)
    (kf__law_is_integer : PySem.W.keepIn K (.ref a__law_is_integer) = true)
    (af__law_worth : PySem.W.nsIn K mainGlobals "_law_worth" = some (some (.ref a__law_worth)))
    (lf__law_worth : K.lookup a__law_worth = some ⟨oc__law_worth, od__law_worth, .func (PySem.W.fnOf "_law_worth" "_law_worth" (defArgs s__law_worth) (defBody s__law_worth) (defScope s__law_worth) .none kV__law_worth dc__law_worth pm__law_worth an__law_worth cd__law_worth ct__law_worth), sl__law_worth⟩)
    (cf__law_worth : PySem.W.codeIn K cd__law_worth "_law_worth" = true)
    (kf__law_worth : PySem.W.keepIn K (.ref a__law_worth) = true)
    (pf_Written_base : PySem.W.findIn K (.ref c_Written) "base" = some (some (.ref pa_Written_base)))
    (pg_Written_base : PySem.W.specialIn K (.ref pa_Written_base) "__get__" = some (some (.builtin "property.__get__")))
    (pt_Written_base : PySem.W.takesIn K (.ref pa_Written_base) = some true)
    (pr_Written_base : PySem.W.recIn K pa_Written_base "property" = some (.ref a_Written_base :: re_Written_base))
    (lf_Written_base : K.lookup a_Written_base = some ⟨oc_Written_base, od_Written_base, .func (PySem.W.fnOf "base" "Written.base" (defArgs s_Written_base) (defBody s_Written_base) (defScope s_Written_base) .none kV_Written_base dc_Written_base pm_Written_base an_Written_base cd_Written_base ct_Written_base), sl_Written_base⟩)
    (cf_Written_base : PySem.W.codeIn K cd_Written_base "Written.base" = true)
    (kf_Written_base : PySem.W.keepIn K (.ref a_Written_base) = true)
    (pf_Written_last : PySem.W.findIn K (.ref c_Written) "last" = some (some (.ref pa_Written_last)))
    (pg_Written_last : PySem.W.specialIn K (.ref pa_Written_last) "__get__" = some (some (.builtin "property.__get__")))
    (pt_Written_last : PySem.W.takesIn K (.ref pa_Written_last) = some true)
    (pr_Written_last : PySem.W.recIn K pa_Written_last "property" = some (.ref a_Written_last :: re_Written_last))
    (lf_Written_last : K.lookup a_Written_last = some ⟨oc_Written_last, od_Written_last, .func (PySem.W.fnOf "last" "Written.last" (defArgs s_Written_last) (defBody s_Written_last) (defScope s_Written_last) .none kV_Written_last dc_Written_last pm_Written_last an_Written_last cd_Written_last ct_Written_last), sl_Written_last⟩)
    (cf_Written_last : PySem.W.codeIn K cd_Written_last "Written.last" = true)
    (kf_Written_last : PySem.W.keepIn K (.ref a_Written_last) = true)
    (af__law_written_right : PySem.W.nsIn K mainGlobals "_law_written_right" = some (some (.ref a__law_written_right)))
    (lf__law_written_right : K.lookup a__law_written_right = some ⟨oc__law_written_right, od__law_written_right, .func (PySem.W.fnOf "_law_written_right" "_law_written_right" (defArgs s__law_written_right) (defBody s__law_written_right) (defScope s__law_written_right) .none kV__law_written_right dc__law_written_right pm__law_written_right an__law_written_right cd__law_written_right ct__law_written_right), sl__law_written_right⟩)
    (cf__law_written_right : PySem.W.codeIn K cd__law_written_right "_law_written_right" = true)
    (kf__law_written_right : PySem.W.keepIn K (.ref a__law_written_right) = true)
    (af__law_asked : PySem.W.nsIn K mainGlobals "_law_asked" = some (some (.ref a__law_asked)))
    (lf__law_asked : K.lookup a__law_asked = some ⟨oc__law_asked, od__law_asked, .func (PySem.W.fnOf "_law_asked" "_law_asked" (defArgs s__law_asked) (defBody s__law_asked) (defScope s__law_asked) .none kV__law_asked dc__law_asked pm__law_asked an__law_asked cd__law_asked ct__law_asked), sl__law_asked⟩)
    (cf__law_asked : PySem.W.codeIn K cd__law_asked "_law_asked" = true)
    (kf__law_asked : PySem.W.keepIn K (.ref a__law_asked) = true)
    (af__law_cells : PySem.W.nsIn K mainGlobals "_law_cells" = some (some (.ref a__law_cells)))
    (lf__law_cells : K.lookup a__law_cells = some ⟨oc__law_cells, od__law_cells, .func (PySem.W.fnOf "_law_cells" "_law_cells" (defArgs s__law_cells) (defBody s__law_cells) (defScope s__law_cells) .none kV__law_cells dc__law_cells pm__law_cells an__law_cells cd__law_cells ct__law_cells), sl__law_cells⟩)
    (cf__law_cells : PySem.W.codeIn K cd__law_cells "_law_cells" = true)
    (kf__law_cells : PySem.W.keepIn K (.ref a__law_cells) = true)
    (af__law_deck : PySem.W.nsIn K mainGlobals "_law_deck" = some (some (.ref a__law_deck)))
    (lf__law_deck : K.lookup a__law_deck = some ⟨oc__law_deck, od__law_deck, .func (PySem.W.fnOf "_law_deck" "_law_deck" (defArgs s__law_deck) (defBody s__law_deck) (defScope s__law_deck) .none kV__law_deck dc__law_deck pm__law_deck an__law_deck cd__law_deck ct__law_deck), sl__law_deck⟩)
    (cf__law_deck : PySem.W.codeIn K cd__law_deck "_law_deck" = true)
    (kf__law_deck : PySem.W.keepIn K (.ref a__law_deck) = true)
    (af__law_draw : PySem.W.nsIn K mainGlobals "_law_draw" = some (some (.ref a__law_draw)))
    (lf__law_draw : K.lookup a__law_draw = some ⟨oc__law_draw, od__law_draw, .func (PySem.W.fnOf "_law_draw" "_law_draw" (defArgs s__law_draw) (defBody s__law_draw) (defScope s__law_draw) .none kV__law_draw dc__law_draw pm__law_draw an__law_draw cd__law_draw ct__law_draw), sl__law_draw⟩)
    (cf__law_draw : PySem.W.codeIn K cd__law_draw "_law_draw" = true)
    (kf__law_draw : PySem.W.keepIn K (.ref a__law_draw) = true)
    (af_Written___eq__ : PySem.W.findIn K (.ref c_Written) "__eq__" = some (some (.ref a_Written___eq__)))
    (if_Written___eq__ : PySem.W.isFn K (.ref a_Written___eq__) = true)
    (lf_Written___eq__ : K.lookup a_Written___eq__ = some ⟨oc_Written___eq__, od_Written___eq__, .func (PySem.W.fnOf "__eq__" "Written.__eq__" (defArgs s_Written___eq__) (defBody s_Written___eq__) (defScope s_Written___eq__) .none kV_Written___eq__ dc_Written___eq__ pm_Written___eq__ an_Written___eq__ cd_Written___eq__ ct_Written___eq__), sl_Written___eq__⟩)
    (cf_Written___eq__ : PySem.W.codeIn K cd_Written___eq__ "Written.__eq__" = true)
    (kf_Written___eq__ : PySem.W.keepIn K (.ref a_Written___eq__) = true)
    (af__law_beside : PySem.W.nsIn K mainGlobals "_law_beside" = some (some (.ref a__law_beside)))
    (lf__law_beside : K.lookup a__law_beside = some ⟨oc__law_beside, od__law_beside, .func (PySem.W.fnOf "_law_beside" "_law_beside" (defArgs s__law_beside) (defBody s__law_beside) (defScope s__law_beside) .none kV__law_beside dc__law_beside pm__law_beside an__law_beside cd__law_beside ct__law_beside), sl__law_beside⟩)
    (cf__law_beside : PySem.W.codeIn K cd__law_beside "_law_beside" = true)
    (kf__law_beside : PySem.W.keepIn K (.ref a__law_beside) = true)
    (af__law_equal_right : PySem.W.nsIn K mainGlobals "_law_equal_right" = some (some (.ref a__law_equal_right)))
    (lf__law_equal_right : K.lookup a__law_equal_right = some ⟨oc__law_equal_right, od__law_equal_right, .func (PySem.W.fnOf "_law_equal_right" "_law_equal_right" (defArgs s__law_equal_right) (defBody s__law_equal_right) (defScope s__law_equal_right) .none kV__law_equal_right dc__law_equal_right pm__law_equal_right an__law_equal_right cd__law_equal_right ct__law_equal_right), sl__law_equal_right⟩)
    (cf__law_equal_right : PySem.W.codeIn K cd__law_equal_right "_law_equal_right" = true)
    (kf__law_equal_right : PySem.W.keepIn K (.ref a__law_equal_right) = true)
    (af__law_value : PySem.W.nsIn K mainGlobals "_law_value" = some (some (.ref a__law_value)))
    (lf__law_value : K.lookup a__law_value = some ⟨oc__law_value, od__law_value, .func (PySem.W.fnOf "_law_value" "_law_value" (defArgs s__law_value) (defBody s__law_value) (defScope s__law_value) .none kV__law_value dc__law_value pm__law_value an__law_value cd__law_value ct__law_value), sl__law_value⟩)
    (cf__law_value : PySem.W.codeIn K cd__law_value "_law_value" = true)
    (kf__law_value : PySem.W.keepIn K (.ref a__law_value) = true)
    (af_law : PySem.W.nsIn K mainGlobals "law" = some (some (.ref a_law)))
    (lf_law : K.lookup a_law = some ⟨oc_law, od_law, .func (PySem.W.fnOf "law" "law" (defArgs s_law) (defBody s_law) (defScope s_law) .none kV_law dc_law pm_law an_law cd_law ct_law), sl_law⟩)
    (cf_law : PySem.W.codeIn K cd_law "law" = true)
    (kf_law : PySem.W.keepIn K (.ref a_law) = true)
    (pg_Sheet : PySem.W.plainGet K c_Sheet Str.empty = true)
    (hd_Sheet : PySem.W.hasDictIn K c_Sheet = true)
    (po_Sheet : PySem.W.plainOver K c_Sheet = true)
    (sa_Sheet : PySem.W.findIn K (.ref c_Sheet) "__setattr__" = some (some (.builtin "object.__setattr__")))
    (mk_Sheet : PySem.W.makesIn K c_Sheet = true)
    (kc_Sheet : PySem.W.keepIn K (.ref c_Sheet) = true)
    (na_Sheet__base : PySem.W.findIn K (.ref c_Sheet) "_base" = some none)
    (na_Sheet__columns : PySem.W.findIn K (.ref c_Sheet) "_columns" = some none)
    (na_Sheet__rows : PySem.W.findIn K (.ref c_Sheet) "_rows" = some none)
    (ns_Sheet : PySem.W.noSeq K c_Sheet = true)
    (pg_Written : PySem.W.plainGet K c_Written Str.empty = true)
    (hd_Written : PySem.W.hasDictIn K c_Written = true)
    (po_Written : PySem.W.plainOver K c_Written = true)
    (sa_Written : PySem.W.findIn K (.ref c_Written) "__setattr__" = some (some (.builtin "object.__setattr__")))
    (mk_Written : PySem.W.makesIn K c_Written = true)
    (kc_Written : PySem.W.keepIn K (.ref c_Written) = true)
    (na_Written__base : PySem.W.findIn K (.ref c_Written) "_base" = some none)
    (na_Written__figures : PySem.W.findIn K (.ref c_Written) "_figures" = some none)
    (na_Written__last : PySem.W.findIn K (.ref c_Written) "_last" = some none)
    (sf_Written : PySem.W.selfFirst K c_Written = true)
    (ic1_Sheet : PySem.W.findIn K (.ref c_Sheet) "__class__" = some (some (.builtin "object.__class__")))
    (ic4_Sheet : PySem.W.mroIn K c_Sheet (.type "object") = some true)
    (icn : PySem.W.specialIn K (.builtin "object.__class__") "__get__" = some (some (.builtin "getset_descriptor.__get__")))
    (ict : PySem.W.takesIn K (.builtin "object.__class__") = some true)
    (io_Sheet : PySem.W.kitOne K (.ref c_Sheet) (.ref c_Sheet) = some true)
    (ic1_Written : PySem.W.findIn K (.ref c_Written) "__class__" = some (some (.builtin "object.__class__")))
    (ic4_Written : PySem.W.mroIn K c_Written (.type "object") = some true)
    (io_Written : PySem.W.kitOne K (.ref c_Written) (.ref c_Written) = some true)
    (nc_Sheet : PySem.W.clsIn K c_Sheet = some cd_of_Sheet)
    (nmr_Sheet : cd_of_Sheet.mro = [.ref c_Sheet, .type "object"])
    (no0_Sheet_sub : PySem.W.findIn K (.ref c_Sheet) (PySem.dunder "sub") = some none)
    (no1_Sheet_sub : PySem.W.findIn K (.ref c_Sheet) (PySem.dunderR "sub") = some none)
    (no2_Sheet_sub : PySem.W.findIn K (.type "object") (PySem.dunder "sub") = some none)
    (no3_Sheet_sub : PySem.W.findIn K (.type "object") (PySem.dunderR "sub") = some none)
    (ne_Written_Sheet : c_Written ≠ c_Sheet)
    (nf_Written_NoneType : PySem.W.notFirst K c_Written (.type "NoneType") = true)
    (nf_Written_bool : PySem.W.notFirst K c_Written (.type "bool") = true)
    (nf_Written_int : PySem.W.notFirst K c_Written (.type "int") = true)
    (nf_Written_str : PySem.W.notFirst K c_Written (.type "str") = true)
    (nf_Written_list : PySem.W.notFirst K c_Written (.type "list") = true)
    (nf_Written_tuple : PySem.W.notFirst K c_Written (.type "tuple") = true)
    (nf_Written_dict : PySem.W.notFirst K c_Written (.type "dict") = true)
    (ki_Written_NoneType : PySem.W.kitOne K (.type "NoneType") (.ref c_Written) = some false)
    (ki_Written_bool : PySem.W.kitOne K (.type "bool") (.ref c_Written) = some false)
    (ki_Written_int : PySem.W.kitOne K (.type "int") (.ref c_Written) = some false)
    (ki_Written_str : PySem.W.kitOne K (.type "str") (.ref c_Written) = some false)
    (ki_Written_list : PySem.W.kitOne K (.type "list") (.ref c_Written) = some false)
    (ki_Written_tuple : PySem.W.kitOne K (.type "tuple") (.ref c_Written) = some false)
    (ki_Written_dict : PySem.W.kitOne K (.type "dict") (.ref c_Written) = some false)
    (x_InvalidColumn : PySem.W.excIn K c_InvalidColumn [.type "ValueError", .type "Exception", .type "BaseException", .type "object"] "ValueError.__new__" = true)
    (xk_InvalidColumn : PySem.W.keepIn K (.ref c_InvalidColumn) = true)
    (xb_InvalidColumn : PySem.W.subIn K (.ref c_InvalidColumn) (.type "BaseException") = some true)
    (xt_InvalidColumn : PySem.W.typeIn K (.ref c_InvalidColumn) = some (.type "type"))
    (x_InvalidSheet : PySem.W.excIn K c_InvalidSheet [.type "ValueError", .type "Exception", .type "BaseException", .type "object"] "ValueError.__new__" = true)
    (xk_InvalidSheet : PySem.W.keepIn K (.ref c_InvalidSheet) = true)
    (xb_InvalidSheet : PySem.W.subIn K (.ref c_InvalidSheet) (.type "BaseException") = some true)
    (xt_InvalidSheet : PySem.W.typeIn K (.ref c_InvalidSheet) = some (.type "type"))
    (nb_all : PySem.W.nsIn K mainGlobals "all" = some none)
    (nb_bool : PySem.W.nsIn K mainGlobals "bool" = some none)
    (nb_int : PySem.W.nsIn K mainGlobals "int" = some none)
    (nb_isinstance : PySem.W.nsIn K mainGlobals "isinstance" = some none)
    (nb_len : PySem.W.nsIn K mainGlobals "len" = some none)
    (nb_list : PySem.W.nsIn K mainGlobals "list" = some none)
    (nb_range : PySem.W.nsIn K mainGlobals "range" = some none)
    (nb_sum : PySem.W.nsIn K mainGlobals "sum" = some none)
    (nb_tuple : PySem.W.nsIn K mainGlobals "tuple" = some none)
    (ak_MOST_BASE : PySem.W.nsIn K mainGlobals "MOST_BASE" = some (some (.int 12 tk_MOST_BASE)))
    (ak_MOST_ROWS : PySem.W.nsIn K mainGlobals "MOST_ROWS" = some (some (.int 4 tk_MOST_ROWS)))
    : Txt K mg where
  c_Sheet := c_Sheet
  m_Sheet := PySem.W.mg_of X G ac_Sheet
  c_Written := c_Written
  m_Written := PySem.W.mg_of X G ac_Written
  c_InvalidSheet := c_InvalidSheet
  m_InvalidSheet := PySem.W.mg_of X G ac_InvalidSheet
  c_InvalidColumn := c_InvalidColumn
  m_InvalidColumn := PySem.W.mg_of X G ac_InvalidColumn
  a_is_whole := a_is_whole
  fd_is_whole := PySem.W.fnOf "is_whole" "is_whole" (defArgs s_is_whole) (defBody s_is_whole) (defScope s_is_whole) .none kV_is_whole dc_is_whole pm_is_whole an_is_whole cd_is_whole ct_is_whole
  F_is_whole := fun_mk (st := s_is_whole) lf_is_whole cf_is_whole kf_is_whole
  b_is_whole := (fun_mk (st := s_is_whole) lf_is_whole cf_is_whole kf_is_whole).binds (ps := ["value", "low", "high"]) fun _ _ _ _ _ _ us hl => match us, hl with | [_, _, _], _ => rfl
  m_is_whole := PySem.W.mg_of X G af_is_whole
  a_is_column := a_is_column
  fd_is_column := PySem.W.fnOf "is_column" "is_column" (defArgs s_is_column) (defBody s_is_column) (defScope s_is_column) .none kV_is_column dc_is_column pm_is_column an_is_column cd_is_column ct_is_column
  F_is_column := fun_mk (st := s_is_column) lf_is_column cf_is_column kf_is_column
  b_is_column := (fun_mk (st := s_is_column) lf_is_column cf_is_column kf_is_column).binds (ps := ["base", "rows", "value"]) fun _ _ _ _ _ _ us hl => match us, hl with | [_, _, _], _ => rfl
  m_is_column := PySem.W.mg_of X G af_is_column
  a__are_columns := a__are_columns
  fd__are_columns := PySem.W.fnOf "_are_columns" "_are_columns" (defArgs s__are_columns) (defBody s__are_columns) (defScope s__are_columns) .none kV__are_columns dc__are_columns pm__are_columns an__are_columns cd__are_columns ct__are_columns
  F__are_columns := fun_mk (st := s__are_columns) lf__are_columns cf__are_columns kf__are_columns
  b__are_columns := (fun_mk (st := s__are_columns) lf__are_columns cf__are_columns kf__are_columns).binds (ps := ["base", "rows", "value"]) fun _ _ _ _ _ _ us hl => match us, hl with | [_, _, _], _ => rfl
  m__are_columns := PySem.W.mg_of X G af__are_columns
  a_is_base := a_is_base
  fd_is_base := PySem.W.fnOf "is_base" "is_base" (defArgs s_is_base) (defBody s_is_base) (defScope s_is_base) .none kV_is_base dc_is_base pm_is_base an_is_base cd_is_base ct_is_base
  F_is_base := fun_mk (st := s_is_base) lf_is_base cf_is_base kf_is_base
  b_is_base := (fun_mk (st := s_is_base) lf_is_base cf_is_base kf_is_base).binds (ps := ["value"]) fun _ _ _ _ _ _ us hl => match us, hl with | [_], _ => rfl
  m_is_base := PySem.W.mg_of X G af_is_base
  a_is_rows := a_is_rows
  fd_is_rows := PySem.W.fnOf "is_rows" "is_rows" (defArgs s_is_rows) (defBody s_is_rows) (defScope s_is_rows) .none kV_is_rows dc_is_rows pm_is_rows an_is_rows cd_is_rows ct_is_rows
  F_is_rows := fun_mk (st := s_is_rows) lf_is_rows cf_is_rows kf_is_rows
  b_is_rows := (fun_mk (st := s_is_rows) lf_is_rows cf_is_rows kf_is_rows).binds (ps := ["value"]) fun _ _ _ _ _ _ us hl => match us, hl with | [_], _ => rfl
  m_is_rows := PySem.W.mg_of X G af_is_rows
  a_Sheet___init__ := a_Sheet___init__
  fd_Sheet___init__ := PySem.W.fnOf "__init__" "Sheet.__init__" (defArgs s_Sheet___init__) (defBody s_Sheet___init__) (defScope s_Sheet___init__) .none kV_Sheet___init__ dc_Sheet___init__ pm_Sheet___init__ an_Sheet___init__ cd_Sheet___init__ ct_Sheet___init__
  F_Sheet___init__ := fun_mk (st := s_Sheet___init__) lf_Sheet___init__ cf_Sheet___init__ kf_Sheet___init__
  b_Sheet___init__ := (fun_mk (st := s_Sheet___init__) lf_Sheet___init__ cf_Sheet___init__ kf_Sheet___init__).binds (ps := ["self", "base", "rows", "columns"]) fun _ _ _ _ _ _ us hl => match us, hl with | [_, _, _, _], _ => rfl
  me_Sheet___init__ := ⟨af_Sheet___init__, if_Sheet___init__, kf_Sheet___init__⟩
  a_Sheet___setitem__ := a_Sheet___setitem__
  fd_Sheet___setitem__ := PySem.W.fnOf "__setitem__" "Sheet.__setitem__" (defArgs s_Sheet___setitem__) (defBody s_Sheet___setitem__) (defScope s_Sheet___setitem__) .none kV_Sheet___setitem__ dc_Sheet___setitem__ pm_Sheet___setitem__ an_Sheet___setitem__ cd_Sheet___setitem__ ct_Sheet___setitem__
  F_Sheet___setitem__ := fun_mk (st := s_Sheet___setitem__) lf_Sheet___setitem__ cf_Sheet___setitem__ kf_Sheet___setitem__
  b_Sheet___setitem__ := (fun_mk (st := s_Sheet___setitem__) lf_Sheet___setitem__ cf_Sheet___setitem__ kf_Sheet___setitem__).binds (ps := ["self", "at", "worth"]) fun _ _ _ _ _ _ us hl => match us, hl with | [_, _, _], _ => rfl
  me_Sheet___setitem__ := ⟨af_Sheet___setitem__, if_Sheet___setitem__, kf_Sheet___setitem__⟩
  a_Written___init__ := a_Written___init__
  fd_Written___init__ := PySem.W.fnOf "__init__" "Written.__init__" (defArgs s_Written___init__) (defBody s_Written___init__) (defScope s_Written___init__) .none kV_Written___init__ dc_Written___init__ pm_Written___init__ an_Written___init__ cd_Written___init__ ct_Written___init__
  F_Written___init__ := fun_mk (st := s_Written___init__) lf_Written___init__ cf_Written___init__ kf_Written___init__
  b_Written___init__ := (fun_mk (st := s_Written___init__) lf_Written___init__ cf_Written___init__ kf_Written___init__).binds (ps := ["self", "base", "figures", "last"]) fun _ _ _ _ _ _ us hl => match us, hl with | [_, _, _, _], _ => rfl
  me_Written___init__ := ⟨af_Written___init__, if_Written___init__, kf_Written___init__⟩
  a_Written_figures := a_Written_figures
  fd_Written_figures := PySem.W.fnOf "figures" "Written.figures" (defArgs s_Written_figures) (defBody s_Written_figures) (defScope s_Written_figures) .none kV_Written_figures dc_Written_figures pm_Written_figures an_Written_figures cd_Written_figures ct_Written_figures
  F_Written_figures := fun_mk (st := s_Written_figures) lf_Written_figures cf_Written_figures kf_Written_figures
  b_Written_figures := (fun_mk (st := s_Written_figures) lf_Written_figures cf_Written_figures kf_Written_figures).binds (ps := ["self"]) fun _ _ _ _ _ _ us hl => match us, hl with | [_], _ => rfl
  pa_Written_figures := pa_Written_figures
  p_Written_figures := ⟨pf_Written_figures, pg_Written_figures, pt_Written_figures, ⟨_, pr_Written_figures⟩⟩
  a_place_value := a_place_value
  fd_place_value := PySem.W.fnOf "place_value" "place_value" (defArgs s_place_value) (defBody s_place_value) (defScope s_place_value) .none kV_place_value dc_place_value pm_place_value an_place_value cd_place_value ct_place_value
  F_place_value := fun_mk (st := s_place_value) lf_place_value cf_place_value kf_place_value
  b_place_value := (fun_mk (st := s_place_value) lf_place_value cf_place_value kf_place_value).binds (ps := ["base", "figures", "last"]) fun _ _ _ _ _ _ us hl => match us, hl with | [_, _, _], _ => rfl
  m_place_value := PySem.W.mg_of X G af_place_value
  a_Sheet_value := a_Sheet_value
  fd_Sheet_value := PySem.W.fnOf "value" "Sheet.value" (defArgs s_Sheet_value) (defBody s_Sheet_value) (defScope s_Sheet_value) .none kV_Sheet_value dc_Sheet_value pm_Sheet_value an_Sheet_value cd_Sheet_value ct_Sheet_value
  F_Sheet_value := fun_mk (st := s_Sheet_value) lf_Sheet_value cf_Sheet_value kf_Sheet_value
  b_Sheet_value := (fun_mk (st := s_Sheet_value) lf_Sheet_value cf_Sheet_value kf_Sheet_value).binds (ps := ["self"]) fun _ _ _ _ _ _ us hl => match us, hl with | [_], _ => rfl
  pa_Sheet_value := pa_Sheet_value
  p_Sheet_value := ⟨pf_Sheet_value, pg_Sheet_value, pt_Sheet_value, ⟨_, pr_Sheet_value⟩⟩
  a_Written_value := a_Written_value
  fd_Written_value := PySem.W.fnOf "value" "Written.value" (defArgs s_Written_value) (defBody s_Written_value) (defScope s_Written_value) .none kV_Written_value dc_Written_value pm_Written_value an_Written_value cd_Written_value ct_Written_value
  F_Written_value := fun_mk (st := s_Written_value) lf_Written_value cf_Written_value kf_Written_value
  b_Written_value := (fun_mk (st := s_Written_value) lf_Written_value cf_Written_value kf_Written_value).binds (ps := ["self"]) fun _ _ _ _ _ _ us hl => match us, hl with | [_], _ => rfl
  pa_Written_value := pa_Written_value
  p_Written_value := ⟨pf_Written_value, pg_Written_value, pt_Written_value, ⟨_, pr_Written_value⟩⟩
  a_Written___sub__ := a_Written___sub__
  fd_Written___sub__ := PySem.W.fnOf "__sub__" "Written.__sub__" (defArgs s_Written___sub__) (defBody s_Written___sub__) (defScope s_Written___sub__) .none kV_Written___sub__ dc_Written___sub__ pm_Written___sub__ an_Written___sub__ cd_Written___sub__ ct_Written___sub__
  F_Written___sub__ := fun_mk (st := s_Written___sub__) lf_Written___sub__ cf_Written___sub__ kf_Written___sub__
  b_Written___sub__ := (fun_mk (st := s_Written___sub__) lf_Written___sub__ cf_Written___sub__ kf_Written___sub__).binds (ps := ["self", "other"]) fun _ _ _ _ _ _ us hl => match us, hl with | [_, _], _ => rfl
  me_Written___sub__ := ⟨af_Written___sub__, if_Written___sub__, kf_Written___sub__⟩
  a_Written_rest := a_Written_rest
  fd_Written_rest := PySem.W.fnOf "rest" "Written.rest" (defArgs s_Written_rest) (defBody s_Written_rest) (defScope s_Written_rest) .none kV_Written_rest dc_Written_rest pm_Written_rest an_Written_rest cd_Written_rest ct_Written_rest
  F_Written_rest := fun_mk (st := s_Written_rest) lf_Written_rest cf_Written_rest kf_Written_rest
  b_Written_rest := (fun_mk (st := s_Written_rest) lf_Written_rest cf_Written_rest kf_Written_rest).binds (ps := ["self", "r"]) fun _ _ _ _ _ _ us hl => match us, hl with | [_, _], _ => rfl
  me_Written_rest := ⟨af_Written_rest, if_Written_rest, kf_Written_rest⟩
  a__law_is_integer := a__law_is_integer
  fd__law_is_integer := PySem.W.fnOf "_law_is_integer" "_law_is_integer" (defArgs s__law_is_integer) (defBody s__law_is_integer) (defScope s__law_is_integer) .none kV__law_is_integer dc__law_is_integer pm__law_is_integer an__law_is_integer cd__law_is_integer ct__law_is_integer
  F__law_is_integer := fun_mk (st := s__law_is_integer) lf__law_is_integer cf__law_is_integer kf__law_is_integer
  b__law_is_integer := (fun_mk (st := s__law_is_integer) lf__law_is_integer cf__law_is_integer kf__law_is_integer).binds (ps := ["found"]) fun _ _ _ _ _ _ us hl => match us, hl with | [_], _ => rfl
  m__law_is_integer := PySem.W.mg_of X G af__law_is_integer
  a__law_worth := a__law_worth
  fd__law_worth := PySem.W.fnOf "_law_worth" "_law_worth" (defArgs s__law_worth) (defBody s__law_worth) (defScope s__law_worth) .none kV__law_worth dc__law_worth pm__law_worth an__law_worth cd__law_worth ct__law_worth
  F__law_worth := fun_mk (st := s__law_worth) lf__law_worth cf__law_worth kf__law_worth
  b__law_worth := (fun_mk (st := s__law_worth) lf__law_worth cf__law_worth kf__law_worth).binds (ps := ["base", "figures", "last"]) fun _ _ _ _ _ _ us hl => match us, hl with | [_, _, _], _ => rfl
  m__law_worth := PySem.W.mg_of X G af__law_worth
  a_Written_base := a_Written_base
  fd_Written_base := PySem.W.fnOf "base" "Written.base" (defArgs s_Written_base) (defBody s_Written_base) (defScope s_Written_base) .none kV_Written_base dc_Written_base pm_Written_base an_Written_base cd_Written_base ct_Written_base
  F_Written_base := fun_mk (st := s_Written_base) lf_Written_base cf_Written_base kf_Written_base
  b_Written_base := (fun_mk (st := s_Written_base) lf_Written_base cf_Written_base kf_Written_base).binds (ps := ["self"]) fun _ _ _ _ _ _ us hl => match us, hl with | [_], _ => rfl
  pa_Written_base := pa_Written_base
  p_Written_base := ⟨pf_Written_base, pg_Written_base, pt_Written_base, ⟨_, pr_Written_base⟩⟩
  a_Written_last := a_Written_last
  fd_Written_last := PySem.W.fnOf "last" "Written.last" (defArgs s_Written_last) (defBody s_Written_last) (defScope s_Written_last) .none kV_Written_last dc_Written_last pm_Written_last an_Written_last cd_Written_last ct_Written_last
  F_Written_last := fun_mk (st := s_Written_last) lf_Written_last cf_Written_last kf_Written_last
  b_Written_last := (fun_mk (st := s_Written_last) lf_Written_last cf_Written_last kf_Written_last).binds (ps := ["self"]) fun _ _ _ _ _ _ us hl => match us, hl with | [_], _ => rfl
  pa_Written_last := pa_Written_last
  p_Written_last := ⟨pf_Written_last, pg_Written_last, pt_Written_last, ⟨_, pr_Written_last⟩⟩
  a__law_written_right := a__law_written_right
  fd__law_written_right := PySem.W.fnOf "_law_written_right" "_law_written_right" (defArgs s__law_written_right) (defBody s__law_written_right) (defScope s__law_written_right) .none kV__law_written_right dc__law_written_right pm__law_written_right an__law_written_right cd__law_written_right ct__law_written_right
  F__law_written_right := fun_mk (st := s__law_written_right) lf__law_written_right cf__law_written_right kf__law_written_right
  b__law_written_right := (fun_mk (st := s__law_written_right) lf__law_written_right cf__law_written_right kf__law_written_right).binds (ps := ["found", "base", "figures", "last"]) fun _ _ _ _ _ _ us hl => match us, hl with | [_, _, _, _], _ => rfl
  m__law_written_right := PySem.W.mg_of X G af__law_written_right
  a__law_asked := a__law_asked
  fd__law_asked := PySem.W.fnOf "_law_asked" "_law_asked" (defArgs s__law_asked) (defBody s__law_asked) (defScope s__law_asked) .none kV__law_asked dc__law_asked pm__law_asked an__law_asked cd__law_asked ct__law_asked
  F__law_asked := fun_mk (st := s__law_asked) lf__law_asked cf__law_asked kf__law_asked
  b__law_asked := (fun_mk (st := s__law_asked) lf__law_asked cf__law_asked kf__law_asked).binds (ps := ["written", "base", "figures", "last", "divisor", "sheet", "right"]) fun _ _ _ _ _ _ us hl => match us, hl with | [_, _, _, _, _, _, _], _ => rfl
  m__law_asked := PySem.W.mg_of X G af__law_asked
  a__law_cells := a__law_cells
  fd__law_cells := PySem.W.fnOf "_law_cells" "_law_cells" (defArgs s__law_cells) (defBody s__law_cells) (defScope s__law_cells) .none kV__law_cells dc__law_cells pm__law_cells an__law_cells cd__law_cells ct__law_cells
  F__law_cells := fun_mk (st := s__law_cells) lf__law_cells cf__law_cells kf__law_cells
  b__law_cells := (fun_mk (st := s__law_cells) lf__law_cells cf__law_cells kf__law_cells).binds (ps := ["script"]) fun _ _ _ _ _ _ us hl => match us, hl with | [_], _ => rfl
  m__law_cells := PySem.W.mg_of X G af__law_cells
  a__law_deck := a__law_deck
  fd__law_deck := PySem.W.fnOf "_law_deck" "_law_deck" (defArgs s__law_deck) (defBody s__law_deck) (defScope s__law_deck) .none kV__law_deck dc__law_deck pm__law_deck an__law_deck cd__law_deck ct__law_deck
  F__law_deck := fun_mk (st := s__law_deck) lf__law_deck cf__law_deck kf__law_deck
  b__law_deck := (fun_mk (st := s__law_deck) lf__law_deck cf__law_deck kf__law_deck).binds (ps := ["cell"]) fun _ _ _ _ _ _ us hl => match us, hl with | [_], _ => rfl
  m__law_deck := PySem.W.mg_of X G af__law_deck
  a__law_draw := a__law_draw
  fd__law_draw := PySem.W.fnOf "_law_draw" "_law_draw" (defArgs s__law_draw) (defBody s__law_draw) (defScope s__law_draw) .none kV__law_draw dc__law_draw pm__law_draw an__law_draw cd__law_draw ct__law_draw
  F__law_draw := fun_mk (st := s__law_draw) lf__law_draw cf__law_draw kf__law_draw
  b__law_draw := (fun_mk (st := s__law_draw) lf__law_draw cf__law_draw kf__law_draw).binds (ps := ["deck", "many"]) fun _ _ _ _ _ _ us hl => match us, hl with | [_, _], _ => rfl
  m__law_draw := PySem.W.mg_of X G af__law_draw
  a_Written___eq__ := a_Written___eq__
  fd_Written___eq__ := PySem.W.fnOf "__eq__" "Written.__eq__" (defArgs s_Written___eq__) (defBody s_Written___eq__) (defScope s_Written___eq__) .none kV_Written___eq__ dc_Written___eq__ pm_Written___eq__ an_Written___eq__ cd_Written___eq__ ct_Written___eq__
  F_Written___eq__ := fun_mk (st := s_Written___eq__) lf_Written___eq__ cf_Written___eq__ kf_Written___eq__
  b_Written___eq__ := (fun_mk (st := s_Written___eq__) lf_Written___eq__ cf_Written___eq__ kf_Written___eq__).binds (ps := ["self", "other"]) fun _ _ _ _ _ _ us hl => match us, hl with | [_, _], _ => rfl
  me_Written___eq__ := ⟨af_Written___eq__, if_Written___eq__, kf_Written___eq__⟩
  a__law_beside := a__law_beside
  fd__law_beside := PySem.W.fnOf "_law_beside" "_law_beside" (defArgs s__law_beside) (defBody s__law_beside) (defScope s__law_beside) .none kV__law_beside dc__law_beside pm__law_beside an__law_beside cd__law_beside ct__law_beside
  F__law_beside := fun_mk (st := s__law_beside) lf__law_beside cf__law_beside kf__law_beside
  b__law_beside := (fun_mk (st := s__law_beside) lf__law_beside cf__law_beside kf__law_beside).binds (ps := ["base", "figures", "last"]) fun _ _ _ _ _ _ us hl => match us, hl with | [_, _, _], _ => rfl
  m__law_beside := PySem.W.mg_of X G af__law_beside
  a__law_equal_right := a__law_equal_right
  fd__law_equal_right := PySem.W.fnOf "_law_equal_right" "_law_equal_right" (defArgs s__law_equal_right) (defBody s__law_equal_right) (defScope s__law_equal_right) .none kV__law_equal_right dc__law_equal_right pm__law_equal_right an__law_equal_right cd__law_equal_right ct__law_equal_right
  F__law_equal_right := fun_mk (st := s__law_equal_right) lf__law_equal_right cf__law_equal_right kf__law_equal_right
  b__law_equal_right := (fun_mk (st := s__law_equal_right) lf__law_equal_right cf__law_equal_right kf__law_equal_right).binds (ps := ["written", "base", "figures", "last"]) fun _ _ _ _ _ _ us hl => match us, hl with | [_, _, _, _], _ => rfl
  m__law_equal_right := PySem.W.mg_of X G af__law_equal_right
  a__law_value := a__law_value
  fd__law_value := PySem.W.fnOf "_law_value" "_law_value" (defArgs s__law_value) (defBody s__law_value) (defScope s__law_value) .none kV__law_value dc__law_value pm__law_value an__law_value cd__law_value ct__law_value
  F__law_value := fun_mk (st := s__law_value) lf__law_value cf__law_value kf__law_value
  b__law_value := (fun_mk (st := s__law_value) lf__law_value cf__law_value kf__law_value).binds (ps := ["base", "columns"]) fun _ _ _ _ _ _ us hl => match us, hl with | [_, _], _ => rfl
  m__law_value := PySem.W.mg_of X G af__law_value
  a_law := a_law
  fd_law := PySem.W.fnOf "law" "law" (defArgs s_law) (defBody s_law) (defScope s_law) .none kV_law dc_law pm_law an_law cd_law ct_law
  F_law := fun_mk (st := s_law) lf_law cf_law kf_law
  b_law := (fun_mk (st := s_law) lf_law cf_law kf_law).binds (ps := ["script"]) fun _ _ _ _ _ _ us hl => match us, hl with | [_], _ => rfl
  m_law := PySem.W.mg_of X G af_law
  cl_Sheet := ⟨pg_Sheet, hd_Sheet, po_Sheet, sa_Sheet⟩
  k_Sheet := ⟨mk_Sheet, af_Sheet___init__, if_Sheet___init__, kc_Sheet⟩
  na_Sheet__base := na_Sheet__base
  na_Sheet__columns := na_Sheet__columns
  na_Sheet__rows := na_Sheet__rows
  ns_Sheet := ns_Sheet
  cl_Written := ⟨pg_Written, hd_Written, po_Written, sa_Written⟩
  k_Written := ⟨mk_Written, af_Written___init__, if_Written___init__, kc_Written⟩
  na_Written__base := na_Written__base
  na_Written__figures := na_Written__figures
  na_Written__last := na_Written__last
  sf_Written := sf_Written
  ic_Sheet := ⟨ic1_Sheet, icn, ict, ic4_Sheet⟩
  io_Sheet := io_Sheet
  ic_Written := ⟨ic1_Written, icn, ict, ic4_Written⟩
  io_Written := io_Written
  nop_Sheet_sub := ⟨⟨_, nc_Sheet, nmr_Sheet⟩, no0_Sheet_sub, no1_Sheet_sub, no2_Sheet_sub, no3_Sheet_sub⟩
  ne_Written_Sheet := ne_Written_Sheet
  do_Written := dataOut nf_Written_NoneType nf_Written_bool nf_Written_int nf_Written_str nf_Written_list nf_Written_tuple nf_Written_dict ki_Written_NoneType ki_Written_bool ki_Written_int ki_Written_str ki_Written_list ki_Written_tuple ki_Written_dict
  x_InvalidColumn := x_InvalidColumn
  xk_InvalidColumn := xk_InvalidColumn
  xb_InvalidColumn := xb_InvalidColumn
  xt_InvalidColumn := xt_InvalidColumn
  x_InvalidSheet := x_InvalidSheet
  xk_InvalidSheet := xk_InvalidSheet
  xb_InvalidSheet := xb_InvalidSheet
  xt_InvalidSheet := xt_InvalidSheet
  n_all := PySem.W.mg_none_of X G nb_all
  n_bool := PySem.W.mg_none_of X G nb_bool
  n_int := PySem.W.mg_none_of X G nb_int
  n_isinstance := PySem.W.mg_none_of X G nb_isinstance
  n_len := PySem.W.mg_none_of X G nb_len
  n_list := PySem.W.mg_none_of X G nb_list
  n_range := PySem.W.mg_none_of X G nb_range
  n_sum := PySem.W.mg_none_of X G nb_sum
  n_tuple := PySem.W.mg_none_of X G nb_tuple
  tk_MOST_BASE := tk_MOST_BASE
  m_MOST_BASE := PySem.W.mg_of X G ak_MOST_BASE
  tk_MOST_ROWS := tk_MOST_ROWS
  m_MOST_ROWS := PySem.W.mg_of X G ak_MOST_ROWS
theorem fin {P : Program} {w : World} {K : PySem.W.Frag} {h : Heap} {mg : Str → Option Value} {fa : Addr} (X : K.In h) (G : h.Ns mainGlobals mg) (hfa : mg "law" = some (.ref fa)) {c_Sheet : Addr} {c_Written : Addr} {c_InvalidSheet : Addr} {c_InvalidColumn : Addr} {a_is_whole : Addr} {oc_is_whole kV_is_whole dc_is_whole pm_is_whole cd_is_whole ct_is_whole : Value} {od_is_whole an_is_whole : Option Addr} {sl_is_whole : Array (Option Value)} {a_is_column : Addr} {oc_is_column kV_is_column dc_is_column pm_is_column cd_is_column ct_is_column : Value} {od_is_column an_is_column : Option Addr} {sl_is_column : Array (Option Value)} {a__are_columns : Addr} {oc__are_columns kV__are_columns dc__are_columns pm__are_columns cd__are_columns ct__are_columns : Value} {od__are_columns an__are_columns : Option Addr} {sl__are_columns : Array (Option Value)} {a_is_base : Addr} {oc_is_base kV_is_base dc_is_base pm_is_base cd_is_base ct_is_base : Value} {od_is_base an_is_base : Option Addr} {sl_is_base : Array (Option Value)} {a_is_rows : Addr} {oc_is_rows kV_is_rows dc_is_rows pm_is_rows cd_is_rows ct_is_rows : Value} {od_is_rows an_is_rows : Option Addr} {sl_is_rows : Array (Option Value)} {a_Sheet___init__ : Addr} {oc_Sheet___init__ kV_Sheet___init__ dc_Sheet___init__ pm_Sheet___init__ cd_Sheet___init__ ct_Sheet___init__ : Value} {od_Sheet___init__ an_Sheet___init__ : Option Addr} {sl_Sheet___init__ : Array (Option Value)} {a_Sheet___setitem__ : Addr} {oc_Sheet___setitem__ kV_Sheet___setitem__ dc_Sheet___setitem__ pm_Sheet___setitem__ cd_Sheet___setitem__ ct_Sheet___setitem__ : Value} {od_Sheet___setitem__ an_Sheet___setitem__ : Option Addr} {sl_Sheet___setitem__ : Array (Option Value)} {a_Written___init__ : Addr} {oc_Written___init__ kV_Written___init__ dc_Written___init__ pm_Written___init__ cd_Written___init__ ct_Written___init__ : Value} {od_Written___init__ an_Written___init__ : Option Addr} {sl_Written___init__ : Array (Option Value)} {a_Written_figures : Addr} {oc_Written_figures kV_Written_figures dc_Written_figures pm_Written_figures cd_Written_figures ct_Written_figures : Value} {od_Written_figures an_Written_figures : Option Addr} {sl_Written_figures : Array (Option Value)} {pa_Written_figures : Addr} {re_Written_figures : List Value} {a_place_value : Addr} {oc_place_value kV_place_value dc_place_value pm_place_value cd_place_value ct_place_value : Value} {od_place_value an_place_value : Option Addr} {sl_place_value : Array (Option Value)} {a_Sheet_value : Addr} {oc_Sheet_value kV_Sheet_value dc_Sheet_value pm_Sheet_value cd_Sheet_value ct_Sheet_value : Value} {od_Sheet_value an_Sheet_value : Option Addr} {sl_Sheet_value : Array (Option Value)} {pa_Sheet_value : Addr} {re_Sheet_value : List Value} {a_Written_value : Addr} {oc_Written_value kV_Written_value dc_Written_value pm_Written_value cd_Written_value ct_Written_value : Value} {od_Written_value an_Written_value : Option Addr} {sl_Written_value : Array (Option Value)} {pa_Written_value : Addr} {re_Written_value : List Value} {a_Written___sub__ : Addr} {oc_Written___sub__ kV_Written___sub__ dc_Written___sub__ pm_Written___sub__ cd_Written___sub__ ct_Written___sub__ : Value} {od_Written___sub__ an_Written___sub__ : Option Addr} {sl_Written___sub__ : Array (Option Value)} {a_Written_rest : Addr} {oc_Written_rest kV_Written_rest dc_Written_rest pm_Written_rest cd_Written_rest ct_Written_rest : Value} {od_Written_rest an_Written_rest : Option Addr} {sl_Written_rest : Array (Option Value)} {a__law_is_integer : Addr} {oc__law_is_integer kV__law_is_integer dc__law_is_integer pm__law_is_integer cd__law_is_integer ct__law_is_integer : Value} {od__law_is_integer an__law_is_integer : Option Addr} {sl__law_is_integer : Array (Option Value)} {a__law_worth : Addr} {oc__law_worth kV__law_worth dc__law_worth pm__law_worth cd__law_worth ct__law_worth : Value} {od__law_worth an__law_worth : Option Addr} {sl__law_worth : Array (Option Value)} {a_Written_base : Addr} {oc_Written_base kV_Written_base dc_Written_base pm_Written_base cd_Written_base ct_Written_base : Value} {od_Written_base an_Written_base : Option Addr} {sl_Written_base : Array (Option Value)} {pa_Written_base : Addr} {re_Written_base : List Value} {a_Written_last : Addr} {oc_Written_last kV_Written_last dc_Written_last pm_Written_last cd_Written_last ct_Written_last : Value} {od_Written_last an_Written_last : Option Addr} {sl_Written_last : Array (Option Value)} {pa_Written_last : Addr} {re_Written_last : List Value} {a__law_written_right : Addr} {oc__law_written_right kV__law_written_right dc__law_written_right pm__law_written_right cd__law_written_right ct__law_written_right : Value} {od__law_written_right an__law_written_right : Option Addr} {sl__law_written_right : Array (Option Value)} {a__law_asked : Addr} {oc__law_asked kV__law_asked dc__law_asked pm__law_asked cd__law_asked ct__law_asked : Value} {od__law_asked an__law_asked : Option Addr} {sl__law_asked : Array (Option Value)} {a__law_cells : Addr} {oc__law_cells kV__law_cells dc__law_cells pm__law_cells cd__law_cells ct__law_cells : Value} {od__law_cells an__law_cells : Option Addr} {sl__law_cells : Array (Option Value)} {a__law_deck : Addr} {oc__law_deck kV__law_deck dc__law_deck pm__law_deck cd__law_deck ct__law_deck : Value} {od__law_deck an__law_deck : Option Addr} {sl__law_deck : Array (Option Value)} {a__law_draw : Addr} {oc__law_draw kV__law_draw dc__law_draw pm__law_draw cd__law_draw ct__law_draw : Value} {od__law_draw an__law_draw : Option Addr} {sl__law_draw : Array (Option Value)} {a_Written___eq__ : Addr} {oc_Written___eq__ kV_Written___eq__ dc_Written___eq__ pm_Written___eq__ cd_Written___eq__ ct_Written___eq__ : Value} {od_Written___eq__ an_Written___eq__ : Option Addr} {sl_Written___eq__ : Array (Option Value)} {a__law_beside : Addr} {oc__law_beside kV__law_beside dc__law_beside pm__law_beside cd__law_beside ct__law_beside : Value} {od__law_beside an__law_beside : Option Addr} {sl__law_beside : Array (Option Value)} {a__law_equal_right : Addr} {oc__law_equal_right kV__law_equal_right dc__law_equal_right pm__law_equal_right cd__law_equal_right ct__law_equal_right : Value} {od__law_equal_right an__law_equal_right : Option Addr} {sl__law_equal_right : Array (Option Value)} {a__law_value : Addr} {oc__law_value kV__law_value dc__law_value pm__law_value cd__law_value ct__law_value : Value} {od__law_value an__law_value : Option Addr} {sl__law_value : Array (Option Value)} {a_law : Addr} {oc_law kV_law dc_law pm_law cd_law ct_law : Value} {od_law an_law : Option Addr} {sl_law : Array (Option Value)} {cd_of_Sheet : ClassData} {tk_MOST_BASE : Tok} {tk_MOST_ROWS : Tok}
    (ac_Sheet : PySem.W.nsIn K mainGlobals "Sheet" = some (some (.ref c_Sheet)))
    (ac_Written : PySem.W.nsIn K mainGlobals "Written" = some (some (.ref c_Written)))
    (ac_InvalidSheet : PySem.W.nsIn K mainGlobals "InvalidSheet" = some (some (.ref c_InvalidSheet)))
    (ac_InvalidColumn : PySem.W.nsIn K mainGlobals "InvalidColumn" = some (some (.ref c_InvalidColumn)))
    (af_is_whole : PySem.W.nsIn K mainGlobals "is_whole" = some (some (.ref a_is_whole)))
    (lf_is_whole : K.lookup a_is_whole = some ⟨oc_is_whole, od_is_whole, .func (PySem.W.fnOf "is_whole" "is_whole" (defArgs s_is_whole) (defBody s_is_whole) (defScope s_is_whole) .none kV_is_whole dc_is_whole pm_is_whole an_is_whole cd_is_whole ct_is_whole), sl_is_whole⟩)
    (cf_is_whole : PySem.W.codeIn K cd_is_whole "is_whole" = true)
    (kf_is_whole : PySem.W.keepIn K (.ref a_is_whole) = true)
    (af_is_column : PySem.W.nsIn K mainGlobals "is_column" = some (some (.ref a_is_column)))
    (lf_is_column : K.lookup a_is_column = some ⟨oc_is_column, od_is_column, .func (PySem.W.fnOf "is_column" "is_column" (defArgs s_is_column) (defBody s_is_column) (defScope s_is_column) .none kV_is_column dc_is_column pm_is_column an_is_column cd_is_column ct_is_column), sl_is_column⟩)
    (cf_is_column : PySem.W.codeIn K cd_is_column "is_column" = true)
    (kf_is_column : PySem.W.keepIn K (.ref a_is_column) = true)
    (af__are_columns : PySem.W.nsIn K mainGlobals "_are_columns" = some (some (.ref a__are_columns)))
    (lf__are_columns : K.lookup a__are_columns = some ⟨oc__are_columns, od__are_columns, .func (PySem.W.fnOf "_are_columns" "_are_columns" (defArgs s__are_columns) (defBody s__are_columns) (defScope s__are_columns) .none kV__are_columns dc__are_columns pm__are_columns an__are_columns cd__are_columns ct__are_columns), sl__are_columns⟩)
    (cf__are_columns : PySem.W.codeIn K cd__are_columns "_are_columns" = true)
    (kf__are_columns : PySem.W.keepIn K (.ref a__are_columns) = true)
    (af_is_base : PySem.W.nsIn K mainGlobals "is_base" = some (some (.ref a_is_base)))
    (lf_is_base : K.lookup a_is_base = some ⟨oc_is_base, od_is_base, .func (PySem.W.fnOf "is_base" "is_base" (defArgs s_is_base) (defBody s_is_base) (defScope s_is_base) .none kV_is_base dc_is_base pm_is_base an_is_base cd_is_base ct_is_base), sl_is_base⟩)
    (cf_is_base : PySem.W.codeIn K cd_is_base "is_base" = true)
    (kf_is_base : PySem.W.keepIn K (.ref a_is_base) = true)
    (af_is_rows : PySem.W.nsIn K mainGlobals "is_rows" = some (some (.ref a_is_rows)))
    (lf_is_rows : K.lookup a_is_rows = some ⟨oc_is_rows, od_is_rows, .func (PySem.W.fnOf "is_rows" "is_rows" (defArgs s_is_rows) (defBody s_is_rows) (defScope s_is_rows) .none kV_is_rows dc_is_rows pm_is_rows an_is_rows cd_is_rows ct_is_rows), sl_is_rows⟩)
    (cf_is_rows : PySem.W.codeIn K cd_is_rows "is_rows" = true)
    (kf_is_rows : PySem.W.keepIn K (.ref a_is_rows) = true)
    (af_Sheet___init__ : PySem.W.findIn K (.ref c_Sheet) "__init__" = some (some (.ref a_Sheet___init__)))
    (if_Sheet___init__ : PySem.W.isFn K (.ref a_Sheet___init__) = true)
    (lf_Sheet___init__ : K.lookup a_Sheet___init__ = some ⟨oc_Sheet___init__, od_Sheet___init__, .func (PySem.W.fnOf "__init__" "Sheet.__init__" (defArgs s_Sheet___init__) (defBody s_Sheet___init__) (defScope s_Sheet___init__) .none kV_Sheet___init__ dc_Sheet___init__ pm_Sheet___init__ an_Sheet___init__ cd_Sheet___init__ ct_Sheet___init__), sl_Sheet___init__⟩)
    (cf_Sheet___init__ : PySem.W.codeIn K cd_Sheet___init__ "Sheet.__init__" = true)
    (kf_Sheet___init__ : PySem.W.keepIn K (.ref a_Sheet___init__) = true)
    (af_Sheet___setitem__ : PySem.W.findIn K (.ref c_Sheet) "__setitem__" = some (some (.ref a_Sheet___setitem__)))
    (if_Sheet___setitem__ : PySem.W.isFn K (.ref a_Sheet___setitem__) = true)
    (lf_Sheet___setitem__ : K.lookup a_Sheet___setitem__ = some ⟨oc_Sheet___setitem__, od_Sheet___setitem__, .func (PySem.W.fnOf "__setitem__" "Sheet.__setitem__" (defArgs s_Sheet___setitem__) (defBody s_Sheet___setitem__) (defScope s_Sheet___setitem__) .none kV_Sheet___setitem__ dc_Sheet___setitem__ pm_Sheet___setitem__ an_Sheet___setitem__ cd_Sheet___setitem__ ct_Sheet___setitem__), sl_Sheet___setitem__⟩)
    (cf_Sheet___setitem__ : PySem.W.codeIn K cd_Sheet___setitem__ "Sheet.__setitem__" = true)
    (kf_Sheet___setitem__ : PySem.W.keepIn K (.ref a_Sheet___setitem__) = true)
    (af_Written___init__ : PySem.W.findIn K (.ref c_Written) "__init__" = some (some (.ref a_Written___init__)))
    (if_Written___init__ : PySem.W.isFn K (.ref a_Written___init__) = true)
    (lf_Written___init__ : K.lookup a_Written___init__ = some ⟨oc_Written___init__, od_Written___init__, .func (PySem.W.fnOf "__init__" "Written.__init__" (defArgs s_Written___init__) (defBody s_Written___init__) (defScope s_Written___init__) .none kV_Written___init__ dc_Written___init__ pm_Written___init__ an_Written___init__ cd_Written___init__ ct_Written___init__), sl_Written___init__⟩)
    (cf_Written___init__ : PySem.W.codeIn K cd_Written___init__ "Written.__init__" = true)
    (kf_Written___init__ : PySem.W.keepIn K (.ref a_Written___init__) = true)
    (pf_Written_figures : PySem.W.findIn K (.ref c_Written) "figures" = some (some (.ref pa_Written_figures)))
    (pg_Written_figures : PySem.W.specialIn K (.ref pa_Written_figures) "__get__" = some (some (.builtin "property.__get__")))
    (pt_Written_figures : PySem.W.takesIn K (.ref pa_Written_figures) = some true)
    (pr_Written_figures : PySem.W.recIn K pa_Written_figures "property" = some (.ref a_Written_figures :: re_Written_figures))
    (lf_Written_figures : K.lookup a_Written_figures = some ⟨oc_Written_figures, od_Written_figures, .func (PySem.W.fnOf "figures" "Written.figures" (defArgs s_Written_figures) (defBody s_Written_figures) (defScope s_Written_figures) .none kV_Written_figures dc_Written_figures pm_Written_figures an_Written_figures cd_Written_figures ct_Written_figures), sl_Written_figures⟩)
    (cf_Written_figures : PySem.W.codeIn K cd_Written_figures "Written.figures" = true)
    (kf_Written_figures : PySem.W.keepIn K (.ref a_Written_figures) = true)
    (af_place_value : PySem.W.nsIn K mainGlobals "place_value" = some (some (.ref a_place_value)))
    (lf_place_value : K.lookup a_place_value = some ⟨oc_place_value, od_place_value, .func (PySem.W.fnOf "place_value" "place_value" (defArgs s_place_value) (defBody s_place_value) (defScope s_place_value) .none kV_place_value dc_place_value pm_place_value an_place_value cd_place_value ct_place_value), sl_place_value⟩)
    (cf_place_value : PySem.W.codeIn K cd_place_value "place_value" = true)
    (kf_place_value : PySem.W.keepIn K (.ref a_place_value) = true)
    (pf_Sheet_value : PySem.W.findIn K (.ref c_Sheet) "value" = some (some (.ref pa_Sheet_value)))
    (pg_Sheet_value : PySem.W.specialIn K (.ref pa_Sheet_value) "__get__" = some (some (.builtin "property.__get__")))
    (pt_Sheet_value : PySem.W.takesIn K (.ref pa_Sheet_value) = some true)
    (pr_Sheet_value : PySem.W.recIn K pa_Sheet_value "property" = some (.ref a_Sheet_value :: re_Sheet_value))
    (lf_Sheet_value : K.lookup a_Sheet_value = some ⟨oc_Sheet_value, od_Sheet_value, .func (PySem.W.fnOf "value" "Sheet.value" (defArgs s_Sheet_value) (defBody s_Sheet_value) (defScope s_Sheet_value) .none kV_Sheet_value dc_Sheet_value pm_Sheet_value an_Sheet_value cd_Sheet_value ct_Sheet_value), sl_Sheet_value⟩)
    (cf_Sheet_value : PySem.W.codeIn K cd_Sheet_value "Sheet.value" = true)
    (kf_Sheet_value : PySem.W.keepIn K (.ref a_Sheet_value) = true)
    (pf_Written_value : PySem.W.findIn K (.ref c_Written) "value" = some (some (.ref pa_Written_value)))
    (pg_Written_value : PySem.W.specialIn K (.ref pa_Written_value) "__get__" = some (some (.builtin "property.__get__")))
    (pt_Written_value : PySem.W.takesIn K (.ref pa_Written_value) = some true)
    (pr_Written_value : PySem.W.recIn K pa_Written_value "property" = some (.ref a_Written_value :: re_Written_value))
    (lf_Written_value : K.lookup a_Written_value = some ⟨oc_Written_value, od_Written_value, .func (PySem.W.fnOf "value" "Written.value" (defArgs s_Written_value) (defBody s_Written_value) (defScope s_Written_value) .none kV_Written_value dc_Written_value pm_Written_value an_Written_value cd_Written_value ct_Written_value), sl_Written_value⟩)
    (cf_Written_value : PySem.W.codeIn K cd_Written_value "Written.value" = true)
    (kf_Written_value : PySem.W.keepIn K (.ref a_Written_value) = true)
    (af_Written___sub__ : PySem.W.findIn K (.ref c_Written) "__sub__" = some (some (.ref a_Written___sub__)))
    (if_Written___sub__ : PySem.W.isFn K (.ref a_Written___sub__) = true)
    (lf_Written___sub__ : K.lookup a_Written___sub__ = some ⟨oc_Written___sub__, od_Written___sub__, .func (PySem.W.fnOf "__sub__" "Written.__sub__" (defArgs s_Written___sub__) (defBody s_Written___sub__) (defScope s_Written___sub__) .none kV_Written___sub__ dc_Written___sub__ pm_Written___sub__ an_Written___sub__ cd_Written___sub__ ct_Written___sub__), sl_Written___sub__⟩)
    (cf_Written___sub__ : PySem.W.codeIn K cd_Written___sub__ "Written.__sub__" = true)
    (kf_Written___sub__ : PySem.W.keepIn K (.ref a_Written___sub__) = true)
    (af_Written_rest : PySem.W.findIn K (.ref c_Written) "rest" = some (some (.ref a_Written_rest)))
    (if_Written_rest : PySem.W.isFn K (.ref a_Written_rest) = true)
    (lf_Written_rest : K.lookup a_Written_rest = some ⟨oc_Written_rest, od_Written_rest, .func (PySem.W.fnOf "rest" "Written.rest" (defArgs s_Written_rest) (defBody s_Written_rest) (defScope s_Written_rest) .none kV_Written_rest dc_Written_rest pm_Written_rest an_Written_rest cd_Written_rest ct_Written_rest), sl_Written_rest⟩)
    (cf_Written_rest : PySem.W.codeIn K cd_Written_rest "Written.rest" = true)
    (kf_Written_rest : PySem.W.keepIn K (.ref a_Written_rest) = true)
    (af__law_is_integer : PySem.W.nsIn K mainGlobals "_law_is_integer" = some (some (.ref a__law_is_integer)))
    (lf__law_is_integer : K.lookup a__law_is_integer = some ⟨oc__law_is_integer, od__law_is_integer, .func (PySem.W.fnOf "_law_is_integer" "_law_is_integer" (defArgs s__law_is_integer) (defBody s__law_is_integer) (defScope s__law_is_integer) .none kV__law_is_integer dc__law_is_integer pm__law_is_integer an__law_is_integer cd__law_is_integer ct__law_is_integer), sl__law_is_integer⟩)
    (cf__law_is_integer : PySem.W.codeIn K cd__law_is_integer "_law_is_integer" = true)
    (kf__law_is_integer : PySem.W.keepIn K (.ref a__law_is_integer) = true)
    (af__law_worth : PySem.W.nsIn K mainGlobals "_law_worth" = some (some (.ref a__law_worth)))
    (lf__law_worth : K.lookup a__law_worth = some ⟨oc__law_worth, od__law_worth, .func (PySem.W.fnOf "_law_worth" "_law_worth" (defArgs s__law_worth) (defBody s__law_worth) (defScope s__law_worth) .none kV__law_worth dc__law_worth pm__law_worth an__law_worth cd__law_worth ct__law_worth), sl__law_worth⟩)
    (cf__law_worth : PySem.W.codeIn K cd__law_worth "_law_worth" = true)
    (kf__law_worth : PySem.W.keepIn K (.ref a__law_worth) = true)
    (pf_Written_base : PySem.W.findIn K (.ref c_Written) "base" = some (some (.ref pa_Written_base)))
    (pg_Written_base : PySem.W.specialIn K (.ref pa_Written_base) "__get__" = some (some (.builtin "property.__get__")))
    (pt_Written_base : PySem.W.takesIn K (.ref pa_Written_base) = some true)
    (pr_Written_base : PySem.W.recIn K pa_Written_base "property" = some (.ref a_Written_base :: re_Written_base))
    (lf_Written_base : K.lookup a_Written_base = some ⟨oc_Written_base, od_Written_base, .func (PySem.W.fnOf "base" "Written.base" (defArgs s_Written_base) (defBody s_Written_base) (defScope s_Written_base) .none kV_Written_base dc_Written_base pm_Written_base an_Written_base cd_Written_base ct_Written_base), sl_Written_base⟩)
    (cf_Written_base : PySem.W.codeIn K cd_Written_base "Written.base" = true)
    (kf_Written_base : PySem.W.keepIn K (.ref a_Written_base) = true)
    (pf_Written_last : PySem.W.findIn K (.ref c_Written) "last" = some (some (.ref pa_Written_last)))
    (pg_Written_last : PySem.W.specialIn K (.ref pa_Written_last) "__get__" = some (some (.builtin "property.__get__")))
    (pt_Written_last : PySem.W.takesIn K (.ref pa_Written_last) = some true)
    (pr_Written_last : PySem.W.recIn K pa_Written_last "property" = some (.ref a_Written_last :: re_Written_last))
    (lf_Written_last : K.lookup a_Written_last = some ⟨oc_Written_last, od_Written_last, .func (PySem.W.fnOf "last" "Written.last" (defArgs s_Written_last) (defBody s_Written_last) (defScope s_Written_last) .none kV_Written_last dc_Written_last pm_Written_last an_Written_last cd_Written_last ct_Written_last), sl_Written_last⟩)
    (cf_Written_last : PySem.W.codeIn K cd_Written_last "Written.last" = true)
    (kf_Written_last : PySem.W.keepIn K (.ref a_Written_last) = true)
    (af__law_written_right : PySem.W.nsIn K mainGlobals "_law_written_right" = some (some (.ref a__law_written_right)))
    (lf__law_written_right : K.lookup a__law_written_right = some ⟨oc__law_written_right, od__law_written_right, .func (PySem.W.fnOf "_law_written_right" "_law_written_right" (defArgs s__law_written_right) (defBody s__law_written_right) (defScope s__law_written_right) .none kV__law_written_right dc__law_written_right pm__law_written_right an__law_written_right cd__law_written_right ct__law_written_right), sl__law_written_right⟩)
    (cf__law_written_right : PySem.W.codeIn K cd__law_written_right "_law_written_right" = true)
    (kf__law_written_right : PySem.W.keepIn K (.ref a__law_written_right) = true)
    (af__law_asked : PySem.W.nsIn K mainGlobals "_law_asked" = some (some (.ref a__law_asked)))
    (lf__law_asked : K.lookup a__law_asked = some ⟨oc__law_asked, od__law_asked, .func (PySem.W.fnOf "_law_asked" "_law_asked" (defArgs s__law_asked) (defBody s__law_asked) (defScope s__law_asked) .none kV__law_asked dc__law_asked pm__law_asked an__law_asked cd__law_asked ct__law_asked), sl__law_asked⟩)
    (cf__law_asked : PySem.W.codeIn K cd__law_asked "_law_asked" = true)
    (kf__law_asked : PySem.W.keepIn K (.ref a__law_asked) = true)
    (af__law_cells : PySem.W.nsIn K mainGlobals "_law_cells" = some (some (.ref a__law_cells)))
    (lf__law_cells : K.lookup a__law_cells = some ⟨oc__law_cells, od__law_cells, .func (PySem.W.fnOf "_law_cells" "_law_cells" (defArgs s__law_cells) (defBody s__law_cells) (defScope s__law_cells) .none kV__law_cells dc__law_cells pm__law_cells an__law_cells cd__law_cells ct__law_cells), sl__law_cells⟩)
    (cf__law_cells : PySem.W.codeIn K cd__law_cells "_law_cells" = true)
    (kf__law_cells : PySem.W.keepIn K (.ref a__law_cells) = true)
    (af__law_deck : PySem.W.nsIn K mainGlobals "_law_deck" = some (some (.ref a__law_deck)))
    (lf__law_deck : K.lookup a__law_deck = some ⟨oc__law_deck, od__law_deck, .func (PySem.W.fnOf "_law_deck" "_law_deck" (defArgs s__law_deck) (defBody s__law_deck) (defScope s__law_deck) .none kV__law_deck dc__law_deck pm__law_deck an__law_deck cd__law_deck ct__law_deck), sl__law_deck⟩)
    (cf__law_deck : PySem.W.codeIn K cd__law_deck "_law_deck" = true)
    (kf__law_deck : PySem.W.keepIn K (.ref a__law_deck) = true)
    (af__law_draw : PySem.W.nsIn K mainGlobals "_law_draw" = some (some (.ref a__law_draw)))
    (lf__law_draw : K.lookup a__law_draw = some ⟨oc__law_draw, od__law_draw, .func (PySem.W.fnOf "_law_draw" "_law_draw" (defArgs s__law_draw) (defBody s__law_draw) (defScope s__law_draw) .none kV__law_draw dc__law_draw pm__law_draw an__law_draw cd__law_draw ct__law_draw), sl__law_draw⟩)
    (cf__law_draw : PySem.W.codeIn K cd__law_draw "_law_draw" = true)
    (kf__law_draw : PySem.W.keepIn K (.ref a__law_draw) = true)
    (af_Written___eq__ : PySem.W.findIn K (.ref c_Written) "__eq__" = some (some (.ref a_Written___eq__)))
    (if_Written___eq__ : PySem.W.isFn K (.ref a_Written___eq__) = true)
    (lf_Written___eq__ : K.lookup a_Written___eq__ = some ⟨oc_Written___eq__, od_Written___eq__, .func (PySem.W.fnOf "__eq__" "Written.__eq__" (defArgs s_Written___eq__) (defBody s_Written___eq__) (defScope s_Written___eq__) .none kV_Written___eq__ dc_Written___eq__ pm_Written___eq__ an_Written___eq__ cd_Written___eq__ ct_Written___eq__), sl_Written___eq__⟩)
    (cf_Written___eq__ : PySem.W.codeIn K cd_Written___eq__ "Written.__eq__" = true)
    (kf_Written___eq__ : PySem.W.keepIn K (.ref a_Written___eq__) = true)
    (af__law_beside : PySem.W.nsIn K mainGlobals "_law_beside" = some (some (.ref a__law_beside)))
    (lf__law_beside : K.lookup a__law_beside = some ⟨oc__law_beside, od__law_beside, .func (PySem.W.fnOf "_law_beside" "_law_beside" (defArgs s__law_beside) (defBody s__law_beside) (defScope s__law_beside) .none kV__law_beside dc__law_beside pm__law_beside an__law_beside cd__law_beside ct__law_beside), sl__law_beside⟩)
    (cf__law_beside : PySem.W.codeIn K cd__law_beside "_law_beside" = true)
    (kf__law_beside : PySem.W.keepIn K (.ref a__law_beside) = true)
    (af__law_equal_right : PySem.W.nsIn K mainGlobals "_law_equal_right" = some (some (.ref a__law_equal_right)))
    (lf__law_equal_right : K.lookup a__law_equal_right = some ⟨oc__law_equal_right, od__law_equal_right, .func (PySem.W.fnOf "_law_equal_right" "_law_equal_right" (defArgs s__law_equal_right) (defBody s__law_equal_right) (defScope s__law_equal_right) .none kV__law_equal_right dc__law_equal_right pm__law_equal_right an__law_equal_right cd__law_equal_right ct__law_equal_right), sl__law_equal_right⟩)
    (cf__law_equal_right : PySem.W.codeIn K cd__law_equal_right "_law_equal_right" = true)
    (kf__law_equal_right : PySem.W.keepIn K (.ref a__law_equal_right) = true)
    (af__law_value : PySem.W.nsIn K mainGlobals "_law_value" = some (some (.ref a__law_value)))
    (lf__law_value : K.lookup a__law_value = some ⟨oc__law_value, od__law_value, .func (PySem.W.fnOf "_law_value" "_law_value" (defArgs s__law_value) (defBody s__law_value) (defScope s__law_value) .none kV__law_value dc__law_value pm__law_value an__law_value cd__law_value ct__law_value), sl__law_value⟩)
    (cf__law_value : PySem.W.codeIn K cd__law_value "_law_value" = true)
    (kf__law_value : PySem.W.keepIn K (.ref a__law_value) = true)
    (af_law : PySem.W.nsIn K mainGlobals "law" = some (some (.ref a_law)))
    (lf_law : K.lookup a_law = some ⟨oc_law, od_law, .func (PySem.W.fnOf "law" "law" (defArgs s_law) (defBody s_law) (defScope s_law) .none kV_law dc_law pm_law an_law cd_law ct_law), sl_law⟩)
    (cf_law : PySem.W.codeIn K cd_law "law" = true)
    (kf_law : PySem.W.keepIn K (.ref a_law) = true)
    (pg_Sheet : PySem.W.plainGet K c_Sheet Str.empty = true)
    (hd_Sheet : PySem.W.hasDictIn K c_Sheet = true)
    (po_Sheet : PySem.W.plainOver K c_Sheet = true)
    (sa_Sheet : PySem.W.findIn K (.ref c_Sheet) "__setattr__" = some (some (.builtin "object.__setattr__")))
    (mk_Sheet : PySem.W.makesIn K c_Sheet = true)
    (kc_Sheet : PySem.W.keepIn K (.ref c_Sheet) = true)
    (na_Sheet__base : PySem.W.findIn K (.ref c_Sheet) "_base" = some none)
    (na_Sheet__columns : PySem.W.findIn K (.ref c_Sheet) "_columns" = some none)
    (na_Sheet__rows : PySem.W.findIn K (.ref c_Sheet) "_rows" = some none)
    (ns_Sheet : PySem.W.noSeq K c_Sheet = true)
    (pg_Written : PySem.W.plainGet K c_Written Str.empty = true)
    (hd_Written : PySem.W.hasDictIn K c_Written = true)
    (po_Written : PySem.W.plainOver K c_Written = true)
    (sa_Written : PySem.W.findIn K (.ref c_Written) "__setattr__" = some (some (.builtin "object.__setattr__")))
    (mk_Written : PySem.W.makesIn K c_Written = true)
    (kc_Written : PySem.W.keepIn K (.ref c_Written) = true)
    (na_Written__base : PySem.W.findIn K (.ref c_Written) "_base" = some none)
    (na_Written__figures : PySem.W.findIn K (.ref c_Written) "_figures" = some none)
    (na_Written__last : PySem.W.findIn K (.ref c_Written) "_last" = some none)
    (sf_Written : PySem.W.selfFirst K c_Written = true)
    (ic1_Sheet : PySem.W.findIn K (.ref c_Sheet) "__class__" = some (some (.builtin "object.__class__")))
    (ic4_Sheet : PySem.W.mroIn K c_Sheet (.type "object") = some true)
    (icn : PySem.W.specialIn K (.builtin "object.__class__") "__get__" = some (some (.builtin "getset_descriptor.__get__")))
    (ict : PySem.W.takesIn K (.builtin "object.__class__") = some true)
    (io_Sheet : PySem.W.kitOne K (.ref c_Sheet) (.ref c_Sheet) = some true)
    (ic1_Written : PySem.W.findIn K (.ref c_Written) "__class__" = some (some (.builtin "object.__class__")))
    (ic4_Written : PySem.W.mroIn K c_Written (.type "object") = some true)
    (io_Written : PySem.W.kitOne K (.ref c_Written) (.ref c_Written) = some true)
    (nc_Sheet : PySem.W.clsIn K c_Sheet = some cd_of_Sheet)
    (nmr_Sheet : cd_of_Sheet.mro = [.ref c_Sheet, .type "object"])
    (no0_Sheet_sub : PySem.W.findIn K (.ref c_Sheet) (PySem.dunder "sub") = some none)
    (no1_Sheet_sub : PySem.W.findIn K (.ref c_Sheet) (PySem.dunderR "sub") = some none)
    (no2_Sheet_sub : PySem.W.findIn K (.type "object") (PySem.dunder "sub") = some none)
    (no3_Sheet_sub : PySem.W.findIn K (.type "object") (PySem.dunderR "sub") = some none)
    (ne_Written_Sheet : c_Written ≠ c_Sheet)
    (nf_Written_NoneType : PySem.W.notFirst K c_Written (.type "NoneType") = true)
    (nf_Written_bool : PySem.W.notFirst K c_Written (.type "bool") = true)
    (nf_Written_int : PySem.W.notFirst K c_Written (.type "int") = true)
    (nf_Written_str : PySem.W.notFirst K c_Written (.type "str") = true)
    (nf_Written_list : PySem.W.notFirst K c_Written (.type "list") = true)
    (nf_Written_tuple : PySem.W.notFirst K c_Written (.type "tuple") = true)
    (nf_Written_dict : PySem.W.notFirst K c_Written (.type "dict") = true)
    (ki_Written_NoneType : PySem.W.kitOne K (.type "NoneType") (.ref c_Written) = some false)
    (ki_Written_bool : PySem.W.kitOne K (.type "bool") (.ref c_Written) = some false)
    (ki_Written_int : PySem.W.kitOne K (.type "int") (.ref c_Written) = some false)
    (ki_Written_str : PySem.W.kitOne K (.type "str") (.ref c_Written) = some false)
    (ki_Written_list : PySem.W.kitOne K (.type "list") (.ref c_Written) = some false)
    (ki_Written_tuple : PySem.W.kitOne K (.type "tuple") (.ref c_Written) = some false)
    (ki_Written_dict : PySem.W.kitOne K (.type "dict") (.ref c_Written) = some false)
    (x_InvalidColumn : PySem.W.excIn K c_InvalidColumn [.type "ValueError", .type "Exception", .type "BaseException", .type "object"] "ValueError.__new__" = true)
    (xk_InvalidColumn : PySem.W.keepIn K (.ref c_InvalidColumn) = true)
    (xb_InvalidColumn : PySem.W.subIn K (.ref c_InvalidColumn) (.type "BaseException") = some true)
    (xt_InvalidColumn : PySem.W.typeIn K (.ref c_InvalidColumn) = some (.type "type"))
    (x_InvalidSheet : PySem.W.excIn K c_InvalidSheet [.type "ValueError", .type "Exception", .type "BaseException", .type "object"] "ValueError.__new__" = true)
    (xk_InvalidSheet : PySem.W.keepIn K (.ref c_InvalidSheet) = true)
    (xb_InvalidSheet : PySem.W.subIn K (.ref c_InvalidSheet) (.type "BaseException") = some true)
    (xt_InvalidSheet : PySem.W.typeIn K (.ref c_InvalidSheet) = some (.type "type"))
    (nb_all : PySem.W.nsIn K mainGlobals "all" = some none)
    (nb_bool : PySem.W.nsIn K mainGlobals "bool" = some none)
    (nb_int : PySem.W.nsIn K mainGlobals "int" = some none)
    (nb_isinstance : PySem.W.nsIn K mainGlobals "isinstance" = some none)
    (nb_len : PySem.W.nsIn K mainGlobals "len" = some none)
    (nb_list : PySem.W.nsIn K mainGlobals "list" = some none)
    (nb_range : PySem.W.nsIn K mainGlobals "range" = some none)
    (nb_sum : PySem.W.nsIn K mainGlobals "sum" = some none)
    (nb_tuple : PySem.W.nsIn K mainGlobals "tuple" = some none)
    (ak_MOST_BASE : PySem.W.nsIn K mainGlobals "MOST_BASE" = some (some (.int 12 tk_MOST_BASE)))
    (ak_MOST_ROWS : PySem.W.nsIn K mainGlobals "MOST_ROWS" = some (some (.int 4 tk_MOST_ROWS)))
    : ∃ fd : FuncData, (∀ (s : Shared) (v : Value), BindsTo s fd ⟨[v], []⟩ [("script", v)]) ∧ ∀ base : Heap, K.In base → base.Ns mainGlobals mg → FnOk P w K mg base CX0 7 fa fd ["script"] (spLaw K) := by
  have e := hfa.symm.trans (PySem.W.mg_of X G af_law)
  cases e
  exact ⟨_, fun s v => .of_eq rfl, fun base _ _ => law_fin (ok_law (txt_mk X G ac_Sheet ac_Written ac_InvalidSheet ac_InvalidColumn af_is_whole lf_is_whole cf_is_whole kf_is_whole af_is_column lf_is_column cf_is_column kf_is_column af__are_columns lf__are_columns cf__are_columns kf__are_columns af_is_base lf_is_base cf_is_base kf_is_base af_is_rows lf_is_rows cf_is_rows kf_is_rows af_Sheet___init__ if_Sheet___init__ lf_Sheet___init__ cf_Sheet___init__ kf_Sheet___init__ af_Sheet___setitem__ if_Sheet___setitem__ lf_Sheet___setitem__ cf_Sheet___setitem__ kf_Sheet___setitem__ af_Written___init__ if_Written___init__ lf_Written___init__ cf_Written___init__ kf_Written___init__ pf_Written_figures pg_Written_figures pt_Written_figures pr_Written_figures lf_Written_figures cf_Written_figures kf_Written_figures af_place_value lf_place_value cf_place_value kf_place_value pf_Sheet_value pg_Sheet_value pt_Sheet_value pr_Sheet_value lf_Sheet_value cf_Sheet_value kf_Sheet_value pf_Written_value pg_Written_value pt_Written_value pr_Written_value lf_Written_value cf_Written_value kf_Written_value af_Written___sub__ if_Written___sub__ lf_Written___sub__ cf_Written___sub__ kf_Written___sub__ af_Written_rest if_Written_rest lf_Written_rest cf_Written_rest kf_Written_rest af__law_is_integer lf__law_is_integer cf__law_is_integer kf__law_is_integer af__law_worth lf__law_worth cf__law_worth kf__law_worth pf_Written_base pg_Written_base pt_Written_base pr_Written_base lf_Written_base cf_Written_base kf_Written_base pf_Written_last pg_Written_last pt_Written_last pr_Written_last lf_Written_last cf_Written_last kf_Written_last af__law_written_right lf__law_written_right cf__law_written_right kf__law_written_right af__law_asked lf__law_asked cf__law_asked kf__law_asked af__law_cells lf__law_cells cf__law_cells kf__law_cells af__law_deck lf__law_deck cf__law_deck kf__law_deck af__law_draw lf__law_draw cf__law_draw kf__law_draw af_Written___eq__ if_Written___eq__ lf_Written___eq__ cf_Written___eq__ kf_Written___eq__ af__law_beside lf__law_beside cf__law_beside kf__law_beside af__law_equal_right lf__law_equal_right cf__law_equal_right kf__law_equal_right af__law_value lf__law_value cf__law_value kf__law_value af_law lf_law cf_law kf_law pg_Sheet hd_Sheet po_Sheet sa_Sheet mk_Sheet kc_Sheet na_Sheet__base na_Sheet__columns na_Sheet__rows ns_Sheet pg_Written hd_Written po_Written sa_Written mk_Written kc_Written na_Written__base na_Written__figures na_Written__last sf_Written ic1_Sheet ic4_Sheet icn ict io_Sheet ic1_Written ic4_Written io_Written nc_Sheet nmr_Sheet no0_Sheet_sub no1_Sheet_sub no2_Sheet_sub no3_Sheet_sub ne_Written_Sheet nf_Written_NoneType nf_Written_bool nf_Written_int nf_Written_str nf_Written_list nf_Written_tuple nf_Written_dict ki_Written_NoneType ki_Written_bool ki_Written_int ki_Written_str ki_Written_list ki_Written_tuple ki_Written_dict x_InvalidColumn xk_InvalidColumn xb_InvalidColumn xt_InvalidColumn x_InvalidSheet xk_InvalidSheet xb_InvalidSheet xt_InvalidSheet nb_all nb_bool nb_int nb_isinstance nb_len nb_list nb_range nb_sum nb_tuple ak_MOST_BASE ak_MOST_ROWS))⟩
theorem walk {l : PySem.W.OpenLaw} {q : Program} {loose : List Str} {XP : (Str → Option Value) → Heap → Prop} {YP : World → Heap → Prop} {d : DefRec} {K : Params → PySem.W.Frag} (hn : l.most = some 63) (hdf : d.params.defaults = [])
    (hY : ∀ (w : World) (h : Heap), YP w h → (K w.params).In h)
    (F : ∀ (w : World) (mg : Str → Option Value) (fa : Addr) (h : Heap), (K w.params).In h → h.Ns mainGlobals mg → mg d.name = some (.ref fa) →
      ∃ fd : FuncData, (∀ (s : Shared) (u : Value), BindsTo s fd ⟨[u], []⟩ [("script", u)]) ∧ ∀ base : Heap, (K w.params).In base → base.Ns mainGlobals mg → FnOk l.prog w (K w.params) mg base CX0 7 fa fd ["script"] (spLaw (K w.params))) :
    PySem.W.WalkO q loose XP YP l.row.toRowW d [] (fun f vs => PySem.call f vs) :=
  L2.walk_of (n := 63) (k := 7) (x := "script") (CX := fun _ => CX0) (sp := fun w => spLaw (K w.params)) hn (by decide) hdf ⟨rfl, by decide, by decide⟩ hY F (fun _ _ a ns hl _ hS => ⟨a, ns, rfl, hS, hl, fun _ => rfl⟩) fun _ _ _ _ _ z => z
end LW

open PySem PySem.W PyProof.Rows in
set_option maxRecDepth 100000 in
set_option maxHeartbeats 0 in
theorem PySem.Challenge.cw_sumslips_k07_written_results_holds : PySem.Challenge.rw_sumslips_k07_written_results.Holds := by
  w_on; o_law; k_head; (case hw => w_witness2)
  k_fill
  refine LW.walk (l := PySem.Challenge.rw_sumslips_k07_written_results) rfl rfl (fun w h Y => PySem.W.kIn_of Y) ?F
  case F =>
    intro w mg fa h KX G hmg
    refine' LW.fin KX G hmg ?ac_Sheet ?ac_Written ?ac_InvalidSheet ?ac_InvalidColumn ?af_is_whole ?lf_is_whole ?cf_is_whole ?kf_is_whole ?af_is_column ?lf_is_column ?cf_is_column ?kf_is_column ?af__are_columns ?lf__are_columns ?cf__are_columns ?kf__are_columns ?af_is_base ?lf_is_base ?cf_is_base ?kf_is_base ?af_is_rows ?lf_is_rows ?cf_is_rows ?kf_is_rows ?af_Sheet___init__ ?if_Sheet___init__ ?lf_Sheet___init__ ?cf_Sheet___init__ ?kf_Sheet___init__ ?af_Sheet___setitem__ ?if_Sheet___setitem__ ?lf_Sheet___setitem__ ?cf_Sheet___setitem__ ?kf_Sheet___setitem__ ?af_Written___init__ ?if_Written___init__ ?lf_Written___init__ ?cf_Written___init__ ?kf_Written___init__ ?pf_Written_figures ?pg_Written_figures ?pt_Written_figures ?pr_Written_figures ?lf_Written_figures ?cf_Written_figures ?kf_Written_figures ?af_place_value ?lf_place_value ?cf_place_value ?kf_place_value ?pf_Sheet_value ?pg_Sheet_value ?pt_Sheet_value ?pr_Sheet_value ?lf_Sheet_value ?cf_Sheet_value ?kf_Sheet_value ?pf_Written_value ?pg_Written_value ?pt_Written_value ?pr_Written_value ?lf_Written_value ?cf_Written_value ?kf_Written_value ?af_Written___sub__ ?if_Written___sub__ ?lf_Written___sub__ ?cf_Written___sub__ ?kf_Written___sub__ ?af_Written_rest ?if_Written_rest ?lf_Written_rest ?cf_Written_rest ?kf_Written_rest ?af__law_is_integer ?lf__law_is_integer ?cf__law_is_integer ?kf__law_is_integer ?af__law_worth ?lf__law_worth ?cf__law_worth ?kf__law_worth ?pf_Written_base ?pg_Written_base ?pt_Written_base ?pr_Written_base ?lf_Written_base ?cf_Written_base ?kf_Written_base ?pf_Written_last ?pg_Written_last ?pt_Written_last ?pr_Written_last ?lf_Written_last ?cf_Written_last ?kf_Written_last ?af__law_written_right ?lf__law_written_right ?cf__law_written_right ?kf__law_written_right ?af__law_asked ?lf__law_asked ?cf__law_asked ?kf__law_asked ?af__law_cells ?lf__law_cells ?cf__law_cells ?kf__law_cells ?af__law_deck ?lf__law_deck ?cf__law_deck ?kf__law_deck ?af__law_draw ?lf__law_draw ?cf__law_draw ?kf__law_draw ?af_Written___eq__ ?if_Written___eq__ ?lf_Written___eq__ ?cf_Written___eq__ ?kf_Written___eq__ ?af__law_beside ?lf__law_beside ?cf__law_beside ?kf__law_beside ?af__law_equal_right ?lf__law_equal_right ?cf__law_equal_right ?kf__law_equal_right ?af__law_value ?lf__law_value ?cf__law_value ?kf__law_value ?af_law ?lf_law ?cf_law ?kf_law ?pg_Sheet ?hd_Sheet ?po_Sheet ?sa_Sheet ?mk_Sheet ?kc_Sheet ?na_Sheet__base ?na_Sheet__columns ?na_Sheet__rows ?ns_Sheet ?pg_Written ?hd_Written ?po_Written ?sa_Written ?mk_Written ?kc_Written ?na_Written__base ?na_Written__figures ?na_Written__last ?sf_Written ?ic1_Sheet ?ic4_Sheet ?icn ?ict ?io_Sheet ?ic1_Written ?ic4_Written ?io_Written ?nc_Sheet ?nmr_Sheet ?no0_Sheet_sub ?no1_Sheet_sub ?no2_Sheet_sub ?no3_Sheet_sub ?ne_Written_Sheet ?nf_Written_NoneType ?nf_Written_bool ?nf_Written_int ?nf_Written_str ?nf_Written_list ?nf_Written_tuple ?nf_Written_dict ?ki_Written_NoneType ?ki_Written_bool ?ki_Written_int ?ki_Written_str ?ki_Written_list ?ki_Written_tuple ?ki_Written_dict ?x_InvalidColumn ?xk_InvalidColumn ?xb_InvalidColumn ?xt_InvalidColumn ?x_InvalidSheet ?xk_InvalidSheet ?xb_InvalidSheet ?xt_InvalidSheet ?nb_all ?nb_bool ?nb_int ?nb_isinstance ?nb_len ?nb_list ?nb_range ?nb_sum ?nb_tuple ?ak_MOST_BASE ?ak_MOST_ROWS
    (case ac_Sheet => first | k_is | kit_is | kts_exm | k_exc | decide | rfl)
    (case ac_Written => first | k_is | kit_is | kts_exm | k_exc | decide | rfl)
    (case ac_InvalidSheet => first | k_is | kit_is | kts_exm | k_exc | decide | rfl)
    (case ac_InvalidColumn => first | k_is | kit_is | kts_exm | k_exc | decide | rfl)
    (case af_is_whole => first | k_is | kit_is | kts_exm | k_exc | decide | rfl)
    (case lf_is_whole => first | k_is | kit_is | kts_exm | k_exc | decide | rfl)
    (case cf_is_whole => first | k_is | kit_is | kts_exm | k_exc | decide | rfl)
    (case kf_is_whole => first | k_is | kit_is | kts_exm | k_exc | decide | rfl)
    (case af_is_column => first | k_is | kit_is | kts_exm | k_exc | decide | rfl)
    (case lf_is_column => first | k_is | kit_is | kts_exm | k_exc | decide | rfl)
    (case cf_is_column => first | k_is | kit_is | kts_exm | k_exc | decide | rfl)
    (case kf_is_column => first | k_is | kit_is | kts_exm | k_exc | decide | rfl)
    (case af__are_columns => first | k_is | kit_is | kts_exm | k_exc | decide | rfl)
    (case lf__are_columns => first | k_is | kit_is | kts_exm | k_exc | decide | rfl)
    (case cf__are_columns => first | k_is | kit_is | kts_exm | k_exc | decide | rfl)
    (case kf__are_columns => first | k_is | kit_is | kts_exm | k_exc | decide | rfl)
    (case af_is_base => first | k_is | kit_is | kts_exm | k_exc | decide | rfl)
    (case lf_is_base => first | k_is | kit_is | kts_exm | k_exc | decide | rfl)
    (case cf_is_base => first | k_is | kit_is | kts_exm | k_exc | decide | rfl)
    (case kf_is_base => first | k_is | kit_is | kts_exm | k_exc | decide | rfl)
    (case af_is_rows => first | k_is | kit_is | kts_exm | k_exc | decide | rfl)
    (case lf_is_rows => first | k_is | kit_is | kts_exm | k_exc | decide | rfl)
    (case cf_is_rows => first | k_is | kit_is | kts_exm | k_exc | decide | rfl)
    (case kf_is_rows => first | k_is | kit_is | kts_exm | k_exc | decide | rfl)
    (case af_Sheet___init__ => first | k_is | kit_is | kts_exm | k_exc | decide | rfl)
    (case if_Sheet___init__ => first | k_is | kit_is | kts_exm | k_exc | decide | rfl)
    (case lf_Sheet___init__ => first | k_is | kit_is | kts_exm | k_exc | decide | rfl)
    (case cf_Sheet___init__ => first | k_is | kit_is | kts_exm | k_exc | decide | rfl)
    (case kf_Sheet___init__ => first | k_is | kit_is | kts_exm | k_exc | decide | rfl)
    (case af_Sheet___setitem__ => first | k_is | kit_is | kts_exm | k_exc | decide | rfl)
    (case if_Sheet___setitem__ => first | k_is | kit_is | kts_exm | k_exc | decide | rfl)
    (case lf_Sheet___setitem__ => first | k_is | kit_is | kts_exm | k_exc | decide | rfl)
    (case cf_Sheet___setitem__ => first | k_is | kit_is | kts_exm | k_exc | decide | rfl)
    (case kf_Sheet___setitem__ => first | k_is | kit_is | kts_exm | k_exc | decide | rfl)
    (case af_Written___init__ => first | k_is | kit_is | kts_exm | k_exc | decide | rfl)
    (case if_Written___init__ => first | k_is | kit_is | kts_exm | k_exc | decide | rfl)
    (case lf_Written___init__ => first | k_is | kit_is | kts_exm | k_exc | decide | rfl)
    (case cf_Written___init__ => first | k_is | kit_is | kts_exm | k_exc | decide | rfl)
    (case kf_Written___init__ => first | k_is | kit_is | kts_exm | k_exc | decide | rfl)
    (case pf_Written_figures => first | k_is | kit_is | kts_exm | k_exc | decide | rfl)
    (case pg_Written_figures => first | k_is | kit_is | kts_exm | k_exc | decide | rfl)
    (case pt_Written_figures => first | k_is | kit_is | kts_exm | k_exc | decide | rfl)
    (case pr_Written_figures => first | k_is | kit_is | kts_exm | k_exc | decide | rfl)
    (case lf_Written_figures => first | k_is | kit_is | kts_exm | k_exc | decide | rfl)
    (case cf_Written_figures => first | k_is | kit_is | kts_exm | k_exc | decide | rfl)
    (case kf_Written_figures => first | k_is | kit_is | kts_exm | k_exc | decide | rfl)
    (case af_place_value => first | k_is | kit_is | kts_exm | k_exc | decide | rfl)
    (case lf_place_value => first | k_is | kit_is | kts_exm | k_exc | decide | rfl)
    (case cf_place_value => first | k_is | kit_is | kts_exm | k_exc | decide | rfl)
    (case kf_place_value => first | k_is | kit_is | kts_exm | k_exc | decide | rfl)
    (case pf_Sheet_value => first | k_is | kit_is | kts_exm | k_exc | decide | rfl)
    (case pg_Sheet_value => first | k_is | kit_is | kts_exm | k_exc | decide | rfl)
    (case pt_Sheet_value => first | k_is | kit_is | kts_exm | k_exc | decide | rfl)
    (case pr_Sheet_value => first | k_is | kit_is | kts_exm | k_exc | decide | rfl)
    (case lf_Sheet_value => first | k_is | kit_is | kts_exm | k_exc | decide | rfl)
    (case cf_Sheet_value => first | k_is | kit_is | kts_exm | k_exc | decide | rfl)
    (case kf_Sheet_value => first | k_is | kit_is | kts_exm | k_exc | decide | rfl)
    (case pf_Written_value => first | k_is | kit_is | kts_exm | k_exc | decide | rfl)
    (case pg_Written_value => first | k_is | kit_is | kts_exm | k_exc | decide | rfl)
    (case pt_Written_value => first | k_is | kit_is | kts_exm | k_exc | decide | rfl)
    (case pr_Written_value => first | k_is | kit_is | kts_exm | k_exc | decide | rfl)
    (case lf_Written_value => first | k_is | kit_is | kts_exm | k_exc | decide | rfl)
    (case cf_Written_value => first | k_is | kit_is | kts_exm | k_exc | decide | rfl)
    (case kf_Written_value => first | k_is | kit_is | kts_exm | k_exc | decide | rfl)
    (case af_Written___sub__ => first | k_is | kit_is | kts_exm | k_exc | decide | rfl)
    (case if_Written___sub__ => first | k_is | kit_is | kts_exm | k_exc | decide | rfl)
    (case lf_Written___sub__ => first | k_is | kit_is | kts_exm | k_exc | decide | rfl)
    (case cf_Written___sub__ => first | k_is | kit_is | kts_exm | k_exc | decide | rfl)
    (case kf_Written___sub__ => first | k_is | kit_is | kts_exm | k_exc | decide | rfl)
    (case af_Written_rest => first | k_is | kit_is | kts_exm | k_exc | decide | rfl)
    (case if_Written_rest => first | k_is | kit_is | kts_exm | k_exc | decide | rfl)
    (case lf_Written_rest => first | k_is | kit_is | kts_exm | k_exc | decide | rfl)
    (case cf_Written_rest => first | k_is | kit_is | kts_exm | k_exc | decide | rfl)
    (case kf_Written_rest => first | k_is | kit_is | kts_exm | k_exc | decide | rfl)
    (case af__law_is_integer => first | k_is | kit_is | kts_exm | k_exc | decide | rfl)
    (case lf__law_is_integer => first | k_is | kit_is | kts_exm | k_exc | decide | rfl)
    (case cf__law_is_integer => first | k_is | kit_is | kts_exm | k_exc | decide | rfl)
    (case kf__law_is_integer => first | k_is | kit_is | kts_exm | k_exc | decide | rfl)
    (case af__law_worth => first | k_is | kit_is | kts_exm | k_exc | decide | rfl)
    (case lf__law_worth => first | k_is | kit_is | kts_exm | k_exc | decide | rfl)
    (case cf__law_worth => first | k_is | kit_is | kts_exm | k_exc | decide | rfl)
    (case kf__law_worth => first | k_is | kit_is | kts_exm | k_exc | decide | rfl)
    (case pf_Written_base => first | k_is | kit_is | kts_exm | k_exc | decide | rfl)
    (case pg_Written_base => first | k_is | kit_is | kts_exm | k_exc | decide | rfl)
    (case pt_Written_base => first | k_is | kit_is | kts_exm | k_exc | decide | rfl)
    (case pr_Written_base => first | k_is | kit_is | kts_exm | k_exc | decide | rfl)
    (case lf_Written_base => first | k_is | kit_is | kts_exm | k_exc | decide | rfl)
    (case cf_Written_base => first | k_is | kit_is | kts_exm | k_exc | decide | rfl)
    (case kf_Written_base => first | k_is | kit_is | kts_exm | k_exc | decide | rfl)
    (case pf_Written_last => first | k_is | kit_is | kts_exm | k_exc | decide | rfl)
    (case pg_Written_last => first | k_is | kit_is | kts_exm | k_exc | decide | rfl)
    (case pt_Written_last => first | k_is | kit_is | kts_exm | k_exc | decide | rfl)
    (case pr_Written_last => first | k_is | kit_is | kts_exm | k_exc | decide | rfl)
    (case lf_Written_last => first | k_is | kit_is | kts_exm | k_exc | decide | rfl)
    (case cf_Written_last => first | k_is | kit_is | kts_exm | k_exc | decide | rfl)
    (case kf_Written_last => first | k_is | kit_is | kts_exm | k_exc | decide | rfl)
    (case af__law_written_right => first | k_is | kit_is | kts_exm | k_exc | decide | rfl)
    (case lf__law_written_right => first | k_is | kit_is | kts_exm | k_exc | decide | rfl)
    (case cf__law_written_right => first | k_is | kit_is | kts_exm | k_exc | decide | rfl)
    (case kf__law_written_right => first | k_is | kit_is | kts_exm | k_exc | decide | rfl)
    (case af__law_asked => first | k_is | kit_is | kts_exm | k_exc | decide | rfl)
    (case lf__law_asked => first | k_is | kit_is | kts_exm | k_exc | decide | rfl)
    (case cf__law_asked => first | k_is | kit_is | kts_exm | k_exc | decide | rfl)
    (case kf__law_asked => first | k_is | kit_is | kts_exm | k_exc | decide | rfl)
    (case af__law_cells => first | k_is | kit_is | kts_exm | k_exc | decide | rfl)
    (case lf__law_cells => first | k_is | kit_is | kts_exm | k_exc | decide | rfl)
    (case cf__law_cells => first | k_is | kit_is | kts_exm | k_exc | decide | rfl)
    (case kf__law_cells => first | k_is | kit_is | kts_exm | k_exc | decide | rfl)
    (case af__law_deck => first | k_is | kit_is | kts_exm | k_exc | decide | rfl)
    (case lf__law_deck => first | k_is | kit_is | kts_exm | k_exc | decide | rfl)
    (case cf__law_deck => first | k_is | kit_is | kts_exm | k_exc | decide | rfl)
    (case kf__law_deck => first | k_is | kit_is | kts_exm | k_exc | decide | rfl)
    (case af__law_draw => first | k_is | kit_is | kts_exm | k_exc | decide | rfl)
    (case lf__law_draw => first | k_is | kit_is | kts_exm | k_exc | decide | rfl)
    (case cf__law_draw => first | k_is | kit_is | kts_exm | k_exc | decide | rfl)
    (case kf__law_draw => first | k_is | kit_is | kts_exm | k_exc | decide | rfl)
    (case af_Written___eq__ => first | k_is | kit_is | kts_exm | k_exc | decide | rfl)
    (case if_Written___eq__ => first | k_is | kit_is | kts_exm | k_exc | decide | rfl)
    (case lf_Written___eq__ => first | k_is | kit_is | kts_exm | k_exc | decide | rfl)
    (case cf_Written___eq__ => first | k_is | kit_is | kts_exm | k_exc | decide | rfl)
    (case kf_Written___eq__ => first | k_is | kit_is | kts_exm | k_exc | decide | rfl)
    (case af__law_beside => first | k_is | kit_is | kts_exm | k_exc | decide | rfl)
    (case lf__law_beside => first | k_is | kit_is | kts_exm | k_exc | decide | rfl)
    (case cf__law_beside => first | k_is | kit_is | kts_exm | k_exc | decide | rfl)
    (case kf__law_beside => first | k_is | kit_is | kts_exm | k_exc | decide | rfl)
    (case af__law_equal_right => first | k_is | kit_is | kts_exm | k_exc | decide | rfl)
    (case lf__law_equal_right => first | k_is | kit_is | kts_exm | k_exc | decide | rfl)
    (case cf__law_equal_right => first | k_is | kit_is | kts_exm | k_exc | decide | rfl)
    (case kf__law_equal_right => first | k_is | kit_is | kts_exm | k_exc | decide | rfl)
    (case af__law_value => first | k_is | kit_is | kts_exm | k_exc | decide | rfl)
    (case lf__law_value => first | k_is | kit_is | kts_exm | k_exc | decide | rfl)
    (case cf__law_value => first | k_is | kit_is | kts_exm | k_exc | decide | rfl)
    (case kf__law_value => first | k_is | kit_is | kts_exm | k_exc | decide | rfl)
    (case af_law => first | k_is | kit_is | kts_exm | k_exc | decide | rfl)
    (case lf_law => first | k_is | kit_is | kts_exm | k_exc | decide | rfl)
    (case cf_law => first | k_is | kit_is | kts_exm | k_exc | decide | rfl)
    (case kf_law => first | k_is | kit_is | kts_exm | k_exc | decide | rfl)
    (case pg_Sheet => first | k_is | kit_is | kts_exm | k_exc | decide | rfl)
    (case hd_Sheet => first | k_is | kit_is | kts_exm | k_exc | decide | rfl)
    (case po_Sheet => first | k_is | kit_is | kts_exm | k_exc | decide | rfl)
    (case sa_Sheet => first | k_is | kit_is | kts_exm | k_exc | decide | rfl)
    (case mk_Sheet => first | k_is | kit_is | kts_exm | k_exc | decide | rfl)
    (case kc_Sheet => first | k_is | kit_is | kts_exm | k_exc | decide | rfl)
    (case na_Sheet__base => first | k_is | kit_is | kts_exm | k_exc | decide | rfl)
    (case na_Sheet__columns => first | k_is | kit_is | kts_exm | k_exc | decide | rfl)
    (case na_Sheet__rows => first | k_is | kit_is | kts_exm | k_exc | decide | rfl)
    (case ns_Sheet => first | k_is | kit_is | kts_exm | k_exc | decide | rfl)
    (case pg_Written => first | k_is | kit_is | kts_exm | k_exc | decide | rfl)
    (case hd_Written => first | k_is | kit_is | kts_exm | k_exc | decide | rfl)
    (case po_Written => first | k_is | kit_is | kts_exm | k_exc | decide | rfl)
    (case sa_Written => first | k_is | kit_is | kts_exm | k_exc | decide | rfl)
    (case mk_Written => first | k_is | kit_is | kts_exm | k_exc | decide | rfl)
    (case kc_Written => first | k_is | kit_is | kts_exm | k_exc | decide | rfl)
    (case na_Written__base => first | k_is | kit_is | kts_exm | k_exc | decide | rfl)
    (case na_Written__figures => first | k_is | kit_is | kts_exm | k_exc | decide | rfl)
    (case na_Written__last => first | k_is | kit_is | kts_exm | k_exc | decide | rfl)
    (case sf_Written => first | k_is | kit_is | kts_exm | k_exc | decide | rfl)
    (case ic1_Sheet => first | k_is | kit_is | kts_exm | k_exc | decide | rfl)
    (case ic4_Sheet => first | k_is | kit_is | kts_exm | k_exc | decide | rfl)
    (case icn => first | k_is | kit_is | kts_exm | k_exc | decide | rfl)
    (case ict => first | k_is | kit_is | kts_exm | k_exc | decide | rfl)
    (case io_Sheet => first | k_is | kit_is | kts_exm | k_exc | decide | rfl)
    (case ic1_Written => first | k_is | kit_is | kts_exm | k_exc | decide | rfl)
    (case ic4_Written => first | k_is | kit_is | kts_exm | k_exc | decide | rfl)
    (case io_Written => first | k_is | kit_is | kts_exm | k_exc | decide | rfl)
    (case nc_Sheet => first | k_is | kit_is | kts_exm | k_exc | decide | rfl)
    (case nmr_Sheet => first | k_is | kit_is | kts_exm | k_exc | decide | rfl)
    (case no0_Sheet_sub => first | k_is | kit_is | kts_exm | k_exc | decide | rfl)
    (case no1_Sheet_sub => first | k_is | kit_is | kts_exm | k_exc | decide | rfl)
    (case no2_Sheet_sub => first | k_is | kit_is | kts_exm | k_exc | decide | rfl)
    (case no3_Sheet_sub => first | k_is | kit_is | kts_exm | k_exc | decide | rfl)
    (case ne_Written_Sheet => first | k_is | kit_is | kts_exm | k_exc | decide | rfl)
    (case nf_Written_NoneType => first | k_is | kit_is | kts_exm | k_exc | decide | rfl)
    (case nf_Written_bool => first | k_is | kit_is | kts_exm | k_exc | decide | rfl)
    (case nf_Written_int => first | k_is | kit_is | kts_exm | k_exc | decide | rfl)
    (case nf_Written_str => first | k_is | kit_is | kts_exm | k_exc | decide | rfl)
    (case nf_Written_list => first | k_is | kit_is | kts_exm | k_exc | decide | rfl)
    (case nf_Written_tuple => first | k_is | kit_is | kts_exm | k_exc | decide | rfl)
    (case nf_Written_dict => first | k_is | kit_is | kts_exm | k_exc | decide | rfl)
    (case ki_Written_NoneType => first | k_is | kit_is | kts_exm | k_exc | decide | rfl)
    (case ki_Written_bool => first | k_is | kit_is | kts_exm | k_exc | decide | rfl)
    (case ki_Written_int => first | k_is | kit_is | kts_exm | k_exc | decide | rfl)
    (case ki_Written_str => first | k_is | kit_is | kts_exm | k_exc | decide | rfl)
    (case ki_Written_list => first | k_is | kit_is | kts_exm | k_exc | decide | rfl)
    (case ki_Written_tuple => first | k_is | kit_is | kts_exm | k_exc | decide | rfl)
    (case ki_Written_dict => first | k_is | kit_is | kts_exm | k_exc | decide | rfl)
    (case x_InvalidColumn => first | k_is | kit_is | kts_exm | k_exc | decide | rfl)
    (case xk_InvalidColumn => first | k_is | kit_is | kts_exm | k_exc | decide | rfl)
    (case xb_InvalidColumn => first | k_is | kit_is | kts_exm | k_exc | decide | rfl)
    (case xt_InvalidColumn => first | k_is | kit_is | kts_exm | k_exc | decide | rfl)
    (case x_InvalidSheet => first | k_is | kit_is | kts_exm | k_exc | decide | rfl)
    (case xk_InvalidSheet => first | k_is | kit_is | kts_exm | k_exc | decide | rfl)
    (case xb_InvalidSheet => first | k_is | kit_is | kts_exm | k_exc | decide | rfl)
    (case xt_InvalidSheet => first | k_is | kit_is | kts_exm | k_exc | decide | rfl)
    (case nb_all => first | k_is | kit_is | kts_exm | k_exc | decide | rfl)
    (case nb_bool => first | k_is | kit_is | kts_exm | k_exc | decide | rfl)
    (case nb_int => first | k_is | kit_is | kts_exm | k_exc | decide | rfl)
    (case nb_isinstance => first | k_is | kit_is | kts_exm | k_exc | decide | rfl)
    (case nb_len => first | k_is | kit_is | kts_exm | k_exc | decide | rfl)
    (case nb_list => first | k_is | kit_is | kts_exm | k_exc | decide | rfl)
    (case nb_range => first | k_is | kit_is | kts_exm | k_exc | decide | rfl)
    (case nb_sum => first | k_is | kit_is | kts_exm | k_exc | decide | rfl)
    (case nb_tuple => first | k_is | kit_is | kts_exm | k_exc | decide | rfl)
    (case ak_MOST_BASE => first | k_is | kit_is | kts_exm | k_exc | decide | rfl)
    (case ak_MOST_ROWS => first | k_is | kit_is | kts_exm | k_exc | decide | rfl)
