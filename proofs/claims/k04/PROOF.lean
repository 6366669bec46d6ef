import PyProof.Rows.All
import Wide.All
import OpenK.AllK
import Wide.FinOn
import HandS.ForMost
import HandS.ForExc
import HandS.Style
import HandS.Property
import HandS.IsInst
import HandS.Wide
import HandS.ExcIs
import HandS.Star
import HandS.Deep
import HandS.TupAny
import KE.DataCmp
import KE.DatumOrd
import HandS.TupSets
import HandS.Zip
import HandS.Walk
import HandS.TryOnly
import PySem.Challenge.RW_sumslips_k04_sheets_cut_and_joined
set_option Elab.async false
set_option linter.all false
set_option maxRecDepth 100000
namespace SX
open PySem PySem.Spec L2
def Ex (H H' : Hp) : Prop := ∀ a o, H a = some o → H' a = some o
theorem Ex.refl (H : Hp) : Ex H H := fun _ _ h => h
theorem Ex.trans {H H1 H2 : Hp} (a : Ex H H1) (b : Ex H1 H2) : Ex H H2 := fun x o h => b x o (a x o h)
theorem Ex.new {H : Hp} {p : Addr} {o : HO} (h : H p = none) : Ex H (upd H p o) := fun a u e => by
  rw [upd_ne (ne_of_none e h)]
  exact e
abbrev Mem := List (Addr × HO)
structure Me (G : Hp) (M : Mem) (H : Hp) : Prop where
  ex : Ex G H
  at_ : ∀ p ∈ M, H p.1 = some p.2 ∧ G p.1 = none
  nd : (M.map (·.1)).Nodup
section
variable {G G' H : Hp} {M M' F : Mem} {p q : Addr} {o o' : HO} {i : Nat}
theorem Me.get (m : Me G M H) (h : M[i]? = some (p, o)) : H p = some o := (m.at_ _ (List.mem_of_getElem? h)).1
theorem get_app (h : M[i]? = some (p, o)) : (M ++ F)[i]? = some (p, o) := by
  rw [List.getElem?_append_left (List.getElem?_eq_some_iff.mp h).1]
  exact h
theorem Me.getF (m : Me G (M ++ F) H) (h : M[i]? = some (p, o)) : H p = some o := m.get (get_app h)
theorem Me.free (m : Me G M H) (h : H p = none) : G p = none := by
  cases e : G p with
  | none => rfl
  | some u =>
    rw [m.ex p u e] at h
    cases h
theorem Me.notin (m : Me G M H) (h : H p = none) : p ∉ M.map (·.1) := fun z => by
  obtain ⟨x, hx, e⟩ := List.mem_map.mp z
  have := (m.at_ x hx).1
  rw [e, h] at this
  cases this
theorem Me.new (m : Me G M H) (h : H p = none) : Me G M (upd H p o) :=
  ⟨m.ex.trans (Ex.new h), fun x hx => ⟨by rw [upd_ne (ne_of_none (m.at_ x hx).1 h)]; exact (m.at_ x hx).1, (m.at_ x hx).2⟩, m.nd⟩
theorem Me.newF (m : Me G M H) (h : H p = none) : Me (upd G p o) M (upd H p o) :=
  ⟨fun a u e => by
    by_cases ha : a = p
    · subst ha
      rw [upd_same] at e ⊢
      exact e
    · rw [upd_ne ha] at e ⊢
      exact m.ex a u e, fun x hx => by
    have hne : x.1 ≠ p := ne_of_none (m.at_ x hx).1 h
    rw [upd_ne hne, upd_ne hne]
    exact m.at_ x hx, m.nd⟩
theorem Me.sub (m : Me G M H) (h : M'.Sublist M) : Me G M' H := ⟨m.ex, fun x hx => m.at_ x (h.subset hx), (m.nd.sublist (h.map _))⟩
theorem Me.perm (m : Me G M H) (h : M'.Perm M) : Me G M' H := ⟨m.ex, fun x hx => m.at_ x (h.mem_iff.mp hx), (h.map _).nodup_iff.mpr m.nd⟩
theorem Me.newM (m : Me G M H) (h : H p = none) : Me G ((p, o) :: M) (upd H p o) :=
  ⟨(m.new h).ex, fun x hx => by
    rcases List.mem_cons.mp hx with rfl | hx
    · exact ⟨upd_same, m.free h⟩
    · exact (m.new h).at_ x hx, List.nodup_cons.mpr ⟨m.notin h, m.nd⟩⟩
theorem Me.newMid (m : Me G (M ++ F) H) (h : H p = none) : Me G ((M ++ [(p, o)]) ++ F) (upd H p o) :=
  (m.newM h).perm (by rw [List.append_assoc]; exact List.perm_middle)
theorem Me.put (m : Me G M H) (h : M[i]? = some (p, o)) : Me G (M.set i (p, o')) (upd H p o') := by
  obtain ⟨hi, e⟩ := List.getElem?_eq_some_iff.mp h
  have hk : (M.set i (p, o')).map (·.1) = M.map (·.1) := by
    rw [List.map_set]
    apply List.ext_getElem?
    intro j
    rw [List.getElem?_set]
    split
    · rename_i hj
      subst hj
      rw [if_pos (by rw [List.length_map]; exact hi), List.getElem?_map, h]
      rfl
    · rfl
  have gp : G p = none := (m.at_ _ (List.mem_of_getElem? h)).2
  refine ⟨fun a u ea => ?_, fun x hx => ?_, by rw [hk]; exact m.nd⟩
  · rw [upd_ne (ne_of_none ea gp)]
    exact m.ex a u ea
  · obtain ⟨j, hj, ej⟩ := List.mem_iff_getElem.mp hx
    rw [List.length_set] at hj
    rw [List.getElem_set] at ej
    by_cases hij : i = j
    · rw [if_pos hij] at ej
      subst ej
      exact ⟨upd_same, gp⟩
    · rw [if_neg hij] at ej
      subst ej
      have hne : M[j].1 ≠ p := fun z => by
        have n := m.nd
        rw [List.nodup_iff_pairwise_ne] at n
        have := List.pairwise_iff_getElem.mp n
        rcases Nat.lt_or_gt_of_ne hij with l | l
        · have q := this i j (by rw [List.length_map]; exact hi) (by rw [List.length_map]; exact hj) l
          rw [List.getElem_map, List.getElem_map, e] at q
          exact q z.symm
        · have q := this j i (by rw [List.length_map]; exact hj) (by rw [List.length_map]; exact hi) l
          rw [List.getElem_map, List.getElem_map, e] at q
          exact q z
      rw [upd_ne hne]
      exact m.at_ _ (List.getElem_mem hj)
theorem set_app {x : Addr × HO} (h : i < M.length) : (M ++ F).set i x = M.set i x ++ F := by
  rw [List.set_append, if_pos h]
theorem Me.putF (m : Me G (M ++ F) H) (h : M[i]? = some (p, o)) : Me G (M.set i (p, o') ++ F) (upd H p o') := by
  rw [← set_app (List.getElem?_eq_some_iff.mp h).1]
  exact m.put (get_app h)
/-- what is owned is frozen -/
theorem Me.freeze (m : Me G ((p, o) :: M) H) : Me (upd G p o) M H ∧ Ex G (upd G p o) := by
  have gp := (m.at_ _ (List.mem_cons_self)).2
  have hp := (m.at_ _ (List.mem_cons_self)).1
  have nd := List.nodup_cons.mp m.nd
  refine ⟨⟨fun a u e => ?_, fun x hx => ?_, nd.2⟩, Ex.new gp⟩
  · by_cases ha : a = p
    · subst ha
      rw [upd_same] at e
      cases e
      exact hp
    · rw [upd_ne ha] at e
      exact m.ex a u e
  · refine ⟨(m.at_ x (List.mem_cons_of_mem _ hx)).1, ?_⟩
    have hne : x.1 ≠ p := fun z => nd.1 (List.mem_map.mpr ⟨x, hx, z⟩)
    rw [upd_ne hne]
    exact (m.at_ x (List.mem_cons_of_mem _ hx)).2
theorem Me.freezeMid (m : Me G (M ++ (p, o) :: F) H) : Me (upd G p o) (M ++ F) H ∧ Ex G (upd G p o) := (m.perm List.perm_middle.symm).freeze
theorem Me.freezeLast (m : Me G ((M ++ [(p, o)]) ++ F) H) : Me (upd G p o) (M ++ F) H ∧ Ex G (upd G p o) := by
  rw [List.append_assoc] at m
  exact m.freezeMid
theorem Me.dropLast (m : Me G ((M ++ M') ++ F) H) : Me G (M ++ F) H := m.sub (by
  rw [List.append_assoc]
  exact List.Sublist.append_left (List.sublist_append_right _ _) _)
end
section
variable {K : PySem.W.Frag} {G G' H : Hp}
theorem ex_rd {a : Addr} {u : HO} (e : Ex G G') (h : Rd G a u) : Rd G' a u := by
  rcases h with h | ⟨o, h⟩
  · exact .inl (e a _ h)
  · exact .inr ⟨o, e a _ h⟩
theorem ex_l {a : Addr} {xs : List V} (e : Ex G G') (h : SqL K G a xs) : SqL K G' a xs := by
  rcases h with h | h
  · exact .inl (ex_rd e h)
  · exact .inr h
theorem ex_t {a : Addr} {xs : List V} (e : Ex G G') (h : SqT K G a xs) : SqT K G' a xs := by
  rcases h with h | h
  · exact .inl (ex_rd e h)
  · exact .inr h
mutual
theorem Dp.ex (e : Ex G G') : ∀ (d : PyData) (v : V), Dp K G v d → Dp K G' v d
  | .none, _, h => by cases h; exact .non
  | .bool b, _, h => by cases h; exact .bl b
  | .int i, _, h => by cases h; exact .int i
  | .str x, _, h => by cases h; exact .str x
  | .list ds, _, h => by
    cases h with
    | lst hs ha => exact .lst (ex_l e hs) (DpAll.ex e ds _ ha)
  | .tuple ds, _, h => by
    cases h with
    | tup hs ha => exact .tup (ex_t e hs) (DpAll.ex e ds _ ha)
  | .dict _, _, h => by cases h
theorem DpAll.ex (e : Ex G G') : ∀ (ds : List PyData) (vs : List V), DpAll K G vs ds → DpAll K G' vs ds
  | [], _, h => by cases h; exact .nil
  | d :: ds, _, h => by
    cases h with
    | cons h1 h2 => exact .cons (Dp.ex e d _ h1) (DpAll.ex e ds _ h2)
end
theorem dm {v : V} {d : PyData} (h : Dp K G v d) (e : Ex G G') : Dp K G' v d := Dp.ex e d v h
theorem dma {vs : List V} {ds : List PyData} (h : DpAll K G vs ds) (e : Ex G G') : DpAll K G' vs ds := DpAll.ex e ds vs h
theorem dpa_len : ∀ {vs : List V} {ds : List PyData}, DpAll K G vs ds → vs.length = ds.length
  | _, [], h => by cases h; rfl
  | _, d :: ds, h => by
    cases h with
    | cons _ h2 => simp [dpa_len h2]
theorem dpa_at : ∀ {vs : List V} {ds : List PyData} {i : Nat} {d : PyData}, DpAll K G vs ds → ds[i]? = some d → ∃ v, vs[i]? = some v ∧ Dp K G v d
  | _, [], _, _, _, e => by simp at e
  | _, d :: ds, 0, _, h, e => by
    cases h with
    | cons h1 _ => exact ⟨_, rfl, by have := Option.some.inj e; rw [← this]; exact h1⟩
  | _, d :: ds, i + 1, _, h, e => by
    cases h with
    | cons _ h2 => exact dpa_at (i := i) h2 e
theorem dpa_atV : ∀ {vs : List V} {ds : List PyData} {i : Nat} {v : V}, DpAll K G vs ds → vs[i]? = some v → ∃ d, ds[i]? = some d ∧ Dp K G v d
  | _, [], _, _, h, e => by cases h; simp at e
  | _, d :: ds, 0, _, h, e => by
    cases h with
    | cons h1 _ => exact ⟨_, rfl, by have := Option.some.inj e; rw [← this]; exact h1⟩
  | _, d :: ds, i + 1, _, h, e => by
    cases h with
    | cons _ h2 => exact dpa_atV (i := i) h2 e
theorem dpa_app : ∀ {vs ws : List V} {ds es : List PyData}, DpAll K G vs ds → DpAll K G ws es → DpAll K G (vs ++ ws) (ds ++ es)
  | _, _, [], _, h, h' => by cases h; exact h'
  | _, _, d :: ds, _, h, h' => by
    cases h with
    | cons h1 h2 => exact .cons h1 (dpa_app h2 h')
theorem dp_int {v : V} {n : Int} (h : Dp K G v (.int n)) : v = .int n := by cases h; rfl
theorem dp_bl {v : V} {n : Bool} (h : Dp K G v (.bool n)) : v = .bl n := by cases h; rfl
theorem dp_tup {v : V} {ds : List PyData} (h : Dp K G v (.tuple ds)) : ∃ a xs, v = .ref a ∧ SqT K G a xs ∧ DpAll K G xs ds := by
  cases h with
  | tup a b => exact ⟨_, _, rfl, a, b⟩
theorem dp_lst {v : V} {ds : List PyData} (h : Dp K G v (.list ds)) : ∃ a xs, v = .ref a ∧ SqL K G a xs ∧ DpAll K G xs ds := by
  cases h with
  | lst a b => exact ⟨_, _, rfl, a, b⟩
theorem dpAll_ints : ∀ {vs : List V} {ns : List Int}, DpAll K G vs (ns.map .int) → vs = ns.map V.int
  | _, [], h => by cases h; rfl
  | _, n :: ns, h => by
    cases h with
    | cons h1 h2 => rw [dp_int h1, dpAll_ints h2]; rfl
theorem ints_dpAll : ∀ (ns : List Int), DpAll K G (ns.map V.int) (ns.map .int)
  | [] => .nil
  | n :: ns => .cons (.int n) (ints_dpAll ns)
theorem dpAll_bls : ∀ {vs : List V} {ns : List Bool}, DpAll K G vs (ns.map .bool) → vs = ns.map V.bl
  | _, [], h => by cases h; rfl
  | _, n :: ns, h => by
    cases h with
    | cons h1 h2 => rw [dp_bl h1, dpAll_bls h2]; rfl
end
end SX
set_option Elab.async false
set_option linter.all false
set_option maxRecDepth 100000
namespace SX
open PySem PySem.Spec L2
abbrev Post := Hp → V → Mem → Prop
abbrev isP (P : Hp → V → Prop) (M : Mem) : Post := fun G v M' => P G v ∧ M' = M
abbrev isV (x : V) (M : Mem) : Post := isP (fun _ v => v = x) M
abbrev isD (K : PySem.W.Frag) (d : PyData) (M : Mem) : Post := isP (fun G v => Dp K G v d) M
def Ev (te : TE) (σ : St) (G : Hp) (M : Mem) (R : Post) : Prop := ∀ G1 H F, Ex G G1 → Me G1 (M ++ F) H → ∀ Q : VK, (∀ v G2 M2 H2, Ex G1 G2 → Me G2 (M2 ++ F) H2 → R G2 v M2 → Q v H2) → te σ H Q
def EvT (tt : TT) (σ : St) (G : Hp) (M : Mem) (b : Bool) (M' : Mem) : Prop := ∀ G1 H F, Ex G G1 → Me G1 (M ++ F) H → ∀ Q : Bool → Hp → Prop, (∀ G2 H2, Ex G1 G2 → Me G2 (M' ++ F) H2 → Q b H2) → tt σ H Q
def AllP (G : Hp) : List (Hp → V → Prop) → List V → Prop
  | [], [] => True
  | P :: Ps, v :: vs => P G v ∧ AllP G Ps vs
  | _, _ => False
def EvA (ta : TA) (σ : St) (G : Hp) (M : Mem) (Ps : List (Hp → V → Prop)) (M' : Mem) : Prop := ∀ G1 H F, Ex G G1 → Me G1 (M ++ F) H → ∀ Q : List V → Hp → Prop, (∀ vs G2 H2, Ex G1 G2 → Me G2 (M' ++ F) H2 → AllP G2 Ps vs → Q vs H2) → ta σ H Q
class Mono (P : Hp → V → Prop) : Prop where
  mono : ∀ G G' v, Ex G G' → P G v → P G' v
instance {x : V} : Mono (fun _ v => v = x) := ⟨fun _ _ _ _ h => h⟩
instance {K : PySem.W.Frag} {d : PyData} : Mono (fun G v => Dp K G v d) := ⟨fun _ _ _ e h => dm h e⟩
/-- what stands at an address, whoever owns it -/
def At (G : Hp) (M : Mem) (a : Addr) (o : HO) : Prop := ∀ G1 H F, Ex G G1 → Me G1 (M ++ F) H → H a = some o
theorem At.G {G : Hp} {M : Mem} {a : Addr} {o : HO} (h : G a = some o) : At G M a o := fun _ _ _ e m => m.ex _ _ (e _ _ h)
theorem At.M {G : Hp} {M : Mem} {a : Addr} {o : HO} {i : Nat} (h : M[i]? = some (a, o)) : At G M a o := fun _ _ _ _ m => m.getF h
theorem At.ex {G G' : Hp} {M : Mem} {a : Addr} {o : HO} (h : At G M a o) (e : Ex G G') : At G' M a o := fun G1 H F e1 m => h G1 H F (e.trans e1) m
def AtL (K : PySem.W.Frag) (G : Hp) (M : Mem) (a : Addr) (xs : List V) : Prop := ∀ G1 H F, Ex G G1 → Me G1 (M ++ F) H → SqL K H a xs
def AtT (K : PySem.W.Frag) (G : Hp) (M : Mem) (a : Addr) (xs : List V) : Prop := ∀ G1 H F, Ex G G1 → Me G1 (M ++ F) H → SqT K H a xs
theorem AtL.of {K : PySem.W.Frag} {G : Hp} {M : Mem} {a : Addr} {xs : List V} (h : At G M a (.lst xs)) : AtL K G M a xs := fun _ _ _ e m => SqL.of (h _ _ _ e m)
theorem AtL.M {K : PySem.W.Frag} {G : Hp} {M : Mem} {a : Addr} {xs : List V} {i : Nat} (h : M[i]? = some (a, .lst xs)) : AtL K G M a xs := .of (.M h)
theorem AtL.G {K : PySem.W.Frag} {G : Hp} {M : Mem} {a : Addr} {xs : List V} (h : SqL K G a xs) : AtL K G M a xs := fun _ _ _ e m => ex_l m.ex (ex_l e h)
theorem AtT.G {K : PySem.W.Frag} {G : Hp} {M : Mem} {a : Addr} {xs : List V} (h : SqT K G a xs) : AtT K G M a xs := fun _ _ _ e m => ex_t m.ex (ex_t e h)
theorem AtL.ex {K : PySem.W.Frag} {G G' : Hp} {M : Mem} {a : Addr} {xs : List V} (h : AtL K G M a xs) (e : Ex G G') : AtL K G' M a xs := fun G1 H F e1 m => h G1 H F (e.trans e1) m
section
variable {K : PySem.W.Frag} {σ : St} {G G' H : Hp} {M M1 M2 M3 F : Mem} {R : Post} {ta tb tc te : TE} {tt tu : TT} {x y z : V} {d e : PyData} {a b c : Bool} {i j : Int} {P P1 P2 : Hp → V → Prop} {Ps : List (Hp → V → Prop)}
theorem Ev.mono (h : Ev te σ G M R) (e : Ex G G') : Ev te σ G' M R := fun G1 H F e1 m Q q => h G1 H F (e.trans e1) m Q q
theorem EvT.mono (h : EvT tt σ G M a M1) (e : Ex G G') : EvT tt σ G' M a M1 := fun G1 H F e1 m Q q => h G1 H F (e.trans e1) m Q q
theorem Ev.imp {R' : Post} (h : Ev te σ G M R) (f : ∀ G1 v M1, Ex G G1 → R G1 v M1 → R' G1 v M1) : Ev te σ G M R' := fun G1 H F e m Q q => h G1 H F e m Q fun v G2 M2 H2 e2 m2 r => q v G2 M2 H2 e2 m2 (f _ _ _ (e.trans e2) r)
theorem Ev.impP (h : Ev te σ G M (isP P M1)) (f : ∀ G1 v, Ex G G1 → P G1 v → P1 G1 v) : Ev te σ G M (isP P1 M1) := h.imp fun G1 v M2 e r => ⟨f _ _ e r.1, r.2⟩
theorem ev_var {k : Nat} (h : σ[k]? = some (some x)) : Ev (tVar k) σ G M (isV x M) := fun _ _ _ _ m _ q => ⟨x, h, q x _ _ _ (Ex.refl _) m ⟨rfl, rfl⟩⟩
theorem ev_varP {k : Nat} [Mono P] (h : σ[k]? = some (some x)) (hp : P G x) : Ev (tVar k) σ G M (isP P M) := fun _ _ _ e m _ q => ⟨x, h, q x _ _ _ (Ex.refl _) m ⟨Mono.mono _ _ _ e hp, rfl⟩⟩
theorem ev_c : Ev (tC x) σ G M (isV x M) := fun _ _ _ _ m _ q => q x _ _ _ (Ex.refl _) m ⟨rfl, rfl⟩
theorem Ev.toD (h : Ev te σ G M (isV x M1)) (hd : ∀ G, Dp K G x d) : Ev te σ G M (isD K d M1) := h.impP fun G1 v _ e => by
  rw [e]
  exact hd G1
theorem ev_dI (h : Ev te σ G M (isD K (.int i) M1)) : Ev te σ G M (isV (.int i) M1) := h.impP fun _ _ _ e => dp_int e
theorem ev_iD (h : Ev te σ G M (isV (.int i) M1)) : Ev te σ G M (isD K (.int i) M1) := h.toD fun _ => .int i
theorem ev_bD (h : Ev te σ G M (isV (.bl a) M1)) : Ev te σ G M (isD K (.bool a) M1) := h.toD fun _ => .bl a
/-- one value, then another, then an operation on both -/
theorem ev_op {r : R2} [Mono P1] (h1 : Ev ta σ G M (isP P1 M1)) (h2 : Ev tb σ G M1 (isP P2 M2))
    (hr : ∀ G1 H F x y, Ex G G1 → Me G1 (M2 ++ F) H → P1 G1 x → P2 G1 y → ∀ Q : VK, (∀ v G2 M3 H2, Ex G1 G2 → Me G2 (M3 ++ F) H2 → R G2 v M3 → Q v H2) → r x y H Q) : Ev (tOp r ta tb) σ G M R := fun G1 H F e m Q q =>
  h1 G1 H F e m _ fun x G2 M2' H2 e2 m2 r1 => by
    obtain ⟨p1, rfl⟩ := r1
    refine h2 G2 H2 F (e.trans e2) m2 _ fun y G3 M3' H3 e3 m3 r2 => ?_
    obtain ⟨p2, rfl⟩ := r2
    exact hr G3 H3 F x y ((e.trans e2).trans e3) m3 (Mono.mono _ _ _ e3 p1) p2 Q fun v G4 M4 H4 e4 m4 r4 => q v G4 M4 H4 ((e2.trans e3).trans e4) m4 r4
/-- an operation of two values that leaves the heap -/
theorem ev_opV {r : R2} (h1 : Ev ta σ G M (isV x M1)) (h2 : Ev tb σ G M1 (isV y M2)) (hr : ∀ H (Q : VK), Q z H → r x y H Q) : Ev (tOp r ta tb) σ G M (isV z M2) :=
  ev_op h1 h2 fun G1 H F x' y' e m p1 p2 Q q => by
    subst p1 p2
    exact hr H Q (q z G1 _ H (Ex.refl _) m ⟨rfl, rfl⟩)
theorem ev_I0 {g : Int → Int → V} (h1 : Ev ta σ G M (isV (.int i) M1)) (h2 : Ev tb σ G M1 (isV (.int j) M2)) : Ev (tOp (rI0 g) ta tb) σ G M (isV (g i j) M2) := ev_opV h1 h2 fun H Q q => ⟨i, j, rfl, rfl, q⟩
theorem ev_I {C : Int → Int → Prop} {g : Int → Int → V} (h1 : Ev ta σ G M (isV (.int i) M1)) (h2 : Ev tb σ G M1 (isV (.int j) M2)) (hc : C i j) : Ev (tOp (rI C g) ta tb) σ G M (isV (g i j) M2) := ev_opV h1 h2 fun H Q q => ⟨i, j, rfl, rfl, hc, q⟩
theorem ev_eqI (h1 : Ev ta σ G M (isV (.int i) M1)) (h2 : Ev tb σ G M1 (isV (.int j) M2)) : Ev (tOp rEq ta tb) σ G M (isV (.bl (decide (i = j))) M2) :=
  ev_opV h1 h2 fun H Q q => ⟨rfl, by rw [show decide (V.int i = V.int j) = decide (i = j) by rw [decide_eq_decide]; exact ⟨fun h => by cases h; rfl, fun h => by rw [h]⟩]; exact q⟩
theorem ev_neI (h1 : Ev ta σ G M (isV (.int i) M1)) (h2 : Ev tb σ G M1 (isV (.int j) M2)) : Ev (tOp rNe ta tb) σ G M (isV (.bl (!decide (i = j))) M2) :=
  ev_opV h1 h2 fun H Q q => ⟨rfl, by rw [show decide (V.int i = V.int j) = decide (i = j) by rw [decide_eq_decide]; exact ⟨fun h => by cases h; rfl, fun h => by rw [h]⟩]; exact q⟩
theorem ev_eqD (h1 : Ev ta σ G M (isD K d M1)) (h2 : Ev tb σ G M1 (isD K e M2)) (s1 : SeqAt.shaped d = true) (s2 : SeqAt.shaped e = true) : Ev (tOp (rEqD K) ta tb) σ G M (isV (.bl (PyData.eqv d e)) M2) :=
  ev_op h1 h2 fun G1 H F x' y' ex m p1 p2 Q q => ⟨d, e, dm p1 m.ex, dm p2 m.ex, s1, s2, q _ G1 _ H (Ex.refl _) m ⟨rfl, rfl⟩⟩
theorem ev_neD (h1 : Ev ta σ G M (isD K d M1)) (h2 : Ev tb σ G M1 (isD K e M2)) (s1 : SeqAt.shaped d = true) (s2 : SeqAt.shaped e = true) : Ev (tOp (rNeD K) ta tb) σ G M (isV (.bl (!PyData.eqv d e)) M2) :=
  ev_op h1 h2 fun G1 H F x' y' ex m p1 p2 Q q => ⟨d, e, dm p1 m.ex, dm p2 m.ex, s1, s2, q _ G1 _ H (Ex.refl _) m ⟨rfl, rfl⟩⟩
theorem et_test (h : Ev te σ G M (isV (.bl a) M1)) : EvT (tTest te) σ G M a M1 := fun G1 H F e m Q q => h G1 H F e m _ fun v G2 M2 H2 e2 m2 r => by
  obtain ⟨rfl, rfl⟩ := r
  exact ⟨a, rfl, q G2 H2 e2 m2⟩
theorem et_B (h : Ev te σ G M (isV (.bl a) M1)) : EvT (tB te) σ G M a M1 := fun G1 H F e m Q q => h G1 H F e m _ fun v G2 M2 H2 e2 m2 r => by
  obtain ⟨rfl, rfl⟩ := r
  exact ⟨a, rfl, q G2 H2 e2 m2⟩
theorem et_not (h : EvT tt σ G M a M1) : EvT (tNot tt) σ G M (!a) M1 := fun G1 H F e m Q q => h G1 H F e m _ fun G2 H2 e2 m2 => q G2 H2 e2 m2
theorem et_or (h1 : EvT tt σ G M a M1) (h2 : a = false → EvT tu σ G M1 b M1) : EvT (tOr tt tu) σ G M (a || b) M1 := fun G1 H F e m Q q => h1 G1 H F e m _ fun G2 H2 e2 m2 => by
  cases a with
  | true =>
    show (if true = true then _ else _)
    rw [if_pos rfl]
    exact q G2 H2 e2 m2
  | false =>
    show (if false = true then _ else _)
    rw [if_neg Bool.false_ne_true]
    exact h2 rfl G2 H2 F (e.trans e2) m2 Q fun G3 H3 e3 m3 => q G3 H3 (e2.trans e3) m3
theorem ev_andV (h1 : Ev ta σ G M (isV (.bl a) M1)) (h2 : a = true → Ev tb σ G M1 (isV (.bl b) M1)) : Ev (tAndV ta tb) σ G M (isV (.bl (a && b)) M1) := fun G1 H F e m Q q => h1 G1 H F e m _ fun v G2 M2 H2 e2 m2 r => by
  obtain ⟨rfl, rfl⟩ := r
  refine ⟨a, rfl, ?_⟩
  cases a with
  | true =>
    rw [if_pos rfl]
    exact h2 rfl G2 H2 F (e.trans e2) m2 Q fun v G3 M3 H3 e3 m3 r3 => q v G3 M3 H3 (e2.trans e3) m3 r3
  | false =>
    rw [if_neg Bool.false_ne_true]
    exact q _ G2 _ H2 e2 m2 ⟨rfl, rfl⟩
theorem ev_orV (h1 : Ev ta σ G M (isV (.bl a) M1)) (h2 : a = false → Ev tb σ G M1 (isV (.bl b) M1)) : Ev (tOrV ta tb) σ G M (isV (.bl (a || b)) M1) := fun G1 H F e m Q q => h1 G1 H F e m _ fun v G2 M2 H2 e2 m2 r => by
  obtain ⟨rfl, rfl⟩ := r
  refine ⟨a, rfl, ?_⟩
  cases a with
  | true =>
    rw [if_pos rfl]
    exact q _ G2 _ H2 e2 m2 ⟨rfl, rfl⟩
  | false =>
    rw [if_neg Bool.false_ne_true]
    exact h2 rfl G2 H2 F (e.trans e2) m2 Q fun v G3 M3 H3 e3 m3 r3 => q v G3 M3 H3 (e2.trans e3) m3 r3
theorem ev_notV (h1 : Ev ta σ G M (isV (.bl a) M1)) : Ev (tNotV ta) σ G M (isV (.bl (!a)) M1) := fun G1 H F e m Q q => h1 G1 H F e m _ fun v G2 M2 H2 e2 m2 r => by
  obtain ⟨rfl, rfl⟩ := r
  exact ⟨a, rfl, q _ G2 _ H2 e2 m2 ⟨rfl, rfl⟩⟩
/-- i <= x <= j -/
theorem ev_chainI {r r' : R2} {P P' : Int → Int → Bool} {k : Int} (h1 : Ev ta σ G M (isV (.int i) M1)) (h2 : Ev tb σ G M1 (isV (.int j) M2)) (h3 : Ev tc σ G M2 (isV (.int k) M2))
    (hr : ∀ H (Q : VK), Q (.bl (P i j)) H → r (.int i) (.int j) H Q) (hr' : ∀ H (Q : VK), Q (.bl (P' j k)) H → r' (.int j) (.int k) H Q) : Ev (tChain r r' ta tb tc) σ G M (isV (.bl (P i j && P' j k)) M2) := fun G1 H F e m Q q =>
  h1 G1 H F e m _ fun v G2 M2' H2 e2 m2 r2 => by
    obtain ⟨rfl, rfl⟩ := r2
    refine h2 G2 H2 F (e.trans e2) m2 _ fun v G3 M3' H3 e3 m3 r3 => ?_
    obtain ⟨rfl, rfl⟩ := r3
    refine hr _ _ ⟨_, rfl, ?_⟩
    generalize P i j = pij at q ⊢
    cases pij with
    | true =>
      show (if true = true then _ else _)
      rw [if_pos rfl]
      refine h3 G3 H3 F ((e.trans e2).trans e3) m3 _ fun v G4 M4' H4 e4 m4 r4 => ?_
      obtain ⟨rfl, rfl⟩ := r4
      exact hr' _ _ (q _ G4 _ H4 ((e2.trans e3).trans e4) m4 ⟨by rw [Bool.true_and], rfl⟩)
    | false =>
      show (if false = true then _ else _)
      rw [if_neg Bool.false_ne_true]
      exact q _ G3 _ H3 (e2.trans e3) m3 ⟨by rw [Bool.false_and], rfl⟩
theorem ea_nil : EvA tNil σ G M [] M := fun _ _ _ _ m _ q => q [] _ _ (Ex.refl _) m trivial
theorem ea_cons {tr : TA} [Mono P] (h1 : Ev ta σ G M (isP P M1)) (h2 : EvA tr σ G M1 Ps M2) : EvA (tCons ta tr) σ G M (P :: Ps) M2 := fun G1 H F e m Q q =>
  h1 G1 H F e m _ fun v G2 M2' H2 e2 m2 r => by
    obtain ⟨p, rfl⟩ := r
    exact h2 G2 H2 F (e.trans e2) m2 _ fun vs G3 H3 e3 m3 a => q (v :: vs) G3 H3 (e2.trans e3) m3 ⟨Mono.mono _ _ _ e3 p, a⟩
/-- data from arguments -/
theorem allD : ∀ {ds : List PyData} {vs : List V}, AllP G (ds.map fun d => fun G v => Dp K G v d) vs → DpAll K G vs ds
  | [], [], _ => .nil
  | [], _ :: _, h => h.elim
  | _ :: _, [], h => h.elim
  | _ :: _, _ :: _, h => .cons h.1 (allD h.2)
theorem ev_ixL {p : Addr} {xs : List V} (h1 : Ev ta σ G M (isV (.ref p) M1)) (h2 : Ev tb σ G M1 (isV (.int i) M2)) (hL : AtL K G M2 p xs) (hx : atI xs i = some x) : Ev (tOp (rIxL K) ta tb) σ G M (isV x M2) :=
  ev_op h1 h2 fun G1 H F x' y' e m p1 p2 Q q => by
    subst p1 p2
    exact ⟨p, xs, i, x, rfl, rfl, hL G1 H F e m, hx, q _ _ _ _ (Ex.refl _) m ⟨rfl, rfl⟩⟩
theorem ev_ixDL {ds : List PyData} (h1 : Ev ta σ G M (isD K (.list ds) M1)) (h2 : Ev tb σ G M1 (isV (.int i) M2)) (hx : atI ds i = some d) : Ev (tOp (rIxL K) ta tb) σ G M (isD K d M2) :=
  ev_op h1 h2 fun G1 H F x' y' e m p1 p2 Q q => by
    subst p2
    obtain ⟨a, xs, rfl, hs, ha⟩ := dp_lst p1
    unfold atI at hx
    obtain ⟨k, hk, hd⟩ := Option.bind_eq_some_iff.mp hx
    obtain ⟨v, hv, dv⟩ := dpa_at ha hd
    exact ⟨a, xs, i, v, rfl, rfl, ex_l m.ex hs, by unfold atI; rw [dpa_len ha, hk]; exact hv, q _ _ _ _ (Ex.refl _) m ⟨dv, rfl⟩⟩
theorem ev_fld {p C dx : Addr} {fs : List (Str × V)} {f : Str} (h1 : Ev ta σ G M (isV (.ref p) M1)) (ha : At G M1 p (.ins C dx fs)) (hc : Cls K C) (hn : NoAttr K C f) (hl : fs.lookup f = some x) : Ev (tFld K ta f) σ G M (isV x M1) := fun G1 H F e m Q q =>
  h1 G1 H F e m _ fun v G2 M2' H2 e2 m2 r => by
    obtain ⟨rfl, rfl⟩ := r
    exact ⟨p, C, dx, fs, x, rfl, ha G2 H2 F (e.trans e2) m2, hc, hn, hl, q _ _ _ _ e2 m2 ⟨rfl, rfl⟩⟩
/-- a promise over the symbolic heap -/
def spec {α : Type} (pre : α → Hp → Mem → List V → Prop) (post : α → Mem → Post) : Sp := fun vs H Q _ => ∃ x G M F, Me G (M ++ F) H ∧ pre x G M vs ∧ ∀ v G' M' H', Ex G G' → Me G' (M' ++ F) H' → post x M G' v M' → Q v H'
theorem ev_call {α : Type} {pre : α → Hp → Mem → List V → Prop} {post : α → Mem → Post} {t : TA} {E : XK} (xx : α) (h : EvA t σ G M Ps M1) (hp : ∀ G1 vs, Ex G G1 → AllP G1 Ps vs → pre xx G1 M1 vs) : Ev (tCall (spec pre post) [] E t) σ G M (post xx M1) := fun G1 H F e m Q q =>
  h G1 H F e m _ fun vs G2 H2 e2 m2 a => ⟨xx, G2, M1, F, m2, by rw [List.append_nil]; exact hp G2 vs (e.trans e2) a, fun v G' M' H' e' m' r => q v G' M' H' (e2.trans e') m' r⟩
theorem ev_meth {α : Type} {pre : α → Hp → Mem → List V → Prop} {post : α → Mem → Post} {t : TA} {E : XK} {C p dx : Addr} {m : Str} {fs : List (Str × V)} (xx : α) (h1 : Ev ta σ G M (isV (.ref p) M1)) (ha : At G M1 p (.ins C dx fs)) (hl : fs.lookup m = none)
    (h : EvA t σ G M1 Ps M2) (hp : ∀ G1 vs, Ex G G1 → AllP G1 Ps vs → pre xx G1 M2 (.ref p :: vs)) : Ev (tMeth C m (spec pre post) [] E ta t) σ G M (post xx M2) := fun G1 H F e mm Q q =>
  h1 G1 H F e mm _ fun v G2 M2' H2 e2 m2 r => by
    obtain ⟨rfl, rfl⟩ := r
    refine ⟨p, dx, fs, rfl, ha G2 H2 F (e.trans e2) m2, hl, h G2 H2 F (e.trans e2) m2 _ fun vs G3 H3 e3 m3 a => ?_⟩
    exact ⟨xx, G3, M2, F, m3, by rw [List.append_nil]; exact hp G3 vs ((e.trans e2).trans e3) a, fun v G' M' H' e' m' r => q v G' M' H' ((e2.trans e3).trans e') m' r⟩
theorem ev_prop {α : Type} {pre : α → Hp → Mem → List V → Prop} {post : α → Mem → Post} {E : XK} {C p dx : Addr} {fs : List (Str × V)} (xx : α) (h1 : Ev ta σ G M (isV (.ref p) M1)) (ha : At G M1 p (.ins C dx fs))
    (hp : ∀ G1, Ex G G1 → pre xx G1 M1 [.ref p]) : Ev (tProp C (spec pre post) [] E ta) σ G M (post xx M1) := fun G1 H F e mm Q q =>
  h1 G1 H F e mm _ fun v G2 M2' H2 e2 m2 r => by
    obtain ⟨rfl, rfl⟩ := r
    exact ⟨p, dx, fs, rfl, ha G2 H2 F (e.trans e2) m2, xx, G2, M2', F, m2, hp G2 (e.trans e2), fun v G' M' H' e' m' r => q v G' M' H' (e2.trans e') m' r⟩
/-- a built-in by its values -/
theorem ev_CB {r : List V → Hp → VK → Prop} {t : TA} (h : EvA t σ G M Ps M1)
    (hr : ∀ G1 H F vs, Ex G G1 → Me G1 (M1 ++ F) H → AllP G1 Ps vs → ∀ Q : VK, (∀ v G2 M3 H2, Ex G1 G2 → Me G2 (M3 ++ F) H2 → R G2 v M3 → Q v H2) → r vs H Q) : Ev (tCB r t) σ G M R := fun G1 H F e m Q q =>
  h G1 H F e m _ fun vs G2 H2 e2 m2 a => hr G2 H2 F vs (e.trans e2) m2 a Q fun v G3 M3 H3 e3 m3 r3 => q v G3 M3 H3 (e2.trans e3) m3 r3
end
end SX
set_option Elab.async false
set_option linter.all false
set_option maxRecDepth 100000
namespace SX
open PySem PySem.Spec L2
/-- what is wanted: behind the statement, of a return, a break, a continue, an error -/
structure Po where
  nx : Hp → L2.St → Mem → Prop
  rt : Post
  bk : Hp → L2.St → Mem → Prop := fun _ _ _ => False
  ct : Hp → L2.St → Mem → Prop := fun _ _ _ => False
  ex : Value → Option Addr → Hp → Mem → Prop := fun _ _ _ _ => False
structure Has (E : XK) (D : Ends) (P : Po) (G1 : Hp) (F : Mem) : Prop where
  nx : ∀ σ2 G2 M2 H2, Ex G1 G2 → Me G2 (M2 ++ F) H2 → P.nx G2 σ2 M2 → D.nx σ2 H2
  rt : ∀ v G2 M2 H2, Ex G1 G2 → Me G2 (M2 ++ F) H2 → P.rt G2 v M2 → D.rt v H2
  bk : ∀ σ2 G2 M2 H2, Ex G1 G2 → Me G2 (M2 ++ F) H2 → P.bk G2 σ2 M2 → D.bk σ2 H2
  ct : ∀ σ2 G2 M2 H2, Ex G1 G2 → Me G2 (M2 ++ F) H2 → P.ct G2 σ2 M2 → D.ct σ2 H2
  ex : ∀ cls d G2 M2 H2, Ex G1 G2 → Me G2 (M2 ++ F) H2 → P.ex cls d G2 M2 → E cls d H2
def Sv (E : XK) (t : TS) (σ : L2.St) (G : Hp) (M : Mem) (P : Po) : Prop := ∀ G1 H F (D : Ends), Ex G G1 → Me G1 (M ++ F) H → Has E D P G1 F → t D σ H
theorem Has.up {E : XK} {D : Ends} {P : Po} {G1 G2 : Hp} {F : Mem} (h : Has E D P G1 F) (e : Ex G1 G2) : Has E D P G2 F :=
  ⟨fun a b c d e1 => h.nx a b c d (e.trans e1), fun a b c d e1 => h.rt a b c d (e.trans e1), fun a b c d e1 => h.bk a b c d (e.trans e1), fun a b c d e1 => h.ct a b c d (e.trans e1), fun a b c d f e1 => h.ex a b c d f (e.trans e1)⟩
section
variable {E : XK} {K : PySem.W.Frag} {σ : L2.St} {G G' H : Hp} {M M1 M2 M3 F : Mem} {R : Post} {P P' : Po} {te ta : TE} {tt : TT} {t u : TS} {x y z : V} {d : PyData} {a b : Bool} {i : Nat}
theorem Sv.mono (h : Sv E t σ G M P) (e : Ex G G') : Sv E t σ G' M P := fun G1 H F D e1 m hd => h G1 H F D (e.trans e1) m hd
theorem sv_set (h : Ev te σ G M R) (k : ∀ v G' M', Ex G G' → R G' v M' → P.nx G' (σ.set i (some v)) M') : Sv E (tAsg te (gName i)) σ G M P := fun G1 H F D e m hd =>
  h G1 H F e m _ fun v G2 M2 H2 e2 m2 r => hd.nx _ G2 M2 H2 e2 m2 (k v G2 M2 (e.trans e2) r)
theorem sv_ret (h : Ev te σ G M R) (k : ∀ v G' M', Ex G G' → R G' v M' → P.rt G' v M') : Sv E (tRet te) σ G M P := fun G1 H F D e m hd =>
  h G1 H F e m _ fun v G2 M2 H2 e2 m2 r => hd.rt _ G2 M2 H2 e2 m2 (k v G2 M2 (e.trans e2) r)
theorem sv_next (k : ∀ G', Ex G G' → P.nx G' σ M) : Sv E tNext σ G M P := fun G1 H F D e m hd => hd.nx σ G1 M H (Ex.refl _) m (k G1 e)
theorem sv_seq (h : Sv E t σ G M { P with nx := N }) (k : ∀ G' σ' M', Ex G G' → N G' σ' M' → Sv E u σ' G' M' P) : Sv E (tSeq t u) σ G M P := fun G1 H F D e m hd =>
  h G1 H F _ e m ⟨fun σ2 G2 M2 H2 e2 m2 n => k G2 σ2 M2 (e.trans e2) n G2 H2 F D (Ex.refl _) m2 (hd.up e2), hd.rt, hd.bk, hd.ct, hd.ex⟩
/-- x = e, then the rest -/
theorem sv_let (h : Ev te σ G M R) (k : ∀ v G' M', Ex G G' → R G' v M' → Sv E u (σ.set i (some v)) G' M' P) : Sv E (tSeq (tAsg te (gName i)) u) σ G M P := fun G1 H F D e m hd =>
  h G1 H F e m _ fun v G2 M2 H2 e2 m2 r => k v G2 M2 (e.trans e2) r G2 H2 F D (Ex.refl _) m2 (hd.up e2)
theorem sv_if (h : EvT tt σ G M a M1) (k1 : ∀ G', Ex G G' → a = true → Sv E t σ G' M1 P) (k2 : ∀ G', Ex G G' → a = false → Sv E u σ G' M1 P) : Sv E (tIfS tt t u) σ G M P := fun G1 H F D e m hd =>
  h G1 H F e m _ fun G2 H2 e2 m2 => by
    cases a with
    | true =>
      show (if true = true then _ else _)
      rw [if_pos rfl]
      exact k1 G2 (e.trans e2) rfl G2 H2 F D (Ex.refl _) m2 (hd.up e2)
    | false =>
      show (if false = true then _ else _)
      rw [if_neg Bool.false_ne_true]
      exact k2 G2 (e.trans e2) rfl G2 H2 F D (Ex.refl _) m2 (hd.up e2)
/-- if .. : leaves or not; then the rest -/
theorem sv_ifs {t' : TS} (h : EvT tt σ G M a M1) (k1 : ∀ G', Ex G G' → a = true → Sv E t σ G' M1 { P with nx := fun G2 σ2 M2 => Sv E u σ2 G2 M2 P }) (k2 : ∀ G', Ex G G' → a = false → Sv E t' σ G' M1 { P with nx := fun G2 σ2 M2 => Sv E u σ2 G2 M2 P }) :
    Sv E (tSeq (tIfS tt t t') u) σ G M P := sv_seq (sv_if h k1 k2) fun _ _ _ _ n => n
def tRaise (E : XK) (cls : Value) : TS := fun _ _ H => E cls none H
theorem sv_raise {cls : Value} (k : ∀ G', Ex G G' → P.ex cls none G' M) : Sv E (tRaise E cls) σ G M P := fun G1 H F D e m hd => hd.ex cls none G1 M H (Ex.refl _) m (k G1 e)
theorem Sv.imp (h : Sv E t σ G M P) (nx : ∀ G2 σ2 M2, Ex G G2 → P.nx G2 σ2 M2 → P'.nx G2 σ2 M2) (rt : ∀ G2 v M2, Ex G G2 → P.rt G2 v M2 → P'.rt G2 v M2) (bk : ∀ G2 σ2 M2, Ex G G2 → P.bk G2 σ2 M2 → P'.bk G2 σ2 M2) (ct : ∀ G2 σ2 M2, Ex G G2 → P.ct G2 σ2 M2 → P'.ct G2 σ2 M2)
    (ex : ∀ c d G2 M2, Ex G G2 → P.ex c d G2 M2 → P'.ex c d G2 M2) : Sv E t σ G M P' := fun G1 H F D e m hd => h G1 H F D e m ⟨fun _ _ _ _ e2 m2 n => hd.nx _ _ _ _ e2 m2 (nx _ _ _ (e.trans e2) n), fun _ _ _ _ e2 m2 n => hd.rt _ _ _ _ e2 m2 (rt _ _ _ (e.trans e2) n),
      fun _ _ _ _ e2 m2 n => hd.bk _ _ _ _ e2 m2 (bk _ _ _ (e.trans e2) n), fun _ _ _ _ e2 m2 n => hd.ct _ _ _ _ e2 m2 (ct _ _ _ (e.trans e2) n), fun _ _ _ _ _ e2 m2 n => hd.ex _ _ _ _ _ e2 m2 (ex _ _ _ _ (e.trans e2) n)⟩
/-- l[i] = e of an owned list -/
theorem sv_setIx {tx ti : TE} {l : Addr} {xs : List V} {k : Int} {j n : Nat} (h : Ev te σ G M (isV x M1)) (h1 : Ev tx σ G M1 (isV (.ref l) M1)) (h2 : Ev ti σ G M1 (isV (.int k) M1)) (hl : M1[n]? = some (l, .lst xs)) (hj : ixN xs.length k = some j)
    (q : ∀ G', Ex G G' → P.nx G' σ (M1.set n (l, .lst (xs.set j x)))) : Sv E (tAsg te (gSub tx ti rSetL)) σ G M P := fun G1 H F D e m hd =>
  h G1 H F e m _ fun v G2 M2' H2 e2 m2 r2 => by
    obtain ⟨rfl, rfl⟩ := r2
    refine h1 G2 H2 F (e.trans e2) m2 _ fun v3 G3 M3' H3 e3 m3 r3 => ?_
    obtain ⟨rfl, rfl⟩ := r3
    refine h2 G3 H3 F ((e.trans e2).trans e3) m3 _ fun v4 G4 M4' H4 e4 m4 r4 => ?_
    obtain ⟨rfl, rfl⟩ := r4
    exact ⟨l, xs, k, j, rfl, rfl, m4.getF hl, hj, hd.nx _ _ _ _ ((e2.trans e3).trans e4) (m4.putF hl) (q G4 (((e.trans e2).trans e3).trans e4))⟩
/-- the same where the value is data -/
theorem sv_setIxP {Pp : Hp → V → Prop} [Mono Pp] {tx ti : TE} {l : Addr} {xs : List V} {k : Int} {j n : Nat} (h : Ev te σ G M (isP Pp M1)) (h1 : Ev tx σ G M1 (isV (.ref l) M1)) (h2 : Ev ti σ G M1 (isV (.int k) M1)) (hl : M1[n]? = some (l, .lst xs)) (hj : ixN xs.length k = some j)
    (q : ∀ v G', Ex G G' → Pp G' v → P.nx G' σ (M1.set n (l, .lst (xs.set j v)))) : Sv E (tAsg te (gSub tx ti rSetL)) σ G M P := fun G1 H F D e m hd =>
  h G1 H F e m _ fun v G2 M2' H2 e2 m2 r2 => by
    obtain ⟨pv, rfl⟩ := r2
    refine h1 G2 H2 F (e.trans e2) m2 _ fun v3 G3 M3' H3 e3 m3 r3 => ?_
    obtain ⟨rfl, rfl⟩ := r3
    refine h2 G3 H3 F ((e.trans e2).trans e3) m3 _ fun v4 G4 M4' H4 e4 m4 r4 => ?_
    obtain ⟨rfl, rfl⟩ := r4
    exact ⟨l, xs, k, j, rfl, rfl, m4.getF hl, hj, hd.nx _ _ _ _ ((e2.trans e3).trans e4) (m4.putF hl) (q v G4 (((e.trans e2).trans e3).trans e4) (Mono.mono _ _ _ (e3.trans e4) pv))⟩
def tTgt (g : TG) (x : V) (tb : TS) : TS := fun D σ H => g x σ H fun σ2 H2 => tb D σ2 H2
theorem sv_tgN {tb : TS} (h : Sv E tb (σ.set i (some x)) G M P) : Sv E (tTgt (gName i) x tb) σ G M P := fun G1 H F D e m hd => h G1 H F D e m hd
/-- over a list of data that stands still -/
theorem sv_forD {tl : TE} {g : TG} {tb : TS} {ds : List PyData} (I : Nat → Hp → L2.St → Mem → Prop)
    (hs : Ev tl σ G M (isD K (.list ds) M1)) (h0 : ∀ G', Ex G G' → I 0 G' σ M1)
    (hb : ∀ i d x G' σ' M', Ex G G' → ds[i]? = some d → Dp K G' x d → I i G' σ' M' → Sv E (tTgt g x tb) σ' G' M' { P with nx := I (i + 1), ct := I (i + 1), bk := P.nx })
    (he : ∀ G' σ' M', Ex G G' → I ds.length G' σ' M' → P.nx G' σ' M') : Sv E (tFor (iList K tl) g tb) σ G M P := fun G1 H F D e m hd =>
  hs G1 H F e m _ fun v G2 M2 H2 e2 m2 r2 => by
    obtain ⟨dv, rfl⟩ := r2
    obtain ⟨aa, xs, rfl, hq, ha⟩ := dp_lst dv
    refine ⟨aa, rfl, ⟨xs, ex_l m2.ex hq⟩, for_list (K := K) (a := aa) (xs := xs) (fun i σ' H' => ∃ G' M', Ex G2 G' ∧ Me G' (M' ++ F) H' ∧ I i G' σ' M') ⟨G2, _, Ex.refl _, m2, h0 G2 (e.trans e2)⟩ ?_ ?_ ?_⟩
    · rintro i σ' H' _ ⟨G', M', e', m', ii⟩
      exact ex_l m'.ex (ex_l e' hq)
    · rintro i x σ' H' hx ⟨G', M', e', m', ii⟩
      obtain ⟨d, hd', dx⟩ := dpa_atV ha hx
      refine hb i d x G' σ' M' ((e.trans e2).trans e') hd' (dm dx e') ii G' H' F _ (Ex.refl _) m' ⟨?_, ?_, ?_, ?_, ?_⟩
      · exact fun σ2 G3 M3 H3 e3 m3 n => ⟨G3, M3, e'.trans e3, m3, n⟩
      · exact fun v G3 M3 H3 e3 m3 r => hd.rt v G3 M3 H3 ((e2.trans e').trans e3) m3 r
      · exact fun v G3 M3 H3 e3 m3 r => hd.nx v G3 M3 H3 ((e2.trans e').trans e3) m3 r
      · exact fun σ2 G3 M3 H3 e3 m3 n => ⟨G3, M3, e'.trans e3, m3, n⟩
      · exact fun c v G3 M3 H3 e3 m3 r => hd.ex c v G3 M3 H3 ((e2.trans e').trans e3) m3 r
    · rintro σ' H' ⟨G', M', e', m', ii⟩
      rw [dpa_len ha] at ii
      exact hd.nx σ' G' M' H' (e2.trans e') m' (he G' σ' M' ((e.trans e2).trans e') ii)
/-- range(n) -/
theorem sv_forR {tn : TA} {g : TG} {tb : TS} {n : Int} (I : Nat → Hp → L2.St → Mem → Prop)
    (hs : EvA tn σ G M [fun _ v => v = .int n] M1) (h0 : ∀ G', Ex G G' → I 0 G' σ M1) (hn : -(2 ^ 62) ≤ n ∧ n < 2 ^ 62)
    (hb : ∀ (i : Nat) G' σ' M', Ex G G' → i < n.toNat → I i G' σ' M' → Sv E (tTgt g (.int (0 + (i : Int))) tb) σ' G' M' { P with nx := I (i + 1), ct := I (i + 1), bk := P.nx })
    (he : ∀ G' σ' M', Ex G G' → I n.toNat G' σ' M' → P.nx G' σ' M') : Sv E (tFor (iRng1 tn) g tb) σ G M P := fun G1 H F D e m hd =>
  hs G1 H F e m _ fun vs G2 H2 e2 m2 r2 => by
    match vs, r2 with
    | [v], r2 =>
    obtain ⟨rfl, _⟩ := r2
    refine ⟨n, rfl, hn.1, hn.2, for_range (lo := 0) (n := n.toNat) (fun i σ' H' => ∃ G' M', Ex G2 G' ∧ Me G' (M' ++ F) H' ∧ I i G' σ' M') ⟨G2, _, Ex.refl _, m2, h0 G2 (e.trans e2)⟩ ?_ ?_⟩
    · rintro i σ' H' hi ⟨G', M', e', m', ii⟩
      refine hb i G' σ' M' ((e.trans e2).trans e') hi ii G' H' F _ (Ex.refl _) m' ⟨?_, ?_, ?_, ?_, ?_⟩
      · exact fun σ2 G3 M3 H3 e3 m3 n => ⟨G3, M3, e'.trans e3, m3, n⟩
      · exact fun v G3 M3 H3 e3 m3 r => hd.rt v G3 M3 H3 ((e2.trans e').trans e3) m3 r
      · exact fun v G3 M3 H3 e3 m3 r => hd.nx v G3 M3 H3 ((e2.trans e').trans e3) m3 r
      · exact fun σ2 G3 M3 H3 e3 m3 n => ⟨G3, M3, e'.trans e3, m3, n⟩
      · exact fun c v G3 M3 H3 e3 m3 r => hd.ex c v G3 M3 H3 ((e2.trans e').trans e3) m3 r
    · rintro σ' H' ⟨G', M', e', m', ii⟩
      exact hd.nx σ' G' M' H' (e2.trans e') m' (he G' σ' M' ((e.trans e2).trans e') ii)
/-- a new list that is owned -/
abbrev own (K : PySem.W.Frag) (ds : List PyData) (M : Mem) : Post := fun G v M' => ∃ p vs, v = .ref p ∧ M' = M ++ [(p, .lst vs)] ∧ DpAll K G vs ds
theorem Ev.frz {ds : List PyData} (h : Ev te σ G M (own K ds M1)) : Ev te σ G M (isD K (.list ds) M1) := fun G1 H F e m Q q =>
  h G1 H F e m Q fun v G2 M2 H2 e2 m2 r => by
    obtain ⟨p, vs, rfl, rfl, da⟩ := r
    obtain ⟨m3, e3⟩ := m2.freezeLast
    exact q _ _ M1 H2 (e2.trans e3) m3 ⟨.lst (SqL.of upd_same) (dma da e3), rfl⟩
theorem ev_lstO {t : TA} {ds : List PyData} (h : EvA t σ G M (ds.map fun d => fun G v => Dp K G v d) M1) (hl : ds.length ≤ 1000) : Ev (tLst t) σ G M (own K ds M1) := fun G1 H F e m Q q =>
  h G1 H F e m _ fun vs G2 H2 e2 m2 a => ⟨by rw [dpa_len (allD (K := K) a)]; exact Nat.le_of_lt (small1000 hl), fun p hp => q _ _ _ _ e2 (m2.newMid hp) ⟨p, vs, rfl, rfl, allD a⟩⟩
theorem mem_mid {A F : Mem} {p : Addr × HO} : (A ++ p :: F) = (A ++ [p]) ++ F := by rw [List.append_assoc]; rfl
section comp
variable {own' : List Nat} {k : Nat} {Mi : Nat → Mem} {fd : Nat → PyData} {ds : List PyData} {n : Nat}
/-- one turn of a comprehension -/
theorem lc_turn {b : Bool} {D : Addr} {H' : Hp} {G1 G2 : Hp} {vs : List V} {es : List PyData} (ht : EvT tt (σ.set k (some x)) G2 (Mi i) b (Mi i)) (he : b = true → Ev te (σ.set k (some x)) G2 (Mi i) (isD K (fd i) (Mi (i + 1)))) (hn : b = false → Mi (i + 1) = Mi i)
    (m' : Me G2 (Mi i ++ (D, .lst vs) :: F) H') (e' : Ex G1 G2) (da : DpAll K G2 vs es) (hz : vs.length < sizeLine) {Nx : Hp → Prop}
    (hN : ∀ G3 vs' H3, Ex G1 G3 → Me G3 (Mi (i + 1) ++ (D, .lst vs') :: F) H3 → DpAll K G3 vs' (es ++ if b then [fd i] else []) → Nx H3) :
    tt (σ.set k (some x)) H' fun b H3 => if b = true then te (σ.set k (some x)) H3 fun y H4 => ∃ acc, H4 D = some (.lst acc) ∧ acc.length < sizeLine ∧ Nx (upd H4 D (.lst (acc ++ [y]))) else Nx H3 := by
  refine ht G2 H' _ (Ex.refl _) m' _ fun G3 H3 e3 m3 => ?_
  cases b with
  | true =>
    rw [if_pos rfl]
    refine he rfl G3 H3 _ e3 m3 _ fun y G4 M4 H4 e4 m4 r4 => ?_
    obtain ⟨dy, rfl⟩ := r4
    have hm : ((Mi (i + 1)) ++ (D, HO.lst vs) :: F)[(Mi (i + 1)).length]? = some (D, .lst vs) := by
      rw [List.getElem?_append_right (Nat.le_refl _), Nat.sub_self]
      rfl
    refine ⟨vs, m4.get hm, hz, hN G4 (vs ++ [y]) _ ((e'.trans e3).trans e4) ?_ ?_⟩
    · have := m4.put (o' := .lst (vs ++ [y])) hm
      rw [List.set_append_right _ _ (Nat.le_refl _), Nat.sub_self] at this
      exact this
    · exact dpa_app (dma da (e3.trans e4)) (.cons dy .nil)
  | false =>
    rw [if_neg Bool.false_ne_true]
    refine hN G3 vs H3 (e'.trans e3) (by rw [hn rfl]; exact m3) ?_
    show DpAll K G3 vs (es ++ [])
    rw [List.append_nil]
    exact dma da e3
def kept (n : Nat) (bb : Nat → Bool) (fd : Nat → PyData) : List PyData := (List.range n).flatMap fun i => if bb i then [fd i] else []
theorem kept_succ (n : Nat) (bb : Nat → Bool) (fd : Nat → PyData) : kept (n + 1) bb fd = kept n bb fd ++ if bb n then [fd n] else [] := by
  unfold kept
  rw [List.range_succ, List.flatMap_append]
  simp
theorem kept_len (n : Nat) (bb : Nat → Bool) (fd : Nat → PyData) : (kept n bb fd).length ≤ n := by
  induction n with
  | zero => exact Nat.le_refl _
  | succ n ih =>
    rw [kept_succ, List.length_append]
    split <;> simp <;> omega
theorem kept_all (n : Nat) (fd : Nat → PyData) : kept n (fun _ => true) fd = (List.range n).map fd := by
  induction n with
  | zero => rfl
  | succ n ih => rw [kept_succ, ih, List.range_succ, List.map_append]; rfl
theorem sz_ok {n : Nat} (h : n ≤ 100000) : n < sizeLine := Nat.lt_of_le_of_lt h (by decide)
/-- .. over a tuple -/
theorem ev_lcT {tl : TE} (bb : Nat → Bool) (Mi : Nat → Mem) (fd : Nat → PyData) (hs : Ev tl σ G M (isD K (.tuple ds) (Mi 0))) (hn : ds.length ≤ 100000)
    (ht : ∀ i d x G', ds[i]? = some d → Ex G G' → Dp K G' x d → EvT tt ((wipe σ own').set k (some x)) G' (Mi i) (bb i) (Mi i))
    (he : ∀ i d x G', ds[i]? = some d → Ex G G' → Dp K G' x d → bb i = true → Ev te ((wipe σ own').set k (some x)) G' (Mi i) (isD K (fd i) (Mi (i + 1))))
    (hno : ∀ i, bb i = false → Mi (i + 1) = Mi i) (hw : ∀ x, wipe ((wipe σ own').set k (some x)) own' = wipe σ own') :
    Ev (tLc (iTup K tl) (gName k) tt te own') σ G M (own K (kept ds.length bb fd) (Mi ds.length)) := fun G1 H F e m Q q =>
  hs G1 H F e m _ fun v G2 M2 H2 e2 m2 r2 => by
    obtain ⟨dv, rfl⟩ := r2
    obtain ⟨aa, xs, rfl, hq, ha⟩ := dp_tup dv
    have hln := dpa_len ha
    refine ⟨aa, rfl, ⟨xs, ex_t m2.ex hq⟩, fun D hD => lc_tup (K := K) (a := aa) (xs := xs) (fun i H' => ∃ G' vs, Ex G2 G' ∧ Me G' (Mi i ++ (D, .lst vs) :: F) H' ∧ DpAll K G' vs (kept i bb fd)) ?_ ?_ ?_ ?_⟩
    · exact ⟨G2, [], Ex.refl _, by rw [mem_mid]; exact m2.newMid hD, .nil⟩
    · rintro i H' _ ⟨G', vs, e', m', _⟩
      exact ex_t m'.ex (ex_t e' hq)
    · rintro i x H' hx ⟨G', vs, e', m', da⟩
      obtain ⟨d, hd', dx⟩ := dpa_atV ha hx
      have hi : i < xs.length := (List.getElem?_eq_some_iff.mp hx).1
      refine ⟨hw x, lc_turn (K := K) (fd := fd) (Mi := Mi) (b := bb i) (ht i d x G' hd' ((e.trans e2).trans e') (dm dx e')) (he i d x G' hd' ((e.trans e2).trans e') (dm dx e')) (hno i) m' e' da ?_ ?_⟩
      · rw [dpa_len da]
        have := kept_len i bb fd
        exact sz_ok (by omega)
      · intro G3 vs' H3 e3 m3 d3
        exact ⟨G3, vs', e3, m3, by rw [kept_succ]; exact d3⟩
    · rintro H' ⟨G', vs, e', m', da⟩
      rw [hln] at m' da
      rw [mem_mid] at m'
      exact q _ G' _ H' (e2.trans e') m' ⟨D, vs, rfl, rfl, da⟩
/-- .. over range(n) -/
theorem ev_lcR {tn : TA} {nn : Int} (bb : Nat → Bool) (Mi : Nat → Mem) (fd : Nat → PyData) (hs : EvA tn σ G M [fun _ v => v = .int nn] (Mi 0)) (hn : nn ≤ 100000) (hn0 : -100000 ≤ nn)
    (ht : ∀ (i : Nat) G', i < nn.toNat → Ex G G' → EvT tt ((wipe σ own').set k (some (.int (0 + (i : Int))))) G' (Mi i) (bb i) (Mi i))
    (he : ∀ (i : Nat) G', i < nn.toNat → Ex G G' → bb i = true → Ev te ((wipe σ own').set k (some (.int (0 + (i : Int))))) G' (Mi i) (isD K (fd i) (Mi (i + 1))))
    (hno : ∀ i, bb i = false → Mi (i + 1) = Mi i) (hw : ∀ x, wipe ((wipe σ own').set k (some x)) own' = wipe σ own') :
    Ev (tLc (iRng1 tn) (gName k) tt te own') σ G M (own K (kept nn.toNat bb fd) (Mi nn.toNat)) := fun G1 H F e m Q q =>
  hs G1 H F e m _ fun vs0 G2 H2 e2 m2 r2 => by
    match vs0, r2 with
    | [v], r2 =>
    obtain ⟨rfl, _⟩ := r2
    refine ⟨nn, rfl, by omega, by omega, fun D hD => lc_range (lo := 0) (n := nn.toNat) (fun i H' => ∃ G' vs, Ex G2 G' ∧ Me G' (Mi i ++ (D, .lst vs) :: F) H' ∧ DpAll K G' vs (kept i bb fd)) ?_ ?_ ?_⟩
    · exact ⟨G2, [], Ex.refl _, by rw [mem_mid]; exact m2.newMid hD, .nil⟩
    · rintro i H' hi ⟨G', vs, e', m', da⟩
      refine ⟨hw _, lc_turn (K := K) (fd := fd) (Mi := Mi) (b := bb i) (ht i G' hi ((e.trans e2).trans e')) (he i G' hi ((e.trans e2).trans e')) (hno i) m' e' da ?_ ?_⟩
      · rw [dpa_len da]
        have := kept_len i bb fd
        exact sz_ok (by omega)
      · intro G3 vs' H3 e3 m3 d3
        exact ⟨G3, vs', e3, m3, by rw [kept_succ]; exact d3⟩
    · rintro H' ⟨G', vs, e', m', da⟩
      rw [mem_mid] at m'
      exact q _ G' _ H' (e2.trans e') m' ⟨D, vs, rfl, rfl, da⟩
end comp
end
end SX
set_option Elab.async false
set_option linter.all false
set_option maxRecDepth 100000
namespace SX
open PySem PySem.Spec L2
section
variable {P : Program} {w : World} {K : PySem.W.Frag} {mg : Str → Option Value} {base : Heap}
/-- a def that raises nothing -/
theorem fn_sv {α : Type} {pre : α → Hp → Mem → List V → Prop} {post : α → Mem → Post} {x qual : Str} {st : Stmt} {f : Addr} {fd : FuncData} {N ps : List Str} {k : Nat} (F : Fun K x qual st f fd) (S : FnScope N ps (defScope st))
    (len : ∀ x G M vs, pre x G M vs → vs.length = ps.length)
    (body : ∀ (cdv : Value) (A : Around) (outer : List Env) (s : Shared) (H : Hp) (E : XK), Room k (A.deeper (PyProof.Rows.envOfC qual (defScope st) s.heap.objs.size f cdv)) →
      ∃ t, PSs (cxOf CX0 P w K mg base N qual (defScope st) f cdv A outer s H E).nox (defBody st) t ∧ ∀ x G M vs, pre x G M vs → Sv E t (start N vs) G M { nx := fun G' _ M' => post x M G' .non M', rt := post x M }) :
    FnOk P w K mg base CX0 (k + 1) f fd ps (spec pre post) := by
  refine F.ok S (fun vs H Q E h => ?_) (fun cdv A outer s H vs Q E hr h => ?_)
  · obtain ⟨x, G, M, Fr, m, p, q⟩ := h
    exact len x G M vs p
  · obtain ⟨x, G, M, Fr, m, p, q⟩ := h
    obtain ⟨t, ht, hs⟩ := body cdv A outer s H E hr
    refine ⟨t, ht, hs x G M vs p G H Fr _ (Ex.refl _) m ⟨?_, ?_, ?_, ?_, ?_⟩⟩
    · exact fun σ2 G2 M2 H2 e2 m2 n => q _ G2 M2 H2 e2 m2 n
    · exact fun v G2 M2 H2 e2 m2 n => q v G2 M2 H2 e2 m2 n
    · exact fun σ2 G2 M2 H2 e2 m2 n => n.elim
    · exact fun σ2 G2 M2 H2 e2 m2 n => n.elim
    · exact fun c d G2 M2 H2 e2 m2 n => n.elim
/-- a promise with errors -/
def specX {α : Type} (pre : α → Hp → Mem → List V → Prop) (post : α → Mem → Post) (exc : α → Mem → Value → Option Addr → Hp → Mem → Prop) : Sp := fun vs H Q E => ∃ x G M F, Me G (M ++ F) H ∧ pre x G M vs ∧
  (∀ v G' M' H', Ex G G' → Me G' (M' ++ F) H' → post x M G' v M' → Q v H') ∧ (∀ c d G' M' H', Ex G G' → Me G' (M' ++ F) H' → exc x M c d G' M' → E c d H')
theorem fn_svX {α : Type} {pre : α → Hp → Mem → List V → Prop} {post : α → Mem → Post} {exc : α → Mem → Value → Option Addr → Hp → Mem → Prop} {x qual : Str} {st : Stmt} {f : Addr} {fd : FuncData} {N ps : List Str} {k : Nat} (F : Fun K x qual st f fd) (S : FnScope N ps (defScope st))
    (len : ∀ x G M vs, pre x G M vs → vs.length = ps.length)
    (body : ∀ (cdv : Value) (A : Around) (outer : List Env) (s : Shared) (H : Hp) (E : XK), Room k (A.deeper (PyProof.Rows.envOfC qual (defScope st) s.heap.objs.size f cdv)) →
      ∃ t, PSs (cxOf (L2.CX P w) P w K mg base N qual (defScope st) f cdv A outer s H E) (defBody st) t ∧ ∀ x G M vs, pre x G M vs → Sv E t (start N vs) G M { nx := fun G' _ M' => post x M G' .non M', rt := post x M, ex := exc x M }) :
    FnOk P w K mg base (L2.CX P w) (k + 1) f fd ps (specX pre post exc) := by
  refine F.okX S (fun vs H Q E h => ?_) (fun cdv A outer s H vs Q E hr h => ?_)
  · obtain ⟨x, G, M, Fr, m, p, q⟩ := h
    exact len x G M vs p
  · obtain ⟨x, G, M, Fr, m, p, q, qx⟩ := h
    obtain ⟨t, ht, hs⟩ := body cdv A outer s H E hr
    refine ⟨t, ht, hs x G M vs p G H Fr _ (Ex.refl _) m ⟨?_, ?_, ?_, ?_, ?_⟩⟩
    · exact fun σ2 G2 M2 H2 e2 m2 n => q _ G2 M2 H2 e2 m2 n
    · exact fun v G2 M2 H2 e2 m2 n => q v G2 M2 H2 e2 m2 n
    · exact fun σ2 G2 M2 H2 e2 m2 n => n.elim
    · exact fun σ2 G2 M2 H2 e2 m2 n => n.elim
    · exact fun c d G2 M2 H2 e2 m2 n => qx c d G2 M2 H2 e2 m2 n
/-- where the errors cannot come, it is a plain promise -/
theorem FnOk.calm {α : Type} {pre pre' : α → Hp → Mem → List V → Prop} {post : α → Mem → Post} {exc : α → Mem → Value → Option Addr → Hp → Mem → Prop} {CX : CXT} {k : Nat} {f : Addr} {fd : FuncData} {ps : List Str} (F : FnOk P w K mg base CX k f fd ps (specX pre post exc))
    (hp : ∀ x G M vs, pre' x G M vs → pre x G M vs) (hx : ∀ x G M vs c d G' M', pre' x G M vs → ¬ exc x M c d G' M') : FnOk P w K mg base CX k f fd ps (spec pre' post) :=
  F.imp fun vs H Q E h => by
    obtain ⟨x, G, M, Fr, m, p, q⟩ := h
    exact ⟨x, G, M, Fr, m, hp _ _ _ _ p, q, fun c d G' M' H' _ _ z => absurd z (hx x G M vs c d G' M' p)⟩
end
section
variable {X : Cx} {CX : CXT} {k : Nat} {C f : Addr} {fd : FuncData} {ps : List Str} {sp : Sp} {E : XK}
theorem run_in1 {pins : List (Addr × Obj)} {σ : L2.St} {H : Hp} {s : Shared} {Q : VK} {us : List Value} {vs : List V} (F : FnOk X.prog X.w X.K X.mg X.base CX k f fd ps sp) (hr : Room (k + 1) X.A) (hb : Binds X.K fd ps []) (hx : Passes CX X E)
    (I : Inv X pins σ H s) (r : Vals vs us) (h : sp vs H Q E) : wpAny (model X.prog X.w) X.A.in1 (call (.ref f) us) (EP X pins σ Q) X.xe s := by
  have hl : (us ++ []).length = ps.length := by rw [List.append_nil, ← r.length]; exact F.len _ _ _ _ h
  have hb' := hb s us I.kIn hl
  rw [List.append_nil] at hb'
  refine wpAny_call (codeAny_mono (F.run X.A.in1 X.stack s H ⟨us, []⟩ us vs Q E hr.in1 I.env0.in1 hb' r h) fun rr s' hq => ?_)
  cases rr with
  | error e => exact hx pins σ H s e s' I hq
  | ok fl =>
    cases fl with
    | ret u => exact I.after hq
    | next => exact False.elim hq
    | brk => exact False.elim hq
    | cont => exact False.elim hq
theorem run_at {pins : List (Addr × Obj)} {σ : L2.St} {H : Hp} {s : Shared} {Q : VK} {us : List Value} {vs : List V} (F : FnOk X.prog X.w X.K X.mg X.base CX k f fd ps sp) (hr : Room k X.A) (hb : Binds X.K fd ps []) (hx : Passes CX X E)
    (I : Inv X pins σ H s) (r : Vals vs us) (h : sp vs H Q E) : wpAny (model X.prog X.w) X.A (call (.ref f) us) (EP X pins σ Q) X.xe s :=
  run_fn F hr hb .nil hx I r (by rw [List.append_nil]; exact h)
/-- len(o) by the own __len__ -/
def rLenO (C : Addr) (sp : Sp) (E : XK) : List V → Hp → VK → Prop := fun xs H Q => ∃ a dx fs, xs = [.ref a] ∧ H a = some (.ins C dx fs) ∧ sp [.ref a] H (fun v H2 => ∃ n : Int, v = .int n ∧ (0 ≤ n ∧ n < 2 ^ 63) ∧ Q (.int n) H2) E
theorem call_lenO (hm : Meth X.K C "__len__" f) (F : FnOk X.prog X.w X.K X.mg X.base CX k f fd ps sp) (hr : Room (k + 1) X.A) (hb : Binds X.K fd ps []) (hx : Passes CX X E) : CallR X (.builtin "len") (rLenO C sp E) := by
  intro pins s σ H xs us Q I r h
  obtain ⟨a, dx, fs, rfl, ea, q⟩ := h
  obtain ⟨u, rfl, ru⟩ := vals1 r
  cases (show u = Value.ref a from ru)
  obtain ⟨mA, O, _⟩ := ins_get I.hok ea
  obtain ⟨od, J, _⟩ := O.look
  obtain ⟨m, fr⟩ := I.fr
  refine PySem.W.len_K fr I.ok.mod.kin J hm.at_ hm.fn (wpAny_mono (run_in1 F hr hb hx I r q) (fun u s1 h1 => ?_) fun _ _ e => e)
  obtain ⟨v, H2, I2, rv, n, rfl, hn, q2⟩ := h1
  obtain ⟨t, rfl⟩ := rv
  exact ⟨hn, .int n, H2, I2.tok _, ⟨_, rfl⟩, q2⟩
/-- o[i] = e by the own __setitem__ -/
def rSetO (C : Addr) (sp : Sp) (E : XK) : TSet := fun o i v H Q => ∃ a dx fs, o = .ref a ∧ H a = some (.ins C dx fs) ∧ sp [.ref a, i, v] H (fun _ H2 => Q H2) E
theorem set_own (hm : Meth X.K C "__setitem__" f) (hq : PySem.W.noSeq X.K C = true) (F : FnOk X.prog X.w X.K X.mg X.base CX k f fd ps sp) (hr : Room k X.A) (hb : Binds X.K fd ps []) (hx : Passes CX X E) : PSet X (rSetO C sp E) := by
  intro pins s σ H o i v ov iv u Q I ro ri rv h
  obtain ⟨a, dx, fs, rfl, ea, q⟩ := h
  cases (show ov = Value.ref a from ro)
  obtain ⟨mA, O, _⟩ := ins_get I.hok ea
  obtain ⟨od, J, _⟩ := O.look
  obtain ⟨m, fr⟩ := I.fr
  refine PySem.W.ksp_setItem fr I.ok.mod.kin J hq hm.at_ hm.fn (wpAny_mono (run_at F hr hb hx I (.cons (show RelV (.ref a) (.ref a) from rfl) (.cons ri (.cons rv .nil))) q) (fun u s1 h1 => ?_) fun _ _ e => e)
  obtain ⟨v, H2, I2, _, q2⟩ := h1
  exact ⟨H2, I2, q2⟩
/-- neither NotImplemented .. is handed back: every V is fine -/
theorem cmpBack {pins : List (Addr × Obj)} {σ : L2.St} {Q : VK} {u : Value} {s : Shared} (h : EP X pins σ Q u s) : PySem.W.CmpBack (EP X pins σ Q) u s := by
  obtain ⟨v, H2, I2, rv, q2⟩ := h
  cases v with
  | non => cases rv; exact ⟨.non, H2, I2, rfl, q2⟩
  | bl b => cases rv; exact ⟨.bl b, H2, I2, rfl, q2⟩
  | int i => obtain ⟨t, rfl⟩ := rv; exact ⟨.int i, H2, I2, ⟨_, rfl⟩, q2⟩
  | str i => obtain ⟨t, rfl⟩ := rv; exact ⟨.str i, H2, I2, ⟨_, rfl⟩, q2⟩
  | byt i => obtain ⟨t, rfl⟩ := rv; exact ⟨.byt i, H2, I2, ⟨_, rfl⟩, q2⟩
  | flt i => obtain ⟨t, rfl⟩ := rv; exact ⟨.flt i, H2, I2, ⟨_, rfl⟩, q2⟩
  | ref i => cases rv; exact ⟨.ref i, H2, I2, rfl, q2⟩
  | ty i => cases rv; exact ⟨.ty i, H2, I2, rfl, q2⟩
/-- one op other, both instances of C -/
def rBinO (C : Addr) (sp : Sp) (E : XK) : R2 := fun x y H Q => ∃ a dx fs b dy gs, x = .ref a ∧ y = .ref b ∧ H a = some (.ins C dx fs) ∧ H b = some (.ins C dy gs) ∧ sp [.ref a, .ref b] H Q E
theorem op_binO {op : Operator} (hs : PySem.W.findIn X.K (.ref C) (PySem.dunder op.info.2) = some (some (.ref f))) (hfn : PySem.W.isFn X.K (.ref f) = true) (hc : PySem.W.selfFirst X.K C = true) (F : FnOk X.prog X.w X.K X.mg X.base CX k f fd ps sp) (hr : Room k X.A) (hb : Binds X.K fd ps []) (hx : Passes CX X E) : OpR X (binaryOp op) (rBinO C sp E) := by
  intro pins s σ H x y v u Q I rx ry h
  obtain ⟨a, dx, fs, b, dy, gs, rfl, rfl, ea, eb, q⟩ := h
  cases (show v = Value.ref a from rx)
  cases (show u = Value.ref b from ry)
  obtain ⟨mA, O, _⟩ := ins_get I.hok ea
  obtain ⟨od, J, _⟩ := O.look
  obtain ⟨mB, O2, _⟩ := ins_get I.hok eb
  obtain ⟨od2, J2, _⟩ := O2.look
  obtain ⟨m, fr⟩ := I.fr
  exact PySem.W.binop_K fr I.ok.mod.kin J J2.type hc hs hfn (wpAny_mono (run_at F hr hb hx I (.cons (show RelV (.ref a) (.ref a) from rfl) (.cons (show RelV (.ref b) (.ref b) from rfl) .nil)) q) (fun u s1 h1 => cmpBack h1) fun _ _ e => e)
/-- sum of a tuple of ints -/
def rSumT (K : PySem.W.Frag) : List V → Hp → VK → Prop := fun vs H Q => ∃ (a : Addr) (ns : List Int), vs = [V.ref a] ∧ SqT K H a (ns.map V.int) ∧ Q (.int ns.sum) H
theorem cr_sumT (hc : X.calm = true) : CallR X (.builtin "sum") (rSumT X.K) := by
  intro pins s σ H vs us Q I r h
  obtain ⟨a, ns, rfl, hs, q⟩ := h
  obtain ⟨its, rv, ⟨o, ho, hcl, n, hd⟩, _⟩ := I.tuple hs
  rw [Vals.ref1 r]
  have hi := rv.ints
  obtain ⟨xs, e⟩ := hi.allInts.items
  have hn : numsOf (intItems xs).toList = ns := by rw [← e]; exact hi.numsOf
  rw [nums_intItems] at hn
  have ht : s.heap.IsTuple a (intItems xs) := by
    rw [← e]
    exact ⟨o, ho, hcl, n, hd⟩
  refine PySem.W.ktm_sumG (I.ok.hd hc) ht fun h' tk t' hk => ⟨.int _, H, I.kept hk, ⟨_, rfl⟩, ?_⟩
  rw [preSum_eq, List.take_of_length_le (by simp), hn]
  exact q
end
section
variable {K : PySem.W.Frag} {σ : L2.St} {G G' H : Hp} {M M1 M2 M3 F : Mem} {R : Post} {ta tb te : TE} {x y : V} {d e : PyData} {ds : List PyData} {a : Bool} {i : Int}
def tyName : PyData → String
  | .none => "NoneType"
  | .bool _ => "bool"
  | .int _ => "int"
  | .str _ => "str"
  | .list _ => "list"
  | .tuple _ => "tuple"
  | .dict _ => "dict"
theorem tyx_of {v : V} (h : Dp K H v d) : TyX K H v (.type (tyName d)) := by
  cases h with
  | non => exact .base .non
  | bl b => exact .base (.bl b)
  | int i => exact .base (.int i)
  | str s => exact .base (.str s)
  | lst hs _ =>
    rcases hs with (hs | ⟨o, hs⟩) | ⟨o, its, n, hk, hc, _⟩
    · exact .base (.lst hs)
    · exact .base (.frz hs)
    · exact .kList hk hc
  | tup hs _ =>
    rcases hs with (hs | ⟨o, hs⟩) | ⟨o, its, n, hk, hc, _⟩
    · exact .base (.tup hs)
    · exact .fTuple hs
    · exact .kTuple hk hc
def isTyS (n T : String) : Bool := n == T || (n == "bool" && T == "int")
def isTy (d : PyData) (T : String) : Bool := isTyS (tyName d) T
/-- isinstance(x, T) of data, T one of these -/
theorem ev_isi {T : String} (hT : T = "int" ∨ T = "bool" ∨ T = "tuple" ∨ T = "list" ∨ T = "str") (h : Ev ta σ G M (isD K d M1)) : Ev (tCB (rIsi K) (tCons ta (tCons (tC (.ty T)) tNil))) σ G M (isV (.bl (isTy d T)) M1) :=
  ev_CB (Ps := [fun G v => Dp K G v d, fun _ v => v = .ty T]) (ea_cons h (ea_cons ev_c ea_nil)) fun G1 H F vs e m p Q q => by
    match vs, p with
    | [v, c], ⟨p1, p2, _⟩ =>
      subst p2
      refine ⟨v, .ty T, .type (tyName d), .type T, isTy d T, rfl, .ty T, tyx_of (dm p1 m.ex), kit_ty ?_, q _ _ _ _ (Ex.refl _) m ⟨rfl, rfl⟩⟩
      unfold isTy
      cases p1 <;> dsimp only [tyName] <;> rcases hT with rfl | rfl | rfl | rfl | rfl <;> decide +kernel
/-- all([..]), any([..]) over bools -/
theorem ev_all {bs : List Bool} (h : Ev ta σ G M (isD K (.list (bs.map .bool)) M1)) : Ev (tCB (rAll K) (tCons ta tNil)) σ G M (isV (.bl (bs.all id)) M1) :=
  ev_CB (Ps := [fun G v => Dp K G v (.list (bs.map .bool))]) (ea_cons h ea_nil) fun G1 H F vs e m p Q q => by
    match vs, p with
    | [v], ⟨p1, _⟩ =>
      obtain ⟨a, xs, rfl, hs, ha⟩ := dp_lst p1
      rw [dpAll_bls ha] at hs
      exact ⟨a, bs, rfl, ex_l m.ex hs, q _ _ _ _ (Ex.refl _) m ⟨rfl, rfl⟩⟩
theorem ev_sumT {ns : List Int} (h : Ev ta σ G M (isD K (.tuple (ns.map .int)) M1)) : Ev (tCB (rSumT K) (tCons ta tNil)) σ G M (isV (.int ns.sum) M1) :=
  ev_CB (Ps := [fun G v => Dp K G v (.tuple (ns.map .int))]) (ea_cons h ea_nil) fun G1 H F vs e m p Q q => by
    match vs, p with
    | [v], ⟨p1, _⟩ =>
      obtain ⟨a, xs, rfl, hs, ha⟩ := dp_tup p1
      rw [dpAll_ints ha] at hs
      exact ⟨a, ns, rfl, ex_t m.ex hs, q _ _ _ _ (Ex.refl _) m ⟨rfl, rfl⟩⟩
def rLenS (K : PySem.W.Frag) : List V → Hp → VK → Prop := fun xs H Q => ∃ p ys, xs = [.ref p] ∧ (SqL K H p ys ∨ SqT K H p ys) ∧ Q (.int ys.length) H
def rListS (K : PySem.W.Frag) : List V → Hp → VK → Prop := fun xs H Q => ∃ p ys, xs = [.ref p] ∧ (SqL K H p ys ∨ SqT K H p ys) ∧ ∀ l, H l = none → Q (.ref l) (upd H l (.lst ys))
def rTupS (K : PySem.W.Frag) : List V → Hp → VK → Prop := fun xs H Q => ∃ p ys, xs = [.ref p] ∧ ((SqL K H p ys ∧ ∀ l, H l = none → Q (.ref l) (upd H l (.tup ys))) ∨ (SqT K H p ys ∧ Q (.ref p) H))
def rInt1 : List V → Hp → VK → Prop := fun xs H Q => (∃ i, xs = [.int i] ∧ Q (.int i) H) ∨ ∃ k, xs = [.bl k] ∧ Q (.int (if k then 1 else 0)) H
theorem c_len {X : Cx} : CallR X (.builtin "len") (rLenS X.K) := call_len_seq
theorem c_list {X : Cx} : CallR X (.type "list") (rListS X.K) := call_list_of
theorem c_tup {X : Cx} : CallR X (.type "tuple") (rTupS X.K) := call_tuple_of
theorem c_int {X : Cx} : CallR X (.type "int") rInt1 := call_int1
/-- len of data -/
theorem ev_lenL (h : Ev ta σ G M (isD K (.list ds) M1)) : Ev (tCB (rLenS K) (tCons ta tNil)) σ G M (isV (.int (ds.length : Int)) M1) :=
  ev_CB (Ps := [fun G v => Dp K G v (.list ds)]) (ea_cons h ea_nil) fun G1 H F vs e m p Q q => by
    match vs, p with
    | [v], ⟨p1, _⟩ =>
      obtain ⟨a, xs, rfl, hs, ha⟩ := dp_lst p1
      exact ⟨a, xs, rfl, .inl (ex_l m.ex hs), q _ _ _ _ (Ex.refl _) m ⟨by rw [dpa_len ha], rfl⟩⟩
theorem ev_lenT (h : Ev ta σ G M (isD K (.tuple ds) M1)) : Ev (tCB (rLenS K) (tCons ta tNil)) σ G M (isV (.int (ds.length : Int)) M1) :=
  ev_CB (Ps := [fun G v => Dp K G v (.tuple ds)]) (ea_cons h ea_nil) fun G1 H F vs e m p Q q => by
    match vs, p with
    | [v], ⟨p1, _⟩ =>
      obtain ⟨a, xs, rfl, hs, ha⟩ := dp_tup p1
      exact ⟨a, xs, rfl, .inr (ex_t m.ex hs), q _ _ _ _ (Ex.refl _) m ⟨by rw [dpa_len ha], rfl⟩⟩
/-- len of a list at an address -/
theorem ev_lenA {p : Addr} {xs : List V} (h : Ev ta σ G M (isV (.ref p) M1)) (hl : AtL K G M1 p xs) : Ev (tCB (rLenS K) (tCons ta tNil)) σ G M (isV (.int (xs.length : Int)) M1) :=
  ev_CB (Ps := [fun _ v => v = .ref p]) (ea_cons h ea_nil) fun G1 H F vs e m p' Q q => by
    match vs, p' with
    | [v], ⟨p1, _⟩ =>
      subst p1
      exact ⟨p, xs, rfl, .inl (hl G1 H F e m), q _ _ _ _ (Ex.refl _) m ⟨rfl, rfl⟩⟩
/-- list(..): a new list, owned -/
theorem ev_listA {p : Addr} {xs : List V} (h : Ev ta σ G M (isV (.ref p) M1)) (hl : AtL K G M1 p xs) (hd : DpAll K G xs ds) : Ev (tCB (rListS K) (tCons ta tNil)) σ G M (own K ds M1) :=
  ev_CB (Ps := [fun _ v => v = .ref p]) (ea_cons h ea_nil) fun G1 H F vs e m p' Q q => by
    match vs, p' with
    | [v], ⟨p1, _⟩ =>
      subst p1
      exact ⟨p, xs, rfl, .inl (hl G1 H F e m), fun l hl => q _ G1 _ _ (Ex.refl _) (m.newMid hl) ⟨l, xs, rfl, rfl, dma hd e⟩⟩
theorem ev_tupD (h : Ev ta σ G M (isD K (.list ds) M1)) : Ev (tCB (rTupS K) (tCons ta tNil)) σ G M (isD K (.tuple ds) M1) :=
  ev_CB (Ps := [fun G v => Dp K G v (.list ds)]) (ea_cons h ea_nil) fun G1 H F vs e m p Q q => by
    match vs, p with
    | [v], ⟨p1, _⟩ =>
      obtain ⟨a, xs, rfl, hs, ha⟩ := dp_lst p1
      refine ⟨a, xs, rfl, .inl ⟨ex_l m.ex hs, fun l hl => ?_⟩⟩
      have g1 := m.free hl
      exact q _ _ _ _ (Ex.new g1) (m.newF hl) ⟨.tup (SqT.of upd_same) (dma ha (Ex.new g1)), rfl⟩
theorem ev_tupT (h : Ev ta σ G M (isD K (.tuple ds) M1)) : Ev (tCB (rTupS K) (tCons ta tNil)) σ G M (isD K (.tuple ds) M1) :=
  ev_CB (Ps := [fun G v => Dp K G v (.tuple ds)]) (ea_cons h ea_nil) fun G1 H F vs e m p Q q => by
    match vs, p with
    | [v], ⟨p1, _⟩ =>
      obtain ⟨a, xs, rfl, hs, ha⟩ := dp_tup p1
      exact ⟨a, xs, rfl, .inr ⟨ex_t m.ex hs, q _ _ _ _ (Ex.refl _) m ⟨p1, rfl⟩⟩⟩
theorem ev_int (h : Ev ta σ G M (isV (.int i) M1)) : Ev (tCB rInt1 (tCons ta tNil)) σ G M (isV (.int i) M1) :=
  ev_CB (Ps := [fun _ v => v = .int i]) (ea_cons h ea_nil) fun G1 H F vs e m p' Q q => by
    match vs, p' with
    | [v], ⟨p1, _⟩ =>
      subst p1
      exact .inl ⟨i, rfl, q _ _ _ _ (Ex.refl _) m ⟨rfl, rfl⟩⟩
/-- slices -/
theorem dpa_drop : ∀ {vs : List V} {ds : List PyData} (n : Nat), DpAll K G vs ds → DpAll K G (vs.drop n) (ds.drop n)
  | _, _, 0, h => h
  | _, [], n + 1, h => by cases h; exact .nil
  | _, d :: ds, n + 1, h => by
    cases h with
    | cons _ h2 => exact dpa_drop n h2
theorem dpa_take : ∀ {vs : List V} {ds : List PyData} (n : Nat), DpAll K G vs ds → DpAll K G (vs.take n) (ds.take n)
  | _, _, 0, h => .nil
  | _, [], n + 1, h => by cases h; exact .nil
  | _, d :: ds, n + 1, h => by
    cases h with
    | cons h1 h2 => exact .cons h1 (dpa_take n h2)
theorem dpa_rev : ∀ {vs : List V} {ds : List PyData}, DpAll K G vs ds → DpAll K G vs.reverse ds.reverse
  | _, [], h => by cases h; exact .nil
  | _, d :: ds, h => by
    cases h with
    | cons h1 h2 =>
      rw [List.reverse_cons, List.reverse_cons]
      exact dpa_app (dpa_rev h2) (.cons h1 .nil)
def cutD (ds : List PyData) (lo hi : Option Int) : List PyData := (ds.drop (HT.sIx ds.length 0 lo)).take (HT.sIx ds.length ds.length hi - HT.sIx ds.length 0 lo)
theorem dpa_cut {vs : List V} (h : DpAll K G vs ds) (lo hi : Option Int) : DpAll K G (cutV vs lo hi) (cutD ds lo hi) := by
  unfold cutV cutD
  rw [dpa_len h]
  exact dpa_take _ (dpa_drop _ h)
def EvO (to : TO) (σ : L2.St) (G : Hp) (M : Mem) (o : Option Int) (M' : Mem) : Prop := ∀ G1 H F, Ex G G1 → Me G1 (M ++ F) H → ∀ Q : Option Int → Hp → Prop, (∀ G2 H2, Ex G1 G2 → Me G2 (M' ++ F) H2 → Q o H2) → to σ H Q
theorem eo_none : EvO tNoPart σ G M none M := fun G1 H F e m Q q => q G1 H (Ex.refl _) m
theorem eo_some (h : Ev ta σ G M (isV (.int i) M1)) : EvO (tPart ta) σ G M (some i) M1 := fun G1 H F e m Q q => h G1 H F e m _ fun v G2 M2 H2 e2 m2 r => by
  obtain ⟨rfl, rfl⟩ := r
  exact ⟨i, rfl, q _ _ e2 m2⟩
theorem ev_slL {tl th : TO} {lo hi : Option Int} (h : Ev te σ G M (isD K (.list ds) M1)) (hl : EvO tl σ G M1 lo M1) (hh : EvO th σ G M1 hi M1) : Ev (tSl (rSlL K) te tl th) σ G M (own K (cutD ds lo hi) M1) := fun G1 H F e m Q q =>
  h G1 H F e m _ fun v G2 M2 H2 e2 m2 r => by
    obtain ⟨dv, rfl⟩ := r
    refine hl G2 H2 F (e.trans e2) m2 _ fun G3 H3 e3 m3 => hh G3 H3 F ((e.trans e2).trans e3) m3 _ fun G4 H4 e4 m4 => ?_
    obtain ⟨a, xs, rfl, hs, ha⟩ := dp_lst (dm dv (e3.trans e4))
    exact ⟨a, xs, rfl, ex_l m4.ex hs, fun p hp => q _ G4 _ _ ((e2.trans e3).trans e4) (m4.newMid hp) ⟨p, _, rfl, rfl, dpa_cut ha lo hi⟩⟩
theorem ev_slLA {tl th : TO} {lo hi : Option Int} {p : Addr} {xs : List V} (h : Ev te σ G M (isV (.ref p) M1)) (hA : AtL K G M1 p xs) (hd : DpAll K G xs ds) (hl : EvO tl σ G M1 lo M1) (hh : EvO th σ G M1 hi M1) : Ev (tSl (rSlL K) te tl th) σ G M (own K (cutD ds lo hi) M1) := fun G1 H F e m Q q =>
  h G1 H F e m _ fun v G2 M2 H2 e2 m2 r => by
    obtain ⟨rfl, rfl⟩ := r
    refine hl G2 H2 F (e.trans e2) m2 _ fun G3 H3 e3 m3 => hh G3 H3 F ((e.trans e2).trans e3) m3 _ fun G4 H4 e4 m4 => ?_
    have e14 := ((e.trans e2).trans e3).trans e4
    exact ⟨p, xs, rfl, hA _ _ _ e14 m4, fun p hp => q _ G4 _ _ ((e2.trans e3).trans e4) (m4.newMid hp) ⟨p, _, rfl, rfl, dpa_cut (dma hd e14) lo hi⟩⟩
theorem ev_revL (h : Ev te σ G M (isD K (.list ds) M1)) : Ev (tRevL K te) σ G M (own K ds.reverse M1) := fun G1 H F e m Q q =>
  h G1 H F e m _ fun v G2 M2 H2 e2 m2 r => by
    obtain ⟨dv, rfl⟩ := r
    obtain ⟨a, xs, rfl, hs, ha⟩ := dp_lst dv
    exact ⟨a, xs, rfl, ex_l m2.ex hs, fun p hp => q _ G2 _ _ e2 (m2.newMid hp) ⟨p, _, rfl, rfl, dpa_rev ha⟩⟩
end
section
variable {X : Cx} {K : PySem.W.Frag}
theorem k_len (hK : X.K = K) : CallR X (.builtin "len") (rLenS K) := hK ▸ c_len
theorem k_list (hK : X.K = K) : CallR X (.type "list") (rListS K) := hK ▸ c_list
theorem k_tup (hK : X.K = K) : CallR X (.type "tuple") (rTupS K) := hK ▸ c_tup
theorem k_isi (hK : X.K = K) : CallR X (.builtin "isinstance") (rIsi K) := hK ▸ call_isi
theorem k_all (hK : X.K = K) (hc : X.calm = true) : CallR X (.builtin "all") (rAll K) := hK ▸ cr_all hc
theorem k_sumT (hK : X.K = K) (hc : X.calm = true) : CallR X (.builtin "sum") (rSumT K) := hK ▸ cr_sumT hc
theorem k_eqD (hK : X.K = K) (hu : X.A.units + 64 < cLine) : OpR X (compareOp .Eq) (rEqD K) := hK ▸ op_eqD hu
theorem k_neD (hK : X.K = K) (hu : X.A.units + 64 < cLine) : OpR X (compareOp .NotEq) (rNeD K) := hK ▸ op_neD hu
theorem k_ixL (hK : X.K = K) : IxR X (rIxL K) := hK ▸ ix_list
theorem k_slL (hK : X.K = K) : SlR X (rSlL K) := hK ▸ sl_list
theorem k_fld {e : Expr} {ta : TE} {f : Str} {pos : Pos} (hK : X.K = K) (he : PE X e ta) (hb : attributeBase e f X.env (eval e X.env) = eval e X.env) : PE X (.Attribute e f pos) (tFld K ta f) := hK ▸ pe_fld he hb
end
end SX
set_option Elab.async false
set_option linter.all false
set_option maxRecDepth 100000
namespace SX
open PySem PySem.Spec L2
/-- data as it stands in the heap itself -/
def Da (K : PySem.W.Frag) (G : Hp) (M : Mem) (v : V) (d : PyData) : Prop := ∀ G1 H F, Ex G G1 → Me G1 (M ++ F) H → Dp K H v d
section
variable {E : XK} {K : PySem.W.Frag} {σ : L2.St} {G G' H : Hp} {M M1 M2 M3 F : Mem} {R : Post} {P P' : Po} {te ta tb : TE} {tt : TT} {t u : TS} {x y z v : V} {d e : PyData} {ds : List PyData} {a b : Bool} {i : Nat}
theorem Da.of (h : Dp K G v d) : Da K G M v d := fun _ _ _ e m => dm h (e.trans m.ex)
theorem Da.ex (h : Da K G M v d) (e : Ex G G') : Da K G' M v d := fun G1 H F e1 m => h G1 H F (e.trans e1) m
theorem Da.lst {p : Addr} {xs : List V} (h : AtL K G M p xs) (hd : DpAll K G xs ds) : Da K G M (.ref p) (.list ds) := fun G1 H F e m => .lst (h G1 H F e m) (dma hd (e.trans m.ex))
theorem ev_isiA {T : String} (hT : T = "int" ∨ T = "bool" ∨ T = "tuple" ∨ T = "list" ∨ T = "str") (h : Ev ta σ G M (isV x M1)) (hd : Da K G M1 x d) : Ev (tCB (rIsi K) (tCons ta (tCons (tC (.ty T)) tNil))) σ G M (isV (.bl (isTy d T)) M1) :=
  ev_CB (Ps := [fun _ v => v = x, fun _ v => v = .ty T]) (ea_cons h (ea_cons ev_c ea_nil)) fun G1 H F vs e m p Q q => by
    match vs, p with
    | [v, c], ⟨p1, p2, _⟩ =>
      subst p1 p2
      have p1 := hd G1 H F e m
      refine ⟨v, .ty T, .type (tyName d), .type T, isTy d T, rfl, .ty T, tyx_of p1, kit_ty ?_, q _ _ _ _ (Ex.refl _) m ⟨rfl, rfl⟩⟩
      unfold isTy
      cases p1 <;> dsimp only [tyName] <;> rcases hT with rfl | rfl | rfl | rfl | rfl <;> decide +kernel
theorem atI_int {α : Type} {xs : List α} {i : Int} {x : α} (h0 : 0 ≤ i) (h : xs[i.toNat]? = some x) : atI xs i = some x := by
  have := L2.atI_nat (j := i.toNat) h
  rwa [Int.toNat_of_nonneg h0] at this
/-- a new instance -/
theorem ev_make {α : Type} {pre : α → Hp → Mem → List V → Prop} {post : α → Mem → Post} {tA : TA} {E : XK} {C : Addr} {Ps : List (Hp → V → Prop)} (xx : Addr → Addr → α) (h : EvA tA σ G M Ps M1)
    (hp : ∀ G1 p dx vs, Ex G G1 → AllP G1 Ps vs → pre (xx p dx) G1 (M1 ++ [(p, .ins C dx [])]) (.ref p :: vs))
    (hq : ∀ G1 p dx v M2, Ex G G1 → post (xx p dx) (M1 ++ [(p, .ins C dx [])]) G1 v M2 → v = .non ∧ R G1 (.ref p) M2) : Ev (tMake C (spec pre post) [] E tA) σ G M R := fun G1 H F e m Q q =>
  h G1 H F e m _ fun vs G2 H2 e2 m2 a p dx hpn hdn hne => by
    have hp2 : upd H2 dx (.own p) p = none := by rw [upd_ne hne.symm]; exact hpn
    refine ⟨xx p dx, G2, _, F, (m2.new hdn).newMid hp2, by rw [List.append_nil]; exact hp G2 p dx vs (e.trans e2) a, fun v G3 M3 H3 e3 m3 r => ?_⟩
    obtain ⟨rfl, r3⟩ := hq G3 p dx v M3 ((e.trans e2).trans e3) r
    exact ⟨rfl, q _ G3 M3 H3 (e2.trans e3) m3 r3⟩
/-- o.f = e -/
theorem sv_fld {tv : TE} {f : Str} {p C dx : Addr} {fs : List (Str × V)} {n : Nat} (h : Ev tv σ G M R) (h1 : ∀ G1 v M1, Ex G G1 → R G1 v M1 → Ev ta σ G1 M1 (isV (.ref p) M1) ∧ M1[n]? = some (p, .ins C dx fs)) (hc : Cls K C) (hn : NoAttr K C f) (hl : fs.length < 1000)
    (q : ∀ G1 G2 v M1, Ex G G1 → Ex G1 G2 → R G1 v M1 → P.nx G2 σ (M1.set n (p, .ins C dx (putF f v fs)))) : Sv E (sFld K ta tv f) σ G M P := fun G1 H F D e m hd =>
  h G1 H F e m _ fun v G2 M2 H2 e2 m2 r2 => by
    obtain ⟨ha, hM⟩ := h1 G2 v M2 (e.trans e2) r2
    refine ha G2 H2 F (Ex.refl _) m2 _ fun w G3 M3 H3 e3 m3 r3 => ?_
    obtain ⟨rfl, rfl⟩ := r3
    exact ⟨p, C, dx, fs, rfl, m3.getF hM, hc, hn, hl, hd.nx _ _ _ _ (e2.trans e3) (m3.putF hM) (q G2 G3 v _ (e.trans e2) e3 r2)⟩
/-- forgetting what is owned -/
theorem sv_less {M' : Mem} (h : Sv E t σ G M P) : Sv E t σ G (M ++ M') P := fun G1 H F D e m hd => h G1 H F D e m.dropLast hd
theorem sv_retL {M' : Mem} (h : Ev te σ G M R) (k : ∀ v G' M1, Ex G G' → R G' v M1 → ∃ M0 Mx, M1 = M0 ++ Mx ∧ P.rt G' v M0) : Sv E (tRet te) σ G M P := fun G1 H F D e m hd =>
  h G1 H F e m _ fun v G2 M2 H2 e2 m2 r => by
    obtain ⟨M0, Mx, eM, r'⟩ := k v G2 M2 (e.trans e2) r
    subst eM
    exact hd.rt v G2 M0 H2 e2 m2.dropLast r'
end
structure Deck where
  a : Int
  b : Int
  c : Int
def Deck.ho (D : Deck) : HO := .lst [.int D.a, .int D.b, .int D.c]
def stir (c b : Int) : Int := ((((c * 48271 + b * 69621) % 2147483647) * ((c * 48271 + b * 69621) % 2147483647) + b) % 2147483629 * 40692) % 2147483399
/-- what is drawn, the deck then -/
def dv (D : Deck) (n : Int) : Int := if D.a > 0 then D.a % n else (stir D.c (D.b + 1) / 8) % n
def dn (D : Deck) (n : Int) : Deck := if D.a > 0 then ⟨D.a / n, D.b, D.c⟩ else ⟨D.a, D.b + 1, D.c⟩
theorem dv_lo {D : Deck} {n : Int} (h : 0 < n) : 0 ≤ dv D n := by
  unfold dv
  split <;> exact Int.emod_nonneg _ (by omega)
theorem dv_hi {D : Deck} {n : Int} (h : 0 < n) : dv D n < n := by
  unfold dv
  split <;> exact Int.emod_lt_of_pos _ h
abbrev drawPre : (Addr × Nat × Deck × Int) → Hp → Mem → List V → Prop := fun x G M vs => vs = [.ref x.1, .int x.2.2.2] ∧ 0 < x.2.2.2 ∧ x.2.2.2 < 2 ^ 200 ∧ M[x.2.1]? = some (x.1, x.2.2.1.ho)
abbrev drawPost : (Addr × Nat × Deck × Int) → Mem → Post := fun x M => isV (.int (dv x.2.2.1 x.2.2.2)) (M.set x.2.1 (x.1, (dn x.2.2.1 x.2.2.2).ho))
theorem ev_draw {σ : L2.St} {G : Hp} {M : Mem} {tA : TA} {E : XK} {dk : Addr} {D : Deck} {n : Int} {M1 : Mem} (i : Nat) (h : EvA tA σ G M [fun _ v => v = .ref dk, fun _ v => v = .int n] M1) (hi : M1[i]? = some (dk, D.ho)) (h0 : 0 < n) (h1 : n < 2 ^ 200) :
    Ev (tCall (spec drawPre drawPost) [] E tA) σ G M (isV (.int (dv D n)) (M1.set i (dk, (dn D n).ho))) :=
  ev_call (dk, i, D, n) h fun G1 vs e a => by
    match vs, a with
    | [v, w], ⟨p1, p2, _⟩ =>
      subst p1 p2
      exact ⟨rfl, h0, h1, hi⟩
end SX
set_option Elab.async false
set_option linter.all false
set_option maxRecDepth 100000
namespace SX
open PySem PySem.Spec L2
def isInt : PyData → Bool
  | .int _ => true
  | _ => false
def intOf : PyData → Int
  | .int n => n
  | _ => 0
def isWhole (d : PyData) (lo hi : Int) : Bool := isInt d && (decide (lo ≤ intOf d) && decide (intOf d ≤ hi))
theorem isInt_of {d : PyData} (h : isTy d "int" = true) (h2 : isTy d "bool" = false) : d = .int (intOf d) := by
  cases d with
  | int n => rfl
  | bool b =>
    have : isTy (.bool b) "bool" = true := by show isTyS "bool" "bool" = true; decide +kernel
    rw [this] at h2
    cases h2
  | none => exact absurd h (by show ¬ (isTyS "NoneType" "int" = true); decide +kernel)
  | str s => exact absurd h (by show ¬ (isTyS "str" "int" = true); decide +kernel)
  | list s => exact absurd h (by show ¬ (isTyS "list" "int" = true); decide +kernel)
  | tuple s => exact absurd h (by show ¬ (isTyS "tuple" "int" = true); decide +kernel)
  | dict s => exact absurd h (by show ¬ (isTyS "dict" "int" = true); decide +kernel)
theorem isTy_int (n : Int) : isTy (.int n) "int" = true := by show isTyS "int" "int" = true; decide +kernel
theorem isTy_int_b (n : Int) : isTy (.int n) "bool" = false := by show isTyS "int" "bool" = false; decide +kernel
theorem isTy_tup (n : List PyData) : isTy (.tuple n) "tuple" = true := by show isTyS "tuple" "tuple" = true; decide +kernel
theorem isTy_lst (n : List PyData) : isTy (.list n) "list" = true := by show isTyS "list" "list" = true; decide +kernel
theorem isInt_ty (d : PyData) : (isTy d "int" && !isTy d "bool") = isInt d := by
  cases h : (isTy d "int" && !isTy d "bool") with
  | true =>
    simp only [Bool.and_eq_true, Bool.not_eq_true'] at h
    rw [isInt_of h.1 h.2]
    rfl
  | false =>
    cases d with
    | int n =>
      rw [isTy_int, isTy_int_b] at h
      cases h
    | _ => rfl
theorem tup_of {d : PyData} (h : isTy d "tuple" = true) : ∃ ds, d = .tuple ds := by
  cases d with
  | tuple ds => exact ⟨ds, rfl⟩
  | int n => exact absurd h (by show ¬ (isTyS "int" "tuple" = true); decide +kernel)
  | bool b => exact absurd h (by show ¬ (isTyS "bool" "tuple" = true); decide +kernel)
  | none => exact absurd h (by show ¬ (isTyS "NoneType" "tuple" = true); decide +kernel)
  | str s => exact absurd h (by show ¬ (isTyS "str" "tuple" = true); decide +kernel)
  | list s => exact absurd h (by show ¬ (isTyS "list" "tuple" = true); decide +kernel)
  | dict s => exact absurd h (by show ¬ (isTyS "dict" "tuple" = true); decide +kernel)
theorem lst_of {d : PyData} (h : isTy d "list" = true) : ∃ ds, d = .list ds := by
  cases d with
  | list ds => exact ⟨ds, rfl⟩
  | int n => exact absurd h (by show ¬ (isTyS "int" "list" = true); decide +kernel)
  | bool b => exact absurd h (by show ¬ (isTyS "bool" "list" = true); decide +kernel)
  | none => exact absurd h (by show ¬ (isTyS "NoneType" "list" = true); decide +kernel)
  | str s => exact absurd h (by show ¬ (isTyS "str" "list" = true); decide +kernel)
  | tuple s => exact absurd h (by show ¬ (isTyS "tuple" "list" = true); decide +kernel)
  | dict s => exact absurd h (by show ¬ (isTyS "dict" "list" = true); decide +kernel)
abbrev wholePre (K : PySem.W.Frag) : (PyData × Int × Int) → Hp → Mem → List V → Prop := fun x G M vs => ∃ v, vs = [v, .int x.2.1, .int x.2.2] ∧ Dp K G v x.1
abbrev wholePost : (PyData × Int × Int) → Mem → Post := fun x M => isV (.bl (isWhole x.1 x.2.1 x.2.2)) M
/-- one argument, any data; a truth value back -/
abbrev d1Pre (K : PySem.W.Frag) : PyData → Hp → Mem → List V → Prop := fun d G M vs => ∃ v, vs = [v] ∧ Dp K G v d
abbrev b1Post (f : PyData → Bool) : PyData → Mem → Post := fun d M => isV (.bl (f d)) M
theorem ev_whole {K : PySem.W.Frag} {σ : L2.St} {G : Hp} {M M1 : Mem} {tA : TA} {E : XK} {d : PyData} {lo hi : Int} (h : EvA tA σ G M [fun G v => Dp K G v d, fun _ v => v = .int lo, fun _ v => v = .int hi] M1) :
    Ev (tCall (spec (wholePre K) wholePost) [] E tA) σ G M (isV (.bl (isWhole d lo hi)) M1) :=
  ev_call (d, lo, hi) h fun G1 vs e a => by
    match vs, a with
    | [v, w, u], ⟨p1, p2, p3, _⟩ =>
      subst p2 p3
      exact ⟨v, rfl, p1⟩
theorem ev_d1 {K : PySem.W.Frag} {σ : L2.St} {G : Hp} {M M1 : Mem} {ta : TE} {E : XK} {d : PyData} {f : PyData → Bool} (h : Ev ta σ G M (isD K d M1)) :
    Ev (tCall (spec (d1Pre K) (b1Post f)) [] E (tCons ta tNil)) σ G M (isV (.bl (f d)) M1) :=
  ev_call d (ea_cons h ea_nil) fun G1 vs e a => by
    match vs, a with
    | [v], ⟨p1, _⟩ => exact ⟨v, rfl, p1⟩
def horner (base : Int) (figs : List Int) (last : Int) : Int := figs.foldr (fun f v => v * base + f) last
def colD (c : List Int) : PyData := .tuple (c.map .int)
def isCol (base rows : Int) : PyData → Bool
  | .tuple ds => decide ((ds.length : Int) = rows) && ds.all fun d => isWhole d 0 (base - 1)
  | _ => false
def areCols (base rows : Int) : PyData → Bool
  | .list ds => ds.all fun d => isCol base rows d
  | _ => false
def GoodCol (b r : Int) (c : List Int) : Prop := (c.length : Int) = r ∧ ∀ f ∈ c, 0 ≤ f ∧ f < b
theorem isCol_good {b r : Int} {c : List Int} (h : GoodCol b r c) : isCol b r (colD c) = true := by
  unfold isCol colD
  simp only [List.length_map, Bool.and_eq_true, decide_eq_true_eq, List.all_eq_true, List.mem_map]
  refine ⟨h.1, ?_⟩
  rintro d ⟨f, hf, rfl⟩
  have := h.2 f hf
  exact Bool.and_eq_true_iff.mpr ⟨rfl, Bool.and_eq_true_iff.mpr ⟨decide_eq_true this.1, decide_eq_true (show f ≤ b - 1 by omega)⟩⟩
theorem areCols_good {b r : Int} {cs : List (List Int)} (h : ∀ c ∈ cs, GoodCol b r c) : areCols b r (.list (cs.map colD)) = true := by
  unfold areCols
  simp only [List.all_eq_true, List.mem_map]
  rintro d ⟨c, hc, rfl⟩
  exact isCol_good (h c hc)
def valueOf (b : Int) (cs : List (List Int)) : Int := horner b (cs.map List.sum) 0
theorem s_br : ¬ (("_base" : Str) = "_rows") := by decide +kernel
theorem s_bc : ¬ (("_base" : Str) = "_columns") := by decide +kernel
theorem s_rc : ¬ (("_rows" : Str) = "_columns") := by decide +kernel
def shF (b r : V) (l : V) : List (Str × V) := putF "_columns" l (putF "_rows" r (putF "_base" b []))
theorem shF_b {b r l : V} : (shF b r l).lookup ("_base" : Str) = some b := by
  unfold shF
  rw [lookup_putF, if_neg s_bc, lookup_putF, if_neg s_br, lookup_putF, if_pos rfl]
theorem shF_r {b r l : V} : (shF b r l).lookup ("_rows" : Str) = some r := by
  unfold shF
  rw [lookup_putF, if_neg s_rc, lookup_putF, if_pos rfl]
theorem shF_c {b r l : V} : (shF b r l).lookup ("_columns" : Str) = some l := by
  unfold shF
  rw [lookup_putF, if_pos rfl]
theorem shF_no {b r l : V} {m : Str} (h1 : ¬ m = "_base") (h2 : ¬ m = "_rows") (h3 : ¬ m = "_columns") : (shF b r l).lookup m = none := by
  unfold shF
  rw [lookup_putF, if_neg h3, lookup_putF, if_neg h2, lookup_putF, if_neg h1]
  rfl
/-- a sheet at p, whoever owns its list -/
def ShAt (K : PySem.W.Frag) (C : Addr) (G : Hp) (M : Mem) (p : Addr) (b r : Int) (cs : List (List Int)) : Prop :=
  ∃ dx l xs, At G M p (.ins C dx (shF (.int b) (.int r) (.ref l))) ∧ AtL K G M l xs ∧ DpAll K G xs (cs.map colD)
theorem ShAt.ex {K : PySem.W.Frag} {C : Addr} {G G' : Hp} {M : Mem} {p : Addr} {b r : Int} {cs : List (List Int)} (h : ShAt K C G M p b r cs) (e : Ex G G') : ShAt K C G' M p b r cs := by
  obtain ⟨dx, l, xs, h1, h2, h3⟩ := h
  exact ⟨dx, l, xs, h1.ex e, h2.ex e, dma h3 e⟩
/-- a promise of a sheet's reading method -/
abbrev shPre (K : PySem.W.Frag) (C : Addr) : (Addr × Int × Int × List (List Int)) → Hp → Mem → List V → Prop := fun x G M vs => vs = [.ref x.1] ∧ ShAt K C G M x.1 x.2.1 x.2.2.1 x.2.2.2
theorem kept_map {α : Type} (l : List α) (f : α → PyData) : kept (l.map f).length (fun _ => true) (fun i => ((l.map f)[i]?).getD .none) = l.map f := by
  rw [kept_all]
  apply List.ext_getElem?
  intro i
  rw [List.getElem?_map, List.getElem?_map]
  by_cases h : i < l.length
  · rw [List.getElem?_range (by rw [List.length_map]; exact h), List.getElem?_eq_getElem h]
    simp [List.getElem?_map, h]
  · rw [List.getElem?_eq_none (by simp; omega), List.getElem?_eq_none (by omega)]
    rfl
theorem kept_ids (ds : List PyData) : kept ds.length (fun _ => true) (fun i => (ds[i]?).getD .none) = ds := by
  have := kept_map ds id
  simpa using this
theorem kept_ext {n : Nat} {ds : List PyData} {fd : Nat → PyData} (hl : ds.length = n) (h : ∀ i d, ds[i]? = some d → fd i = d) : kept n (fun _ => true) fd = ds := by
  rw [kept_all]
  apply List.ext_getElem?
  intro i
  rw [List.getElem?_map]
  by_cases hi : i < n
  · rw [List.getElem?_range hi]
    have e : ds[i]? = some ds[i] := List.getElem?_eq_getElem (by omega)
    rw [e]
    exact congrArg some (h i _ e)
  · rw [List.getElem?_eq_none (by simp; omega), List.getElem?_eq_none (by omega)]
    rfl
theorem kept_const {n : Nat} {x : Int} : kept n (fun _ => true) (fun _ => PyData.int x) = (List.replicate n x).map PyData.int := by
  rw [kept_all, List.map_replicate]
  apply List.ext_getElem?
  intro k
  rw [List.getElem?_map]
  by_cases hk : k < n
  · rw [List.getElem?_range hk, List.getElem?_replicate, if_pos hk]
    rfl
  · rw [List.getElem?_eq_none (by simp; omega), List.getElem?_eq_none (by simp; omega)]
    rfl
/-- the list of the script -/
def spLaw (K : PySem.W.Frag) : Sp := fun vs H Q _ => ∃ (a : Addr) (ns : List Int), vs = [.ref a] ∧ SqL K H a (ns.map V.int) ∧ ns.length ≤ 63 ∧ ∀ H', Q (.bl true) H'
abbrev lawPre (K : PySem.W.Frag) : List Int → Hp → Mem → List V → Prop := fun ns G M vs => ∃ v, vs = [v] ∧ Dp K G v (.list (ns.map .int)) ∧ ns.length ≤ 63 ∧ M = []
abbrev lawPost : List Int → Mem → Post := fun _ M G v M' => v = .bl true
theorem law_fin {P : Program} {w : World} {K : PySem.W.Frag} {mg : Str → Option Value} {base : Heap} {CX : CXT} {k : Nat} {f : Addr} {fd : FuncData} {ps : List Str} (F : FnOk P w K mg base CX k f fd ps (spec (lawPre K) lawPost)) : FnOk P w K mg base CX k f fd ps (spLaw K) :=
  F.imp fun vs H Q E h => by
    obtain ⟨a, ns, rfl, hs, hl, q⟩ := h
    refine ⟨ns, H, [], [], ⟨Ex.refl H, fun p hp => (by cases hp), List.nodup_nil⟩, ⟨.ref a, rfl, .lst hs (ints_dpAll ns), hl, rfl⟩, fun v G' M' H' _ _ r => ?_⟩
    subst r
    exact q H'
end SX
namespace SX
open PySem PySem.Spec L2
section
variable {K : PySem.W.Frag} {σ : L2.St} {G : Hp} {M M1 : Mem} {tl te : TE} {own' : List Nat} {k : Nat} {ds : List PyData}
theorem et_yes : EvT tYes σ G M true M := fun _ _ _ _ m _ q => q _ _ (Ex.refl _) m
theorem kept_bools {f : PyData → Bool} : kept ds.length (fun _ => true) (fun i => .bool (f ((ds[i]?).getD .none))) = (ds.map f).map .bool := by
  refine kept_ext (by simp) fun i d hd => ?_
  rw [List.map_map, List.getElem?_map] at hd
  cases q : ds[i]? with
  | none => rw [q] at hd; cases hd
  | some z => rw [q] at hd; simpa using hd
theorem all_map_id {f : PyData → Bool} : (ds.map f).all id = ds.all f := by simp [List.all_map, Function.comp_def]
theorem ev_bsT {f : PyData → Bool} (hs : Ev tl σ G M (isD K (.tuple ds) M1)) (hn : ds.length ≤ 100000)
    (he : ∀ (i : Nat) d x G', ds[i]? = some d → Ex G G' → Dp K G' x d → Ev te ((wipe σ own').set k (some x)) G' M1 (isV (.bl (f d)) M1)) (hw : ∀ x, wipe ((wipe σ own').set k (some x)) own' = wipe σ own') :
    Ev (tLc (iTup K tl) (gName k) tYes te own') σ G M (isD K (.list ((ds.map f).map .bool)) M1) := by
  rw [← kept_bools]
  refine Ev.frz (ev_lcT (K := K) (fun _ => true) (fun _ => M1) _ hs hn (fun _ _ _ _ _ _ _ => et_yes) (fun i d x G' hd e dx _ => ?_) (fun _ _ => rfl) hw)
  rw [hd]
  exact ev_bD (he i d x G' hd e dx)
theorem ev_bsR {tn : TA} {n : Int} {f : Nat → Bool} (hs : EvA tn σ G M [fun _ v => v = .int n] M1) (hn : n ≤ 100000) (hn0 : -100000 ≤ n)
    (he : ∀ (i : Nat) G', i < n.toNat → Ex G G' → Ev te ((wipe σ own').set k (some (.int (0 + (i : Int))))) G' M1 (isV (.bl (f i)) M1)) (hw : ∀ x, wipe ((wipe σ own').set k (some x)) own' = wipe σ own') :
    Ev (tLc (iRng1 tn) (gName k) tYes te own') σ G M (isD K (.list (((List.range n.toNat).map f).map .bool)) M1) := by
  have := Ev.frz (ev_lcR (K := K) (own' := own') (k := k) (fun _ => true) (fun _ => M1) (fun i => .bool (f i)) hs hn hn0 (fun _ _ _ _ => et_yes) (fun i G' hi e _ => ev_bD (he i G' hi e)) (fun _ _ => rfl) hw)
  rw [kept_all] at this
  rw [List.map_map]
  exact this
theorem ev_allT {f : PyData → Bool} (hs : Ev tl σ G M (isD K (.tuple ds) M1)) (hn : ds.length ≤ 100000)
    (he : ∀ (i : Nat) d x G', ds[i]? = some d → Ex G G' → Dp K G' x d → Ev te ((wipe σ own').set k (some x)) G' M1 (isV (.bl (f d)) M1)) (hw : ∀ x, wipe ((wipe σ own').set k (some x)) own' = wipe σ own') :
    Ev (tCB (rAll K) (tCons (tLc (iTup K tl) (gName k) tYes te own') tNil)) σ G M (isV (.bl (ds.all f)) M1) := by
  rw [← all_map_id]
  exact ev_all (ev_bsT hs hn he hw)
theorem ev_allR {tn : TA} {n : Int} {f : Nat → Bool} (hs : EvA tn σ G M [fun _ v => v = .int n] M1) (hn : n ≤ 100000) (hn0 : -100000 ≤ n)
    (he : ∀ (i : Nat) G', i < n.toNat → Ex G G' → Ev te ((wipe σ own').set k (some (.int (0 + (i : Int))))) G' M1 (isV (.bl (f i)) M1)) (hw : ∀ x, wipe ((wipe σ own').set k (some x)) own' = wipe σ own') :
    Ev (tCB (rAll K) (tCons (tLc (iRng1 tn) (gName k) tYes te own') tNil)) σ G M (isV (.bl ((List.range n.toNat).all f)) M1) := by
  have e : ((List.range n.toNat).map f).all id = (List.range n.toNat).all f := by simp [List.all_map, Function.comp_def]
  rw [← e]
  exact ev_all (K := K) (ev_bsR hs hn hn0 he hw)
end
end SX
namespace SX
open PySem PySem.Spec L2
abbrev placePre (K : PySem.W.Frag) : (Int × List Int × Int) → Hp → Mem → List V → Prop := fun x G M vs => ∃ v, vs = [.int x.1, v, .int x.2.2] ∧ Dp K G v (.list (x.2.1.map .int)) ∧ -(2 ^ 64) < x.1 ∧ x.1 < 2 ^ 64
abbrev placePost : (Int × List Int × Int) → Mem → Post := fun x M => isV (.int (horner x.1 x.2.1 x.2.2)) M
def dlen : PyData → Nat
  | .tuple ds => ds.length
  | .list ds => ds.length
  | _ => 0
/-- (base, rows, data): a truth value back; what is long is not let -/
abbrev colPre (K : PySem.W.Frag) : (Int × Int × PyData) → Hp → Mem → List V → Prop := fun x G M vs => ∃ v, vs = [.int x.1, .int x.2.1, v] ∧ Dp K G v x.2.2 ∧ dlen x.2.2 ≤ 100000
abbrev colPost (f : Int → Int → PyData → Bool) : (Int × Int × PyData) → Mem → Post := fun x M => isV (.bl (f x.1 x.2.1 x.2.2)) M
theorem ev_col {K : PySem.W.Frag} {σ : L2.St} {G : Hp} {M M1 : Mem} {tA : TA} {E : XK} {f : Int → Int → PyData → Bool} {d : PyData} {b r : Int} (h : EvA tA σ G M [fun _ v => v = .int b, fun _ v => v = .int r, fun G v => Dp K G v d] M1) (hz : dlen d ≤ 100000) :
    Ev (tCall (spec (colPre K) (colPost f)) [] E tA) σ G M (isV (.bl (f b r d)) M1) :=
  ev_call (b, r, d) h fun G1 vs e a => by
    match vs, a with
    | [v, w, u], ⟨p1, p2, p3, _⟩ =>
      subst p1 p2
      exact ⟨u, rfl, p3, hz⟩
end SX
namespace SX
open PySem PySem.Spec L2
theorem At.more {G : Hp} {M M' : Mem} {a : Addr} {o : HO} (h : At G M a o) : At G (M ++ M') a o := fun G1 H F e m => h G1 H (M' ++ F) e (by rw [List.append_assoc] at m; exact m)
theorem AtL.more {K : PySem.W.Frag} {G : Hp} {M M' : Mem} {a : Addr} {xs : List V} (h : AtL K G M a xs) : AtL K G (M ++ M') a xs := fun G1 H F e m => h G1 H (M' ++ F) e (by rw [List.append_assoc] at m; exact m)
/-- data; a list may be owned, its items stand still -/
def Dt (K : PySem.W.Frag) (G : Hp) (M : Mem) (v : V) (d : PyData) : Prop := Dp K G v d ∨ ∃ a xs ds, v = .ref a ∧ d = .list ds ∧ AtL K G M a xs ∧ DpAll K G xs ds
theorem Dt.ex {K : PySem.W.Frag} {G G' : Hp} {M : Mem} {v : V} {d : PyData} (h : Dt K G M v d) (e : Ex G G') : Dt K G' M v d := by
  rcases h with h | ⟨a, xs, ds, h1, h2, h3, h4⟩
  · exact .inl (dm h e)
  · exact .inr ⟨a, xs, ds, h1, h2, h3.ex e, dma h4 e⟩
theorem Dt.da {K : PySem.W.Frag} {G : Hp} {M : Mem} {v : V} {d : PyData} (h : Dt K G M v d) : Da K G M v d := by
  rcases h with h | ⟨a, xs, ds, rfl, rfl, h3, h4⟩
  · exact .of h
  · exact .lst h3 h4
theorem Dt.lst {K : PySem.W.Frag} {G : Hp} {M : Mem} {v : V} {ds : List PyData} (h : Dt K G M v (.list ds)) : ∃ a xs, v = .ref a ∧ AtL K G M a xs ∧ DpAll K G xs ds := by
  rcases h with h | ⟨a, xs, ds', h1, h2, h3, h4⟩
  · obtain ⟨a, xs, h1, h2, h3⟩ := dp_lst h
    exact ⟨a, xs, h1, .G h2, h3⟩
  · cases h2
    exact ⟨a, xs, h1, h3, h4⟩
abbrev colsPre (K : PySem.W.Frag) : (Int × Int × PyData) → Hp → Mem → List V → Prop := fun x G M vs => ∃ v, vs = [.int x.1, .int x.2.1, v] ∧ Dt K G M v x.2.2 ∧ dlen x.2.2 ≤ 100000 ∧ ∀ ds, x.2.2 = .list ds → ∀ c ∈ ds, dlen c ≤ 100000
theorem ev_cols {K : PySem.W.Frag} {σ : L2.St} {G : Hp} {M M1 : Mem} {tA : TA} {E : XK} {f : Int → Int → PyData → Bool} {d : PyData} {b r : Int} {x : V} (h : EvA tA σ G M [fun _ v => v = .int b, fun _ v => v = .int r, fun _ v => v = x] M1) (hd : Dt K G M1 x d) (hz : dlen d ≤ 100000) (hy : ∀ ds, d = .list ds → ∀ c ∈ ds, dlen c ≤ 100000) :
    Ev (tCall (spec (colsPre K) (colPost f)) [] E tA) σ G M (isV (.bl (f b r d)) M1) :=
  ev_call (b, r, d) h fun G1 vs e a => by
    match vs, a with
    | [v, w, u], ⟨p1, p2, p3, _⟩ =>
      subst p1 p2 p3
      exact ⟨u, rfl, hd.ex e, hz, hy⟩
/-- good arguments of a sheet -/
structure GoodSh (b r : Int) (cs : List (List Int)) : Prop where
  b2 : 2 ≤ b
  b12 : b ≤ 12
  r1 : 1 ≤ r
  r4 : r ≤ 4
  len : cs.length ≤ 10000
  col : ∀ c ∈ cs, GoodCol b r c
theorem dlen_colD (c : List Int) : dlen (colD c) = c.length := by simp [dlen, colD]
theorem GoodSh.clen {b r : Int} {cs : List (List Int)} (h : GoodSh b r cs) {c : List Int} (hc : c ∈ cs) : c.length ≤ 4 := by
  have := (h.col c hc).1
  have := h.r4
  omega
/-- a sheet is made: x = (p, dx, b, r, cs); columns a list of data that may be owned -/
abbrev mkShPre (K : PySem.W.Frag) (C : Addr) : (Addr × Addr × Int × Int × List (List Int)) → Hp → Mem → List V → Prop := fun x G M vs => ∃ a xs M0, vs = [.ref x.1, .int x.2.2.1, .int x.2.2.2.1, .ref a] ∧ M = M0 ++ [(x.1, .ins C x.2.1 [])] ∧ AtL K G M0 a xs ∧ DpAll K G xs (x.2.2.2.2.map colD) ∧ GoodSh x.2.2.1 x.2.2.2.1 x.2.2.2.2
abbrev mkShPost (K : PySem.W.Frag) (C : Addr) : (Addr × Addr × Int × Int × List (List Int)) → Mem → Post := fun x M G v M' => v = .non ∧ ∃ l xs M0, M = M0 ++ [(x.1, .ins C x.2.1 [])] ∧ M' = M0 ++ [(x.1, .ins C x.2.1 (shF (.int x.2.2.1) (.int x.2.2.2.1) (.ref l))), (l, .lst xs)] ∧ DpAll K G xs (x.2.2.2.2.map colD)
end SX
namespace SX
open PySem PySem.Spec L2
theorem ev_place {K : PySem.W.Frag} {σ : L2.St} {G : Hp} {M M1 : Mem} {tA : TA} {E : XK} {figs : List Int} {b last : Int} (h : EvA tA σ G M [fun _ v => v = .int b, fun G v => Dp K G v (.list (figs.map .int)), fun _ v => v = .int last] M1) (hb : -(2 ^ 64) < b ∧ b < 2 ^ 64) :
    Ev (tCall (spec (placePre K) placePost) [] E tA) σ G M (isV (.int (horner b figs last)) M1) :=
  ev_call (b, figs, last) h fun G1 vs e a => by
    match vs, a with
    | [v, w, u], ⟨p1, p2, p3, _⟩ =>
      subst p1 p3
      exact ⟨w, rfl, p2, hb⟩
abbrev shGPre (K : PySem.W.Frag) (C : Addr) : (Addr × Int × Int × List (List Int)) → Hp → Mem → List V → Prop := fun x G M vs => shPre K C x G M vs ∧ x.2.2.2.length ≤ 100000 ∧ (-(2 ^ 64) < x.2.1 ∧ x.2.1 < 2 ^ 64)
/-- [e for x in l] over a list at an address that stands still -/
theorem ev_mapA {K : PySem.W.Frag} {σ : L2.St} {G : Hp} {M M1 : Mem} {tl te : TE} {own' : List Nat} {k : Nat} {p : Addr} {xs : List V} {ds es : List PyData} (fd : Nat → PyData) (hs : Ev tl σ G M (isV (.ref p) M1)) (hA : AtL K G M1 p xs) (hd : DpAll K G xs ds) (hn : ds.length ≤ 100000)
    (he : ∀ (i : Nat) d x G', ds[i]? = some d → Ex G G' → Dp K G' x d → Ev te ((wipe σ own').set k (some x)) G' M1 (isD K (fd i) M1)) (hw : ∀ x, wipe ((wipe σ own').set k (some x)) own' = wipe σ own')
    (hk : kept ds.length (fun _ => true) fd = es) : Ev (tLc (iList K tl) (gName k) tYes te own') σ G M (own K es M1) := fun G1 H F e m Q q =>
  hs G1 H F e m _ fun v G2 M2 H2 e2 m2 r2 => by
    obtain ⟨rfl, rfl⟩ := r2
    have hln := dpa_len hd
    refine ⟨p, rfl, ⟨xs, hA _ _ _ (e.trans e2) m2⟩, fun D hD => lc_list (K := K) (a := p) (xs := xs) (fun i H' => ∃ G' vs, Ex G2 G' ∧ Me G' (M2 ++ (D, .lst vs) :: F) H' ∧ DpAll K G' vs (kept i (fun _ => true) fd)) ?_ ?_ ?_ ?_⟩
    · exact ⟨G2, [], Ex.refl _, by rw [mem_mid]; exact m2.newMid hD, .nil⟩
    · rintro i H' _ ⟨G', vs, e', m', _⟩
      exact hA _ _ _ ((e.trans e2).trans e') m'
    · rintro i x H' hx ⟨G', vs, e', m', da⟩
      obtain ⟨d, hd', dx⟩ := dpa_atV hd hx
      have hi : i < xs.length := (List.getElem?_eq_some_iff.mp hx).1
      refine ⟨hw x, lc_turn (K := K) (fd := fd) (Mi := fun _ => M2) (b := true) et_yes (fun _ => he i d x G' hd' ((e.trans e2).trans e') (dm dx ((e.trans e2).trans e'))) (fun z => by cases z) m' e' da ?_ ?_⟩
      · rw [dpa_len da]
        have := kept_len i (fun _ => true) fd
        exact sz_ok (by omega)
      · intro G3 vs' H3 e3 m3 d3
        exact ⟨G3, vs', e3, m3, by rw [kept_succ]; exact d3⟩
    · rintro H' ⟨G', vs, e', m', da⟩
      rw [hln, hk] at da
      rw [mem_mid] at m'
      exact q _ G' _ H' (e2.trans e') m' ⟨D, vs, rfl, rfl, da⟩
/-- len(o), o[i] of a sheet -/
theorem ev_lenO {α : Type} {pre : α → Hp → Mem → List V → Prop} {post : α → Mem → Post} {σ : L2.St} {G : Hp} {M M1 : Mem} {ta : TE} {C p dx : Addr} {fs : List (Str × V)} {E : XK} {n : Int} (xx : α) (h : Ev ta σ G M (isV (.ref p) M1)) (ha : At G M1 p (.ins C dx fs)) (hp : ∀ G1, Ex G G1 → pre xx G1 M1 [.ref p])
    (hq : ∀ G1 v M2, post xx M1 G1 v M2 → v = .int n ∧ M2 = M1) (hn : 0 ≤ n ∧ n < 2 ^ 63) : Ev (tCB (rLenO C (spec pre post) E) (tCons ta tNil)) σ G M (isV (.int n) M1) :=
  ev_CB (Ps := [fun _ v => v = .ref p]) (ea_cons h ea_nil) fun G1 H F vs e m p' Q q => by
    match vs, p' with
    | [v], ⟨p1, _⟩ =>
      subst p1
      refine ⟨p, dx, fs, rfl, ha G1 H F e m, xx, G1, M1, F, m, hp G1 e, fun v' G' M' H' e' m' r => ?_⟩
      obtain ⟨rfl, rfl⟩ := hq G' v' M' r
      exact ⟨n, rfl, hn, q _ G' _ H' e' m' ⟨rfl, rfl⟩⟩
end SX
namespace SX
open PySem PySem.Spec L2
section
variable {K : PySem.W.Frag} {σ : L2.St} {G : Hp} {M M1 : Mem} {tl te : TE} {own' : List Nat} {k : Nat} {ds : List PyData} {p : Addr} {xs : List V}
theorem ev_allA {f : PyData → Bool} (hs : Ev tl σ G M (isV (.ref p) M1)) (hA : AtL K G M1 p xs) (hd : DpAll K G xs ds) (hn : ds.length ≤ 100000)
    (he : ∀ (i : Nat) d x G', ds[i]? = some d → Ex G G' → Dp K G' x d → Ev te ((wipe σ own').set k (some x)) G' M1 (isV (.bl (f d)) M1)) (hw : ∀ x, wipe ((wipe σ own').set k (some x)) own' = wipe σ own') :
    Ev (tCB (rAll K) (tCons (tLc (iList K tl) (gName k) tYes te own') tNil)) σ G M (isV (.bl (ds.all f)) M1) := by
  rw [← all_map_id]
  refine ev_all (Ev.frz (ev_mapA (K := K) (fun i => .bool (f ((ds[i]?).getD .none))) hs hA hd hn (fun i d x G' h e dx => ?_) hw kept_bools))
  rw [h]
  exact ev_bD (he i d x G' h e dx)
/-- a written tuple of any values -/
theorem ev_tupV {t : TA} {vs : List V} (h : EvA t σ G M (vs.map fun x => fun _ v => v = x) M1) (hl : vs.length ≤ 1000) : Ev (tTup t) σ G M (fun G v M' => ∃ p, v = .ref p ∧ M' = M1 ∧ G p = some (.tup vs)) := fun G1 H F e m Q q =>
  h G1 H F e m _ fun ws G2 H2 e2 m2 a => by
    have hv : ws = vs := by
      have : ∀ {xs vs : List V}, AllP G2 (xs.map fun x => fun _ v => v = x) vs → vs = xs := by
        intro xs
        induction xs with
        | nil =>
          intro vs a
          cases vs with
          | nil => rfl
          | cons _ _ => exact a.elim
        | cons x xs ih =>
          intro vs a
          cases vs with
          | nil => exact a.elim
          | cons v vs => rw [a.1, ih a.2]
      exact this a
    subst hv
    refine ⟨Nat.le_of_lt (small1000 hl), fun p hp => ?_⟩
    have g2 := m2.free hp
    exact q _ _ _ _ (e2.trans (Ex.new g2)) (m2.newF hp) ⟨p, rfl, rfl, upd_same⟩
/-- a sheet is made: the instance stands still, its list is owned -/
theorem ev_mkSh {tA : TA} {E : XK} {C a : Addr} {b r : Int} {cs : List (List Int)} (h : EvA tA σ G M [fun _ v => v = .int b, fun _ v => v = .int r, fun _ v => v = .ref a] M1) (hA : AtL K G M1 a xs) (hd : DpAll K G xs (cs.map colD)) (g : GoodSh b r cs) :
    Ev (tMake C (spec (mkShPre K C) (mkShPost K C)) [] E tA) σ G M (fun G1 v M' => ∃ p dx l ys, v = .ref p ∧ G1 p = some (.ins C dx (shF (.int b) (.int r) (.ref l))) ∧ M' = M1 ++ [(l, .lst ys)] ∧ DpAll K G1 ys (cs.map colD)) := by
  have h0 := ev_make (E := E) (C := C) (pre := mkShPre K C) (post := mkShPost K C) (R := fun G1 v M' => ∃ p dx l ys, v = .ref p ∧ M' = M1 ++ [(p, .ins C dx (shF (.int b) (.int r) (.ref l))), (l, .lst ys)] ∧ DpAll K G1 ys (cs.map colD)) (fun p dx => (p, dx, b, r, cs)) h
    (fun G1 p dx vs e q => by
      match vs, q with
      | [v1, v2, v3], ⟨p1, p2, p3, _⟩ =>
        subst p1 p2 p3
        exact ⟨a, xs, M1, rfl, rfl, hA.ex e, dma hd e, g⟩)
    (fun G1 p dx v M2 e q => by
      obtain ⟨rfl, l, ys, M0, e0, rfl, dd⟩ := q
      have := List.append_cancel_right e0
      subst this
      exact ⟨rfl, p, dx, l, ys, rfl, rfl, dd⟩)
  intro G1 H F e m Q q
  refine h0 G1 H F e m Q fun v G2 M2 H2 e2 m2 r2 => ?_
  obtain ⟨p, dx, l, ys, rfl, rfl, dd⟩ := r2
  rw [show (M1 ++ [(p, HO.ins C dx (shF (.int b) (.int r) (.ref l))), (l, HO.lst ys)]) ++ F = M1 ++ (p, HO.ins C dx (shF (.int b) (.int r) (.ref l))) :: ((l, HO.lst ys) :: F) by simp] at m2
  obtain ⟨m3, e3⟩ := m2.freezeMid
  refine q _ _ (M1 ++ [(l, .lst ys)]) H2 (e2.trans e3) (by rw [List.append_assoc]; exact m3) ⟨p, dx, l, ys, rfl, upd_same, rfl, dma dd e3⟩
end
end SX
set_option Elab.async false
set_option linter.all false
set_option maxRecDepth 100000
namespace SX
open PySem PySem.Spec L2
open PyData
structure Sh (n : Nat) (d : PyData) : Prop where
  lay : PyData.canLay0 d = true
  dep : PyData.depth d ≤ n
theorem Sh.ok {n : Nat} {d : PyData} (h : Sh n d) (hn : n ≤ 64 := by decide) : SeqAt.shaped d = true := Bool.and_eq_true_iff.mpr ⟨h.lay, decide_eq_true (Nat.le_trans h.dep hn)⟩
theorem sh_int {n : Nat} (i : Int) : Sh n (.int i) := ⟨by simp only [canLay0], by simp only [PyData.depth]; omega⟩
theorem sh_all {n : Nat} : ∀ {ds : List PyData}, (∀ d ∈ ds, Sh n d) → PyData.canLayAll0 ds = true ∧ PyData.depthAll ds ≤ n
  | [], _ => ⟨by simp only [canLayAll0], by simp only [PyData.depthAll]; omega⟩
  | d :: ds, h => by
    have h1 := h d List.mem_cons_self
    have h2 := sh_all (ds := ds) fun e he => h e (List.mem_cons_of_mem _ he)
    refine ⟨?_, ?_⟩
    · simp only [canLayAll0, h1.lay, h2.1, Bool.and_self]
    · simp only [PyData.depthAll]
      have := h1.dep
      omega
theorem sh_lst {n : Nat} {ds : List PyData} (h : ∀ d ∈ ds, Sh n d) : Sh (n + 1) (.list ds) := by
  obtain ⟨h1, h2⟩ := sh_all h
  exact ⟨by simp only [canLay0]; exact h1, by simp only [PyData.depth]; omega⟩
theorem sh_tup {n : Nat} {ds : List PyData} (h : ∀ d ∈ ds, Sh n d) : Sh (n + 1) (.tuple ds) := by
  obtain ⟨h1, h2⟩ := sh_all h
  exact ⟨by simp only [canLay0]; exact h1, by simp only [PyData.depth]; omega⟩
theorem sh_ints {n : Nat} (ns : List Int) : Sh (n + 1) (.list (ns.map PyData.int)) := sh_lst fun d hd => by
  obtain ⟨i, _, rfl⟩ := List.mem_map.mp hd
  exact sh_int i
theorem sh_col {n : Nat} (c : List Int) : Sh (n + 1) (colD c) := sh_tup fun d hd => by
  obtain ⟨i, _, rfl⟩ := List.mem_map.mp hd
  exact sh_int i
theorem sh_cols {n : Nat} (cs : List (List Int)) : Sh (n + 2) (.list (cs.map colD)) := sh_lst fun d hd => by
  obtain ⟨i, _, rfl⟩ := List.mem_map.mp hd
  exact sh_col i
theorem eqv_ints : ∀ (a b : List Int), PyData.eqvAll (a.map PyData.int) (b.map PyData.int) = decide (a = b)
  | [], [] => by simp [PyData.eqvAll]
  | [], _ :: _ => by simp [PyData.eqvAll]
  | _ :: _, [] => by simp [PyData.eqvAll]
  | x :: a, y :: b => by
    simp only [List.map_cons, PyData.eqvAll, PyData.eqv, eqv_ints a b]
    by_cases h : x = y <;> simp [h]
theorem eqv_lst (a b : List Int) : PyData.eqv (.list (a.map PyData.int)) (.list (b.map PyData.int)) = decide (a = b) := by
  simp only [PyData.eqv, eqv_ints]
theorem eqv_col (a b : List Int) : PyData.eqv (colD a) (colD b) = decide (a = b) := by
  unfold colD
  simp only [PyData.eqv, eqv_ints]
theorem eqv_colsA : ∀ (a b : List (List Int)), PyData.eqvAll (a.map colD) (b.map colD) = decide (a = b)
  | [], [] => by simp [PyData.eqvAll]
  | [], _ :: _ => by simp [PyData.eqvAll]
  | _ :: _, [] => by simp [PyData.eqvAll]
  | x :: a, y :: b => by
    simp only [List.map_cons, PyData.eqvAll, eqv_col, eqv_colsA a b]
    by_cases h : x = y <;> simp [h]
theorem eqv_cols (a b : List (List Int)) : PyData.eqv (.list (a.map colD)) (.list (b.map colD)) = decide (a = b) := by
  simp only [PyData.eqv, eqv_colsA]
def cellsOf (ns : List Int) : List Int := if ns = [] then [0] else ns.take 63
def deckOf (c : Int) : Deck := if 10 ^ 18 ≤ c then ⟨c - 10 ^ 18, 0, 1⟩ else ⟨0, 0, c % 2147483629 + 2⟩
abbrev cellsPre (K : PySem.W.Frag) : List Int → Hp → Mem → List V → Prop := fun ns G M vs => ∃ v, vs = [v] ∧ Dp K G v (.list (ns.map .int)) ∧ ns.length ≤ 63
abbrev cellsPost (K : PySem.W.Frag) : List Int → Mem → Post := fun ns M => isD K (.list ((cellsOf ns).map .int)) M
abbrev deckPre : Int → Hp → Mem → List V → Prop := fun c G M vs => vs = [.int c]
abbrev deckPost : Int → Mem → Post := fun c M G v M' => ∃ dk, v = .ref dk ∧ M' = M ++ [(dk, (deckOf c).ho)]
theorem ev_deck {σ : L2.St} {G : Hp} {M M1 : Mem} {tA : TA} {E : XK} {c : Int} (h : EvA tA σ G M [fun _ v => v = .int c] M1) : Ev (tCall (spec deckPre deckPost) [] E tA) σ G M (deckPost c M1) :=
  ev_call c h fun G1 vs e a => by
    match vs, a with
    | [v], ⟨p1, _⟩ =>
      subst p1
      rfl
theorem ev_cells {K : PySem.W.Frag} {σ : L2.St} {G : Hp} {M M1 : Mem} {tA : TA} {E : XK} {ns : List Int} (h : EvA tA σ G M [fun G v => Dp K G v (.list (ns.map .int))] M1) (hl : ns.length ≤ 63) : Ev (tCall (spec (cellsPre K) (cellsPost K)) [] E tA) σ G M (cellsPost K ns M1) :=
  ev_call ns h fun G1 vs e a => by
    match vs, a with
    | [v], ⟨p1, _⟩ => exact ⟨v, rfl, p1, hl⟩
/-- a new list of ints, owned, every item known -/
theorem ev_lstI {σ : L2.St} {G : Hp} {M M1 : Mem} {t : TA} {xs : List V} (h : EvA t σ G M (xs.map fun x => fun _ v => v = x) M1) (hl : xs.length ≤ 1000) : Ev (tLst t) σ G M (fun G v M' => ∃ p, v = .ref p ∧ M' = M1 ++ [(p, .lst xs)]) := fun G1 H F e m Q q =>
  h G1 H F e m _ fun vs G2 H2 e2 m2 a => by
    have hv : vs = xs := by
      have : ∀ {xs vs : List V}, AllP G2 (xs.map fun x => fun _ v => v = x) vs → vs = xs := by
        intro xs
        induction xs with
        | nil =>
          intro vs a
          cases vs with
          | nil => rfl
          | cons _ _ => exact a.elim
        | cons x xs ih =>
          intro vs a
          cases vs with
          | nil => exact a.elim
          | cons v vs => rw [a.1, ih a.2]
      exact this a
    subst hv
    exact ⟨Nat.le_of_lt (small1000 hl), fun p hp => q _ _ _ _ e2 (m2.newMid hp) ⟨p, rfl, rfl⟩⟩
theorem cutD_take {ds : List PyData} {n : Nat} : cutD ds none (some (n : Int)) = ds.take n := by
  unfold cutD
  rw [HT.sIx_none, show HT.sIx ds.length ds.length (some (n : Int)) = min n ds.length from HT.sIx_nat _ _ _]
  simp
end SX
namespace SX
open PySem PySem.Spec L2
/-- the law's own word: the due tuple of integers -/
def isCol2 (d e : PyData) : Bool := match d with
  | .tuple ds => PyData.eqv d e && ds.all isInt
  | _ => false
abbrev d2Post (f : PyData → PyData → Bool) : (PyData × PyData) → Mem → Post := fun x M => isV (.bl (f x.1 x.2)) M
abbrev col2Pre (K : PySem.W.Frag) : (PyData × PyData) → Hp → Mem → List V → Prop := fun x G M vs => ∃ v u, vs = [v, u] ∧ Dp K G v x.1 ∧ Dp K G u x.2 ∧ SeqAt.shaped x.1 = true ∧ SeqAt.shaped x.2 = true ∧ dlen x.1 ≤ 100000
theorem ev_col2 {K : PySem.W.Frag} {σ : L2.St} {G : Hp} {M M1 : Mem} {tA : TA} {E : XK} {d e : PyData} {f : PyData → PyData → Bool} (h : EvA tA σ G M [fun G v => Dp K G v d, fun G v => Dp K G v e] M1) (h1 : SeqAt.shaped d = true) (h2 : SeqAt.shaped e = true) (hz : dlen d ≤ 100000) :
    Ev (tCall (spec (col2Pre K) (d2Post f)) [] E tA) σ G M (isV (.bl (f d e)) M1) :=
  ev_call (d, e) h fun G1 vs ex a => by
    match vs, a with
    | [v, u], ⟨p1, p2, _⟩ => exact ⟨v, u, rfl, p1, p2, h1, h2, hz⟩
theorem isCol2_cols (a b : List Int) : isCol2 (colD a) (colD b) = decide (a = b) := by
  show (PyData.eqv (colD a) (colD b) && (a.map PyData.int).all isInt) = _
  rw [eqv_col]
  have : (a.map PyData.int).all isInt = true := by
    rw [List.all_eq_true]
    intro x hx
    obtain ⟨i, _, rfl⟩ := List.mem_map.mp hx
    rfl
  rw [this, Bool.and_true]
end SX
set_option Elab.async false
set_option linter.all false
set_option maxRecDepth 100000
namespace SX
open PySem PySem.Spec L2
theorem Ev.toDp {K : PySem.W.Frag} {te : TE} {σ : L2.St} {G : Hp} {M M1 : Mem} {x : V} {d : PyData} (h : Ev te σ G M (isV x M1)) (hd : Dp K G x d) : Ev te σ G M (isD K d M1) := h.impP fun G1 v e r => by
  rw [r]
  exact dm hd e
/-- a list of columns, wherever it stands -/
structure ColsAt (K : PySem.W.Frag) (G : Hp) (M : Mem) (a : Addr) (cs : List (List Int)) : Prop where
  ex : ∃ xs, AtL K G M a xs ∧ DpAll K G xs (cs.map colD)
theorem ColsAt.up {K : PySem.W.Frag} {G G' : Hp} {M : Mem} {a : Addr} {cs : List (List Int)} (h : ColsAt K G M a cs) (e : Ex G G') : ColsAt K G' M a cs := by
  obtain ⟨xs, h1, h2⟩ := h.ex
  exact ⟨xs, h1.ex e, dma h2 e⟩
theorem ColsAt.of {K : PySem.W.Frag} {G : Hp} {M : Mem} {a : Addr} {cs : List (List Int)} (h : Dp K G (.ref a) (.list (cs.map colD))) : ColsAt K G M a cs := by
  obtain ⟨b, xs, e, hs, ha⟩ := dp_lst h
  cases e
  exact ⟨xs, .G hs, ha⟩
theorem ColsAt.da {K : PySem.W.Frag} {G : Hp} {M : Mem} {a : Addr} {cs : List (List Int)} (h : ColsAt K G M a cs) : Da K G M (.ref a) (.list (cs.map colD)) := by
  obtain ⟨xs, h1, h2⟩ := h.ex
  exact Da.lst h1 h2
theorem ColsAt.more {K : PySem.W.Frag} {G : Hp} {M M' : Mem} {a : Addr} {cs : List (List Int)} (h : ColsAt K G M a cs) : ColsAt K G (M ++ M') a cs := by
  obtain ⟨xs, h1, h2⟩ := h.ex
  exact ⟨xs, fun G1 H F e m => h1 G1 H (M' ++ F) e (by rw [List.append_assoc] at m; exact m), h2⟩
theorem ShAt.more {K : PySem.W.Frag} {C : Addr} {G : Hp} {M M' : Mem} {p : Addr} {b r : Int} {cs : List (List Int)} (h : ShAt K C G M p b r cs) : ShAt K C G (M ++ M') p b r cs := by
  obtain ⟨dx, l, xs, h1, h2, h3⟩ := h
  exact ⟨dx, l, xs, h1.more, h2.more, h3⟩
abbrev arePre (K : PySem.W.Frag) : (Addr × Addr × List (List Int) × List (List Int)) → Hp → Mem → List V → Prop := fun x G M vs => vs = [.ref x.1, .ref x.2.1] ∧ ColsAt K G M x.1 x.2.2.1 ∧ ColsAt K G M x.2.1 x.2.2.2 ∧ x.2.2.1.length ≤ 100000 ∧ x.2.2.2.length ≤ 100000 ∧ ∀ c ∈ x.2.2.1, c.length ≤ 100000
abbrev arePost : (Addr × Addr × List (List Int) × List (List Int)) → Mem → Post := fun x M => isV (.bl (decide (x.2.2.1 = x.2.2.2))) M
theorem all_are {fs cs : List (List Int)} (h : fs.length = cs.length) : ((List.range cs.length).all fun i => isCol2 (colD ((fs[i]?).getD [])) (colD ((cs[i]?).getD []))) = decide (fs = cs) := by
  by_cases e : fs = cs
  · subst e
    rw [decide_eq_true rfl, List.all_eq_true]
    intro i _
    rw [isCol2_cols, decide_eq_true rfl]
  · rw [decide_eq_false e, Bool.eq_false_iff]
    intro z
    apply e
    apply List.ext_getElem h
    intro i h1 h2
    have := List.all_eq_true.mp z i (List.mem_range.mpr h2)
    rw [isCol2_cols, List.getElem?_eq_getElem h1, List.getElem?_eq_getElem h2] at this
    exact of_decide_eq_true this
theorem sum_lo : ∀ {c : List Int} {b : Int}, (∀ f ∈ c, 0 ≤ f ∧ f < b) → 0 ≤ c.sum ∧ c.sum ≤ c.length * b
  | [], b, _ => by simp
  | f :: c, b, h => by
    have h1 := h f List.mem_cons_self
    have h2 := sum_lo (c := c) fun g hg => h g (List.mem_cons_of_mem _ hg)
    simp only [List.sum_cons, List.length_cons, Int.natCast_add, Int.add_mul]
    omega
theorem GoodSh.sum {b r : Int} {cs : List (List Int)} (h : GoodSh b r cs) : ∀ c ∈ cs, -(2 ^ 64) < c.sum ∧ c.sum < 2 ^ 64 := fun c hc => by
  obtain ⟨h1, h2⟩ := sum_lo (h.col c hc).2
  have h3 := (h.col c hc).1
  have h4 := h.r4
  have h5 := h.b12
  have h6 := h.b2
  have : (c.length : Int) * b ≤ 4 * b := Int.mul_le_mul_of_nonneg_right (by omega) (by omega)
  omega
def drawsD (D : Deck) (b : Int) : Nat → Deck
  | 0 => D
  | n + 1 => dn (drawsD D b n) b
def drawsV (D : Deck) (b : Int) (n : Nat) : List Int := (List.range n).map fun i => dv (drawsD D b i) b
theorem drawsV_len (D : Deck) (b : Int) (n : Nat) : (drawsV D b n).length = n := by simp [drawsV]
theorem drawsV_mem {D : Deck} {b : Int} {n : Nat} (h : 0 < b) : ∀ f ∈ drawsV D b n, 0 ≤ f ∧ f < b := fun f hf => by
  obtain ⟨i, _, rfl⟩ := List.mem_map.mp hf
  exact ⟨dv_lo h, dv_hi h⟩
def colOf (D : Deck) (b r : Int) : List Int := if dv D 5 = 1 then List.replicate r.toNat (b - 1) else if dv D 5 = 0 then List.replicate r.toNat 0 else drawsV (dn D 5) b r.toNat
def colDk (D : Deck) (b r : Int) : Deck := drawsD (dn D 5) b r.toNat
theorem colOf_good {D : Deck} {b r : Int} (hb : 0 < b) (hr : 0 ≤ r) : GoodCol b r (colOf D b r) := by
  unfold colOf GoodCol
  split
  · refine ⟨by rw [List.length_replicate]; omega, fun f hf => ?_⟩
    rw [List.eq_of_mem_replicate hf]
    omega
  · split
    · refine ⟨by rw [List.length_replicate]; omega, fun f hf => ?_⟩
      rw [List.eq_of_mem_replicate hf]
      omega
    · exact ⟨by rw [drawsV_len]; omega, drawsV_mem hb⟩
abbrev lcolPre : (Addr × Nat × Deck × Int × Int) → Hp → Mem → List V → Prop := fun x G M vs => vs = [.ref x.1, .int x.2.2.2.1, .int x.2.2.2.2] ∧ 0 < x.2.2.2.1 ∧ x.2.2.2.1 < 2 ^ 200 ∧ 0 ≤ x.2.2.2.2 ∧ x.2.2.2.2 ≤ 1000 ∧ M[x.2.1]? = some (x.1, x.2.2.1.ho)
abbrev lcolPost (K : PySem.W.Frag) : (Addr × Nat × Deck × Int × Int) → Mem → Post := fun x M => isD K (colD (colOf x.2.2.1 x.2.2.2.1 x.2.2.2.2)) (M.set x.2.1 (x.1, (colDk x.2.2.1 x.2.2.2.1 x.2.2.2.2).ho))
theorem ev_lcol {K : PySem.W.Frag} {σ : L2.St} {G : Hp} {M M1 : Mem} {tA : TA} {E : XK} {dk : Addr} {D : Deck} {b r : Int} (i : Nat) (h : EvA tA σ G M [fun _ v => v = .ref dk, fun _ v => v = .int b, fun _ v => v = .int r] M1) (hi : M1[i]? = some (dk, D.ho)) (b0 : 0 < b) (b1 : b < 2 ^ 200) (r0 : 0 ≤ r) (r1 : r ≤ 1000) :
    Ev (tCall (spec lcolPre (lcolPost K)) [] E tA) σ G M (isD K (colD (colOf D b r)) (M1.set i (dk, (colDk D b r).ho))) :=
  ev_call (dk, i, D, b, r) h fun G1 vs e a => by
    match vs, a with
    | [v, w, u], ⟨p1, p2, p3, _⟩ =>
      subst p1 p2 p3
      exact ⟨rfl, b0, b1, r0, r1, hi⟩
/-- how many columns, the deck then -/
def manyOf (D : Deck) (most : Int) : Int := if dv (dn D 7) 3 = 0 then dv (dn (dn D 7) 3) (most + 1) else dv D 7
def manyDk (D : Deck) (most : Int) : Deck := if dv (dn D 7) 3 = 0 then dn (dn (dn D 7) 3) (most + 1) else dn (dn D 7) 3
def colsDk (D : Deck) (b r : Int) : Nat → Deck
  | 0 => D
  | n + 1 => colDk (colsDk D b r n) b r
def colsV (D : Deck) (b r : Int) (n : Nat) : List (List Int) := (List.range n).map fun i => colOf (colsDk D b r i) b r
def colsOf (D : Deck) (b r most : Int) : List (List Int) := colsV (manyDk D most) b r (manyOf D most).toNat
def colsEnd (D : Deck) (b r most : Int) : Deck := colsDk (manyDk D most) b r (manyOf D most).toNat
theorem manyOf_lo {D : Deck} {most : Int} (h : 0 ≤ most) : 0 ≤ manyOf D most := by
  unfold manyOf
  split
  · exact dv_lo (by omega)
  · exact dv_lo (by omega)
theorem manyOf_hi {D : Deck} {most : Int} (h : 0 ≤ most) : manyOf D most ≤ max 6 most := by
  unfold manyOf
  have h1 : dv (dn (dn D 7) 3) (most + 1) < most + 1 := dv_hi (by omega)
  have h2 : dv D 7 < 7 := dv_hi (by omega)
  split <;> omega
theorem colsOf_len {D : Deck} {b r most : Int} (h : 0 ≤ most) : ((colsOf D b r most).length : Int) ≤ max 6 most := by
  unfold colsOf colsV
  have := manyOf_hi (D := D) h
  have := manyOf_lo (D := D) h
  rw [List.length_map, List.length_range]
  omega
theorem colsOf_good {D : Deck} {b r most : Int} (hb : 0 < b) (hr : 0 ≤ r) : ∀ c ∈ colsOf D b r most, GoodCol b r c := fun c hc => by
  obtain ⟨i, _, rfl⟩ := List.mem_map.mp hc
  exact colOf_good hb hr
abbrev lcolsPre : (Addr × Nat × Deck × Int × Int × Int) → Hp → Mem → List V → Prop := fun x G M vs => vs = [.ref x.1, .int x.2.2.2.1, .int x.2.2.2.2.1, .int x.2.2.2.2.2] ∧ 0 < x.2.2.2.1 ∧ x.2.2.2.1 < 2 ^ 200 ∧ 0 ≤ x.2.2.2.2.1 ∧ x.2.2.2.2.1 ≤ 1000 ∧ 0 ≤ x.2.2.2.2.2 ∧ x.2.2.2.2.2 ≤ 1000 ∧ M[x.2.1]? = some (x.1, x.2.2.1.ho)
abbrev lcolsPost (K : PySem.W.Frag) : (Addr × Nat × Deck × Int × Int × Int) → Mem → Post := fun x M => own K ((colsOf x.2.2.1 x.2.2.2.1 x.2.2.2.2.1 x.2.2.2.2.2).map colD) (M.set x.2.1 (x.1, (colsEnd x.2.2.1 x.2.2.2.1 x.2.2.2.2.1 x.2.2.2.2.2).ho))
theorem ev_lcols {K : PySem.W.Frag} {σ : L2.St} {G : Hp} {M M1 : Mem} {tA : TA} {E : XK} {dk : Addr} {D : Deck} {b r most : Int} (i : Nat) (h : EvA tA σ G M [fun _ v => v = .ref dk, fun _ v => v = .int b, fun _ v => v = .int r, fun _ v => v = .int most] M1) (hi : M1[i]? = some (dk, D.ho)) (b0 : 0 < b) (b1 : b < 2 ^ 200) (r0 : 0 ≤ r) (r1 : r ≤ 1000)
    (m0 : 0 ≤ most) (m1 : most ≤ 1000) : Ev (tCall (spec lcolsPre (lcolsPost K)) [] E tA) σ G M (own K ((colsOf D b r most).map colD) (M1.set i (dk, (colsEnd D b r most).ho))) :=
  ev_call (dk, i, D, b, r, most) h fun G1 vs e a => by
    match vs, a with
    | [v, w, u, t], ⟨p1, p2, p3, p4, _⟩ =>
      subst p1 p2 p3 p4
      exact ⟨rfl, b0, b1, r0, r1, m0, m1, hi⟩
end SX
namespace SX
open PySem PySem.Spec L2
end SX
set_option Elab.async false
set_option linter.all false
set_option maxRecDepth 100000
namespace SX
open PySem PySem.Spec L2
section
variable {X : Cx} {CX : CXT} {k : Nat} {C f : Addr} {fd : FuncData} {ps : List Str} {sp : Sp} {EE : L2.St → XK}
/-- the callee runs, its error is wished for at these slots -/
theorem run_atS {pins : List (Addr × Obj)} {σ : L2.St} {H : Hp} {s : Shared} {Q : VK} {us : List Value} {vs : List V} (F : FnOk X.prog X.w X.K X.mg X.base CX k f fd ps sp) (hr : Room k X.A) (hb : Binds X.K fd ps []) (hx : PassesAt CX X σ (EE σ))
    (I : Inv X pins σ H s) (r : Vals vs us) (h : sp vs H Q (EE σ)) : wpAny (model X.prog X.w) X.A (call (.ref f) us) (EP X pins σ Q) X.xe s := run_fnS F hr hb hx I r h
/-- one op other, both of the class C, which may raise -/
def tBinOS (C : Addr) (sp : Sp) (EE : L2.St → XK) (ta tb : TE) : TE := fun σ H Q => ta σ H fun x H1 => tb σ H1 fun y H2 => ∃ a dx fs b dy gs, x = .ref a ∧ y = .ref b ∧ H2 a = some (.ins C dx fs) ∧ H2 b = some (.ins C dy gs) ∧ sp [.ref a, .ref b] H2 Q (EE σ)
theorem pe_binOS {op : Operator} {a b : Expr} {ta tb : TE} {pos : Pos} (hs : PySem.W.findIn X.K (.ref C) (PySem.dunder op.info.2) = some (some (.ref f))) (hfn : PySem.W.isFn X.K (.ref f) = true) (hc : PySem.W.selfFirst X.K C = true) (F : FnOk X.prog X.w X.K X.mg X.base CX k f fd ps sp) (hr : Room k X.A) (hb : Binds X.K fd ps [])
    (hx : ∀ σ, PassesAt CX X σ (EE σ)) (ha : PE X a ta) (hbb : PE X b tb) : PE X (.BinOp a op b pos) (tBinOS C sp EE ta tb) := by
  refine ⟨fun pins s σ H Q I h => ?_⟩
  refine wpAny_BinOp (binT ha hbb I h fun v u s2 x y H2 I2 rx ry h2 => ?_)
  obtain ⟨p, dx, fs, q, dy, gs, rfl, rfl, ep, eq, z⟩ := h2
  cases (show v = Value.ref p from rx)
  cases (show u = Value.ref q from ry)
  obtain ⟨mA, O, _⟩ := ins_get I2.hok ep
  obtain ⟨od, J, _⟩ := O.look
  obtain ⟨mB, O2, _⟩ := ins_get I2.hok eq
  obtain ⟨od2, J2, _⟩ := O2.look
  obtain ⟨m, fr⟩ := I2.fr
  exact PySem.W.binop_K fr I2.ok.mod.kin J J2.type hc hs hfn (wpAny_mono (run_atS F hr hb (hx σ) I2 (.cons (show RelV (.ref p) (.ref p) from rfl) (.cons (show RelV (.ref q) (.ref q) from rfl) .nil)) z) (fun u s1 h1 => cmpBack h1) fun _ _ e => e)
end
section
variable {E : XK} {K : PySem.W.Frag} {σ : L2.St} {G G' H : Hp} {M M1 M2 M3 F : Mem} {R : Post} {P P' : Po} {te ta tb : TE} {t u : TS} {x y z : V} {i : Nat} {Xc : Value → Option Addr → Hp → Mem → Prop}
/-- an expression that raises, surely -/
def EvR (E : XK) (te : TE) (σ : L2.St) (G : Hp) (M : Mem) (Xc : Value → Option Addr → Hp → Mem → Prop) : Prop := ∀ G1 H F, Ex G G1 → Me G1 (M ++ F) H → (∀ c d G2 M2 H2, Ex G1 G2 → Me G2 (M2 ++ F) H2 → Xc c d G2 M2 → E c d H2) → ∀ Q : VK, te σ H Q
def EvAR (E : XK) (ta : TA) (σ : L2.St) (G : Hp) (M : Mem) (Xc : Value → Option Addr → Hp → Mem → Prop) : Prop := ∀ G1 H F, Ex G G1 → Me G1 (M ++ F) H → (∀ c d G2 M2 H2, Ex G1 G2 → Me G2 (M2 ++ F) H2 → Xc c d G2 M2 → E c d H2) → ∀ Q : List V → Hp → Prop, ta σ H Q
theorem er_one {tr : TA} (h : EvR E te σ G M Xc) : EvAR E (tCons te tr) σ G M Xc := fun G1 H F e m x Q => h G1 H F e m x _
theorem er_CB {r : List V → Hp → VK → Prop} {tA : TA} (h : EvAR E tA σ G M Xc) : EvR E (tCB r tA) σ G M Xc := fun G1 H F e m x Q => h G1 H F e m x _
theorem er_lst {tA : TA} (h : EvAR E tA σ G M Xc) : EvR E (tLst tA) σ G M Xc := fun G1 H F e m x Q => h G1 H F e m x _
theorem sv_setR {g : TG} (h : EvR E te σ G M P.ex) : Sv E (tAsg te g) σ G M P := fun G1 H F D e m hd => h G1 H F e m hd.ex _
/-- try: body, except x as n: suite. The body's errors are Xc's, all of them the clause's -/
theorem sv_tryAs {tw : WX → TS} {ts : Addr → Value → Option Addr → TS} {c : Value} {Wout : WX} (Xc : Value → Option Addr → Hp → Mem → Prop) (hB : ∀ W : WX, Sv (fun cls d H => W cls d σ H) (tw W) σ G M { P with ex := Xc })
    (hS : ∀ cls d a G2 M2, Ex G G2 → Xc cls d G2 M2 → PySem.W.exmOne K cls c = some true ∧ Sv E (ts a cls d) (σ.set i (some (.ref a))) G2 M2 { P with nx := fun G3 σ' M3 => P.nx G3 (σ'.set i none) M3, bk := fun G3 σ' M3 => P.bk G3 (σ'.set i none) M3, ct := fun G3 σ' M3 => P.ct G3 (σ'.set i none) M3 }) :
    Sv E (fun D σ H => tw (wAs K c i ts Wout D) D σ H) σ G M P := fun G1 H F D e m hd =>
  hB (wAs K c i ts Wout D) G1 H F D e m ⟨hd.nx, hd.rt, hd.bk, hd.ct, fun cls d G2 M2 H2 e2 m2 xc =>
    ⟨true, (hS cls d 0 G2 M2 (e.trans e2) xc).1, fun _ a _ => (hS cls d a G2 M2 (e.trans e2) xc).2 G2 H2 F _ (Ex.refl _) m2 ⟨fun σ' G3 M3 H3 e3 m3 n => hd.nx _ G3 M3 H3 (e2.trans e3) m3 n, fun v G3 M3 H3 e3 m3 n => hd.rt v G3 M3 H3 (e2.trans e3) m3 n,
      fun σ' G3 M3 H3 e3 m3 n => hd.bk _ G3 M3 H3 (e2.trans e3) m3 n, fun σ' G3 M3 H3 e3 m3 n => hd.ct _ G3 M3 H3 (e2.trans e3) m3 n, fun c' d' G3 M3 H3 e3 m3 n => hd.ex c' d' G3 M3 H3 (e2.trans e3) m3 n⟩, fun z => by cases z⟩⟩
/-- one op other raises -/
theorem er_binO {α : Type} {pre : α → Hp → Mem → List V → Prop} {post : α → Mem → Post} {exc : α → Mem → Value → Option Addr → Hp → Mem → Prop} {EE : L2.St → XK} {C a dx b dy : Addr} {fs gs : List (Str × V)} (xx : α) (hE : EE σ = E) (h1 : Ev ta σ G M (isV (.ref a) M)) (h2 : Ev tb σ G M (isV (.ref b) M))
    (ha : At G M a (.ins C dx fs)) (hb : At G M b (.ins C dy gs)) (hp : ∀ G1, Ex G G1 → pre xx G1 M [.ref a, .ref b]) (hq : ∀ G1 v M2, ¬ post xx M G1 v M2) (hx : ∀ c d G1 M2, Ex G G1 → exc xx M c d G1 M2 → Xc c d G1 M2) : EvR E (tBinOS C (specX pre post exc) EE ta tb) σ G M Xc := fun G1 H F e m x Q =>
  h1 G1 H F e m _ fun v2 G2 M2' H2 e2 m2 r2 => by
    obtain ⟨rfl, rfl⟩ := r2
    refine h2 G2 H2 F (e.trans e2) m2 _ fun v3 G3 M3' H3 e3 m3 r3 => ?_
    obtain ⟨rfl, rfl⟩ := r3
    have e03 := (e.trans e2).trans e3
    refine ⟨a, dx, fs, b, dy, gs, rfl, rfl, ha G3 H3 F e03 m3, hb G3 H3 F e03 m3, xx, G3, M3', F, m3, hp G3 e03, fun v G4 M4 H4 e4 m4 r4 => absurd r4 (hq G4 v M4), fun c d G4 M4 H4 e4 m4 r4 => ?_⟩
    rw [hE]
    exact x c d G4 M4 H4 ((e2.trans e3).trans e4) m4 (hx c d G4 M4 (e03.trans e4) r4)
end
/-- isinstance(e, (A, B, ..)) of the error that the suite holds -/
def rIsET (K : PySem.W.Frag) (D a : Addr) : List V → Hp → VK → Prop := fun xs H Q => ∃ (tp : Addr) (cs : List V) (us : List Value) (b : Bool), xs = [.ref a, .ref tp] ∧ H tp = some (.tup cs) ∧ Paired ClsV cs us ∧ PySem.W.kitAny K (.ref D) us = some b ∧ Q (.bl b) H
theorem call_isET {X : Cx} {a D : Addr} {oe : Obj} {pn : List (Addr × Obj)} (C : ExcC X.K D) (hz : Zc (.ref D) none oe) (hf : ∃ vs, oe.data = .fields vs) : CallR (X.suite a ((a, oe) :: pn)) (.builtin "isinstance") (rIsET X.K D a) := by
  intro pins s σ H xs us Q I r h
  obtain ⟨tp, cs, ws, b, rfl, hT, k, e, q⟩ := h
  obtain ⟨u1, u2, rfl, r1, r2⟩ := vals2 r
  cases (show u1 = Value.ref a from r1)
  cases (show u2 = Value.ref tp from r2)
  obtain ⟨hget, _⟩ := I.pin (a, oe) (List.mem_append.mpr (.inl List.mem_cons_self))
  obtain ⟨vs, hv⟩ := hf
  obtain ⟨_, its, rv, o, h1, h2, n, h3⟩ := (show ObjOk X.prog X.w H s.heap tp (.tup cs) from I.hok tp _ hT)
  have e3 := ClsV.all k rv
  subst e3
  have J : PySem.W.InstAt s.heap a oe D none := by
    obtain ⟨oc, od, oda, osl⟩ := oe
    obtain ⟨z1, z2⟩ := hz
    dsimp only at z1 z2 hv
    subst z1 z2 hv
    exact ⟨hget, rfl, rfl, trivial⟩
  obtain ⟨oc, od, dt, sl⟩ := o
  simp only at h2 h3
  subst h2 h3
  exact PySem.W.kia_tup (PySem.W.handS_kitx_exc C.hg C.hk C.hs C.hd C.ha C.hn C.ht C.hm) I.kIn J h1 e (fun z => nomatch z) fun tk => ⟨.bl b, H, I.tok tk, rfl, q⟩
/-- the same, the class and the dict as the suite names them -/
def rIsC (K : PySem.W.Frag) (cls : Value) (d : Option Addr) (a : Addr) : List V → Hp → VK → Prop := fun xs H Q => ∃ D, cls = .ref D ∧ d = none ∧ ExcC K D ∧ rIsE K D a xs H Q
def rIsCT (K : PySem.W.Frag) (cls : Value) (d : Option Addr) (a : Addr) : List V → Hp → VK → Prop := fun xs H Q => ∃ D, cls = .ref D ∧ d = none ∧ ExcC K D ∧ rIsET K D a xs H Q
theorem k_isC {X : Cx} {K : PySem.W.Frag} {a : Addr} {cls : Value} {d : Option Addr} {oe : Obj} {pn : List (Addr × Obj)} (hK : X.K = K) (hz : Zc cls d oe) (hf : ∃ vs, oe.data = .fields vs) : CallR (X.suite a ((a, oe) :: pn)) (.builtin "isinstance") (rIsC K cls d a) := by
  subst hK
  intro pins s σ H xs us Q I r h
  obtain ⟨D, rfl, rfl, hC, h⟩ := h
  exact call_isE hC hz hf pins s σ H xs us Q I r h
theorem k_isCT {X : Cx} {K : PySem.W.Frag} {a : Addr} {cls : Value} {d : Option Addr} {oe : Obj} {pn : List (Addr × Obj)} (hK : X.K = K) (hz : Zc cls d oe) (hf : ∃ vs, oe.data = .fields vs) : CallR (X.suite a ((a, oe) :: pn)) (.builtin "isinstance") (rIsCT K cls d a) := by
  subst hK
  intro pins s σ H xs us Q I r h
  obtain ⟨D, rfl, rfl, hC, h⟩ := h
  exact call_isET hC hz hf pins s σ H xs us Q I r h
section
variable {K : PySem.W.Frag} {σ : L2.St} {G : Hp} {M M1 : Mem} {ta : TE} {a D : Addr} {b : Bool}
theorem ev_isC {c : V} {cv : Value} (hD : ExcC K D) (h : Ev ta σ G M (isV (.ref a) M)) (hcv : ∀ u, RelV c u → u = cv) (hk : PySem.W.kitOne K (.ref D) cv = some b) : Ev (tCB (rIsC K (.ref D) none a) (tCons ta (tCons (tC c) tNil))) σ G M (isV (.bl b) M) :=
  ev_CB (Ps := [fun _ v => v = .ref a, fun _ v => v = c]) (ea_cons h (ea_cons ev_c ea_nil)) fun G1 H F vs e m p Q q => by
    match vs, p with
    | [v, w], ⟨p1, p2, _⟩ =>
      subst p1 p2
      exact ⟨D, rfl, rfl, hD, w, cv, b, rfl, hcv, hk, q _ _ _ _ (Ex.refl _) m ⟨rfl, rfl⟩⟩
theorem ev_isCT {t : TA} {cs : List V} {us : List Value} (hD : ExcC K D) (h : Ev ta σ G M (isV (.ref a) M)) (ht : EvA t σ G M (cs.map fun x => fun _ v => v = x) M) (hl : cs.length ≤ 1000) (hcs : Paired ClsV cs us) (hk : PySem.W.kitAny K (.ref D) us = some b) :
    Ev (tCB (rIsCT K (.ref D) none a) (tCons ta (tCons (tTup t) tNil))) σ G M (isV (.bl b) M) := fun G1 H F e m Q q =>
  h G1 H F e m _ fun v G2 M2 H2 e2 m2 r2 => by
    obtain ⟨rfl, rfl⟩ := r2
    refine ev_tupV ht hl G2 H2 F (e.trans e2) m2 _ fun w G3 M3 H3 e3 m3 r3 => ?_
    obtain ⟨p, rfl, rfl, hp⟩ := r3
    exact ⟨D, rfl, rfl, hD, p, cs, us, b, rfl, m3.ex _ _ hp, hcs, hk, q _ _ _ _ (e2.trans e3) m3 ⟨rfl, rfl⟩⟩
theorem own_rel {C : Addr} : ∀ u, RelV (.ref C) u → u = .ref C := fun u h => h
theorem ty_rel {n : String} : ∀ u, RelV (.ty n) u → u = .type n := fun u h => h
theorem cls_paired : ∀ (cs : List Addr), Paired ClsV (cs.map V.ref) (cs.map Value.ref)
  | [] => .nil
  | c :: cs => .cons (.own c) (cls_paired cs)
end
end SX
set_option Elab.async false
set_option linter.all false
set_option maxRecDepth 100000
namespace SX
open PySem PySem.Spec L2
/-- what makes a sheet -/
def okSh (db dr dc : PyData) : Bool := isWhole db 2 12 && (isWhole dr 1 4 && areCols (intOf db) (intOf dr) dc)
structure MkS where
  p : Addr
  dx : Addr
  vb : V
  vr : V
  vc : V
  db : PyData
  dr : PyData
  dc : PyData
abbrev initPre (K : PySem.W.Frag) (C : Addr) : MkS → Hp → Mem → List V → Prop := fun x G M vs => vs = [.ref x.p, x.vb, x.vr, x.vc] ∧ ∃ M0, M = M0 ++ [(x.p, .ins C x.dx [])] ∧ Dp K G x.vb x.db ∧ Dp K G x.vr x.dr ∧ Dt K G M0 x.vc x.dc ∧ dlen x.dc ≤ 100000 ∧ ∀ ds, x.dc = .list ds → ∀ c ∈ ds, dlen c ≤ 100000
abbrev initPost (K : PySem.W.Frag) (C : Addr) : MkS → Mem → Post := fun x M G v M' => okSh x.db x.dr x.dc = true ∧ v = .non ∧ ∃ l xs M0 ds, M = M0 ++ [(x.p, .ins C x.dx [])] ∧ x.dc = .list ds ∧ M' = M0 ++ [(x.p, .ins C x.dx (shF x.vb x.vr (.ref l))), (l, .lst xs)] ∧ DpAll K G xs ds
abbrev initExc (CE : Addr) : MkS → Mem → Value → Option Addr → Hp → Mem → Prop := fun x M c d _ M' => okSh x.db x.dr x.dc = false ∧ c = .ref CE ∧ d = none ∧ M' = M
theorem okSh_good {b r : Int} {cs : List (List Int)} (g : GoodSh b r cs) : okSh (.int b) (.int r) (.list (cs.map colD)) = true := by
  have hw1 : isWhole (.int b) 2 12 = true := Bool.and_eq_true_iff.mpr ⟨rfl, Bool.and_eq_true_iff.mpr ⟨decide_eq_true g.b2, decide_eq_true g.b12⟩⟩
  have hw2 : isWhole (.int r) 1 4 = true := Bool.and_eq_true_iff.mpr ⟨rfl, Bool.and_eq_true_iff.mpr ⟨decide_eq_true g.r1, decide_eq_true g.r4⟩⟩
  unfold okSh
  rw [hw1, hw2]
  exact areCols_good g.col
theorem whole_int {d : PyData} {lo hi : Int} (h : isWhole d lo hi = true) : ∃ n, d = .int n ∧ lo ≤ n ∧ n ≤ hi := by
  unfold isWhole at h
  simp only [Bool.and_eq_true, decide_eq_true_eq] at h
  cases d with
  | int n => exact ⟨n, rfl, h.2.1, h.2.2⟩
  | _ => cases h.1
theorem isCol_of {b r : Int} {d : PyData} (h : isCol b r d = true) : ∃ c, d = colD c ∧ GoodCol b r c := by
  cases d with
  | tuple ds =>
    simp only [isCol, Bool.and_eq_true, decide_eq_true_eq, List.all_eq_true] at h
    obtain ⟨hl, ha⟩ := h
    refine ⟨ds.map intOf, ?_, by rw [List.length_map]; exact hl, fun f hf => ?_⟩
    · unfold colD
      rw [List.map_map]
      congr 1
      have : ds.map (PyData.int ∘ intOf) = ds.map id := by
        apply List.map_congr_left
        intro d hd
        obtain ⟨n, rfl, _⟩ := whole_int (ha d hd)
        rfl
      rw [this, List.map_id]
    · obtain ⟨d, hd, rfl⟩ := List.mem_map.mp hf
      obtain ⟨n, rfl, h1, h2⟩ := whole_int (ha d hd)
      exact ⟨h1, by show n < b; omega⟩
  | _ => cases h
/-- setting a column: x = (p, (b, r), l, xs, index, data); the list is owned at n -/
structure SetS where
  p : Addr
  dx : Addr
  l : Addr
  n : Nat
  b : Int
  r : Int
  xs : List V
  at_ : Int
  j : Nat
  v : V
  d : PyData
abbrev setPre (K : PySem.W.Frag) (C : Addr) : SetS → Hp → Mem → List V → Prop := fun x G M vs => vs = [.ref x.p, .int x.at_, x.v] ∧ At G M x.p (.ins C x.dx (shF (.int x.b) (.int x.r) (.ref x.l))) ∧ M[x.n]? = some (x.l, .lst x.xs) ∧ ixN x.xs.length x.at_ = some x.j ∧ Dp K G x.v x.d ∧ dlen x.d ≤ 100000
abbrev setPost (K : PySem.W.Frag) : SetS → Mem → Post := fun x M G v M' => isCol x.b x.r x.d = true ∧ v = .non ∧ ∃ y, Dp K G y x.d ∧ M' = M.set x.n (x.l, .lst (x.xs.set x.j y))
abbrev setExc (CE : Addr) : SetS → Mem → Value → Option Addr → Hp → Mem → Prop := fun x M c d _ M' => isCol x.b x.r x.d = false ∧ c = .ref CE ∧ d = none ∧ M' = M
/-- joining: x = ((p, b, r, cs), (q, b', r', cs')) -/
abbrev addPre (K : PySem.W.Frag) (C : Addr) : ((Addr × Int × Int × List (List Int)) × (Addr × Int × Int × List (List Int))) → Hp → Mem → List V → Prop := fun x G M vs => vs = [.ref x.1.1, .ref x.2.1] ∧ ShAt K C G M x.1.1 x.1.2.1 x.1.2.2.1 x.1.2.2.2 ∧ ShAt K C G M x.2.1 x.2.2.1 x.2.2.2.1 x.2.2.2.2 ∧
  GoodSh x.1.2.1 x.1.2.2.1 x.1.2.2.2 ∧ GoodSh x.2.2.1 x.2.2.2.1 x.2.2.2.2 ∧ x.1.2.2.2.length + x.2.2.2.2.length ≤ 10000
abbrev newSh (K : PySem.W.Frag) (C : Addr) (b r : Int) (cs : List (List Int)) (M : Mem) : Post := fun G1 v M' => ∃ p dx l ys, v = .ref p ∧ G1 p = some (.ins C dx (shF (.int b) (.int r) (.ref l))) ∧ M' = M ++ [(l, .lst ys)] ∧ DpAll K G1 ys (cs.map colD)
abbrev addPost (K : PySem.W.Frag) (C : Addr) : ((Addr × Int × Int × List (List Int)) × (Addr × Int × Int × List (List Int))) → Mem → Post := fun x M G v M' => (x.1.2.1 = x.2.2.1 ∧ x.1.2.2.1 = x.2.2.2.1) ∧ newSh K C x.1.2.1 x.1.2.2.1 (x.1.2.2.2 ++ x.2.2.2.2) M G v M'
abbrev addExc (CE : Addr) : ((Addr × Int × Int × List (List Int)) × (Addr × Int × Int × List (List Int))) → Mem → Value → Option Addr → Hp → Mem → Prop := fun x M c d _ M' => ¬ (x.1.2.1 = x.2.2.1 ∧ x.1.2.2.1 = x.2.2.2.1) ∧ c = .ref CE ∧ d = none ∧ M' = M
abbrev cutPre (K : PySem.W.Frag) (C : Addr) : ((Addr × Int × Int × List (List Int)) × Int × Int) → Hp → Mem → List V → Prop := fun x G M vs => vs = [.ref x.1.1, .int x.2.1, .int x.2.2] ∧ ShAt K C G M x.1.1 x.1.2.1 x.1.2.2.1 x.1.2.2.2 ∧ GoodSh x.1.2.1 x.1.2.2.1 x.1.2.2.2 ∧ 0 ≤ x.2.1 ∧ 0 ≤ x.2.2
def cutL (cs : List (List Int)) (lo hi : Int) : List (List Int) := (cs.drop lo.toNat).take (hi.toNat - lo.toNat)
abbrev cutPost (K : PySem.W.Frag) (C : Addr) : ((Addr × Int × Int × List (List Int)) × Int × Int) → Mem → Post := fun x M => newSh K C x.1.2.1 x.1.2.2.1 (cutL x.1.2.2.2 x.2.1 x.2.2) M
theorem cutD_cols {cs : List (List Int)} {lo hi : Int} (h0 : 0 ≤ lo) (h1 : 0 ≤ hi) : cutD (cs.map colD) (some lo) (some hi) = (cutL cs lo hi).map colD := by
  obtain ⟨a, rfl⟩ : ∃ a : Nat, lo = a := ⟨lo.toNat, by omega⟩
  obtain ⟨b, rfl⟩ : ∃ b : Nat, hi = b := ⟨hi.toNat, by omega⟩
  unfold cutD cutL
  rw [HT.sIx_nat, HT.sIx_nat, List.map_take, List.map_drop, List.length_map, Int.toNat_natCast, Int.toNat_natCast]
  by_cases h : a ≤ cs.length
  · rw [Nat.min_eq_left h]
    by_cases h' : b ≤ cs.length
    · rw [Nat.min_eq_left h']
    · rw [Nat.min_eq_right (by omega)]
      rw [List.take_of_length_le (by simp), List.take_of_length_le (by simp; omega)]
  · have e1 : (cs.map colD).drop (min a cs.length) = [] := List.drop_of_length_le (by rw [List.length_map]; omega)
    have e2 : (cs.map colD).drop a = [] := List.drop_of_length_le (by rw [List.length_map]; omega)
    rw [e1, e2, List.take_nil, List.take_nil]
theorem GoodSh.part {b r : Int} {cs ds : List (List Int)} (g : GoodSh b r cs) (h : ∀ c ∈ ds, c ∈ cs) (hl : ds.length ≤ 10000) : GoodSh b r ds := ⟨g.b2, g.b12, g.r1, g.r4, hl, fun c hc => g.col c (h c hc)⟩
theorem GoodSh.cut {b r : Int} {cs : List (List Int)} (g : GoodSh b r cs) (lo hi : Int) : GoodSh b r (cutL cs lo hi) := g.part (fun c hc => List.mem_of_mem_drop (List.mem_of_mem_take hc)) (by
  unfold cutL
  rw [List.length_take, List.length_drop]
  have := g.len
  omega)
end SX
namespace SX
open PySem PySem.Spec L2
abbrev setGPre (K : PySem.W.Frag) (C : Addr) : SetS → Hp → Mem → List V → Prop := fun x G M vs => setPre K C x G M vs ∧ isCol x.b x.r x.d = true
/-- a + b of two lists, wherever they stand -/
def rCatS (K : PySem.W.Frag) : R2 := fun x y H Q => ∃ l b xs zs, x = .ref l ∧ y = .ref b ∧ SqL K H l xs ∧ SqL K H b zs ∧ xs.length + zs.length ≤ sizeLine ∧ ∀ p, H p = none → Q (.ref p) (upd H p (.lst (xs ++ zs)))
theorem op_catS {X : Cx} : OpR X (binaryOp .Add) (rCatS X.K) := by
  intro pins s σ H x y v u Q I rx ry h
  obtain ⟨l, b, xs, zs, rfl, rfl, hl, hb, hz, q⟩ := h
  cases (show v = Value.ref l from rx)
  cases (show u = Value.ref b from ry)
  obtain ⟨its, r, ⟨o, n, eo, oc, od, oda⟩, z1⟩ := I.list hl
  obtain ⟨its2, r2, ⟨o2, n2, eo2, oc2, od2, oda2⟩, z2⟩ := I.list hb
  obtain ⟨c1, d1, dt1, s1⟩ := o
  obtain ⟨c2, d2, dt2, s2⟩ := o2
  dsimp only at oc od oda oc2 od2 oda2
  subst oc od oda oc2 od2 oda2
  have sz : its.toArray.size + its2.toArray.size ≤ sizeLine := by rw [List.size_toArray, List.size_toArray, ← r.length, ← r2.length]; exact hz
  refine PySem.concat_meets ⟨_, eo, rfl⟩ ⟨_, eo2, rfl⟩ PySem.noFill_list_add PySem.seq_list_add PySem.F.slot_list_add PySem.F.entry_list_add (PySem.F.args_list_add_2 _ _) (PyProof.Rows.list_addW l b its.toArray its2.toArray n n2 none none s1 s2 sz) ⟨eo, eo2, ?_⟩
  have ea : its.toArray ++ its2.toArray = (its ++ its2).toArray := by simp
  rw [ea]
  exact ⟨.ref _, _, I.lnew (t' := s.toks) (r.append r2) (by rw [List.length_append]; exact hz), rfl, q _ I.fresh⟩
theorem k_cat {X : Cx} {K : PySem.W.Frag} (hK : X.K = K) : OpR X (binaryOp .Add) (rCatS K) := hK ▸ op_catS
section
variable {K : PySem.W.Frag} {σ : L2.St} {G : Hp} {M M1 : Mem} {ta tb te : TE} {ds es : List PyData} {p q C : Addr} {xs ys : List V} {E : XK} {b r : Int} {cs : List (List Int)}
theorem ev_catA (h1 : Ev ta σ G M (isV (.ref p) M)) (h2 : Ev tb σ G M (isV (.ref q) M)) (a1 : AtL K G M p xs) (a2 : AtL K G M q ys) (d1 : DpAll K G xs ds) (d2 : DpAll K G ys es) (hl : ds.length + es.length ≤ 100000) :
    Ev (tOp (rCatS K) ta tb) σ G M (own K (ds ++ es) M) :=
  ev_op h1 h2 fun G1 H F x' y' e m p1 p2 Q k => by
    subst p1 p2
    refine ⟨p, q, xs, ys, rfl, rfl, a1 G1 H F e m, a2 G1 H F e m, ?_, fun l hl => k _ G1 _ _ (Ex.refl _) (m.newMid hl) ⟨l, xs ++ ys, rfl, rfl, dpa_app (dma d1 e) (dma d2 e)⟩⟩
    rw [dpa_len d1, dpa_len d2]
    exact Nat.le_of_lt (sz_ok hl)
theorem ev_mkSh3 {tb tr tc : TE} (hb : Ev tb σ G M (isV (.int b) M)) (hr : Ev tr σ G M (isV (.int r) M)) (hc : Ev tc σ G M (isD K (.list (cs.map colD)) M)) (g : GoodSh b r cs) :
    Ev (tMake C (spec (mkShPre K C) (mkShPost K C)) [] E (tCons tb (tCons tr (tCons tc tNil)))) σ G M (newSh K C b r cs M) := fun G1 H F e m Q k => by
  refine hb G1 H F e m _ fun v1 G2 M2 H2 e2 m2 r2 => ?_
  obtain ⟨rfl, rfl⟩ := r2
  refine hr G2 H2 F (e.trans e2) m2 _ fun v3 G3 M3 H3 e3 m3 r3 => ?_
  obtain ⟨rfl, rfl⟩ := r3
  refine hc G3 H3 F ((e.trans e2).trans e3) m3 _ fun v4 G4 M4 H4 e4 m4 r4 => ?_
  obtain ⟨d4, rfl⟩ := r4
  obtain ⟨a, zs, rfl, hz, hd⟩ := dp_lst d4
  exact ev_mkSh (K := K) (σ := [some (.int b), some (.int r), some (.ref a)]) (G := G4) (M := M4) (M1 := M4) (tA := tCons (tVar 0) (tCons (tVar 1) (tCons (tVar 2) tNil))) (E := E) (C := C) (ea_cons (ev_var rfl) (ea_cons (ev_var rfl) (ea_cons (ev_var rfl) ea_nil))) (.G hz) hd g G4 H4 F (Ex.refl _) m4 Q (fun v G5 M5 H5 e5 m5 r5 => k v G5 M5 H5 (((e2.trans e3).trans e4).trans e5) m5 r5)
    |> fun z => by
      obtain ⟨x1, hx1, x2, hx2, x3, hx3, z⟩ := z
      cases hx1
      cases hx2
      cases hx3
      exact z
/-- isinstance(o, C), o an instance of C -/
structure IsCls (K : PySem.W.Frag) (C : Addr) : Prop where
  ha : PySem.W.findIn K (.ref C) "__class__" = some (some (.builtin "object.__class__"))
  hn : PySem.W.specialIn K (.builtin "object.__class__") "__get__" = some (some (.builtin "getset_descriptor.__get__"))
  ht : PySem.W.takesIn K (.builtin "object.__class__") = some true
  hm : PySem.W.mroIn K C (.type "object") = some true
theorem ev_isiO {dx D : Addr} {fs : List (Str × V)} {b : Bool} (ic : IsCls K C) (cl : Cls K C) (hk : PySem.W.kitOne K (.ref C) (.ref D) = some b) (h : Ev ta σ G M (isV (.ref p) M1)) (hp : At G M1 p (.ins C dx fs)) : Ev (tCB (rIsi K) (tCons ta (tCons (tC (.ref D)) tNil))) σ G M (isV (.bl b) M1) :=
  ev_CB (Ps := [fun _ v => v = .ref p, fun _ v => v = .ref D]) (ea_cons h (ea_cons ev_c ea_nil)) fun G1 H F vs e m z Q k => by
    match vs, z with
    | [v, c], ⟨p1, p2, _⟩ =>
      subst p1 p2
      exact ⟨.ref p, .ref D, .ref C, .ref D, b, rfl, .own D, .base (.ins (hp G1 H F e m) cl ic.ha ic.hn ic.ht ic.hm), hk, k _ _ _ _ (Ex.refl _) m ⟨rfl, rfl⟩⟩
end
end SX
set_option Elab.async false
set_option linter.all false
set_option maxRecDepth 100000
namespace SX
open PySem PySem.Spec L2
theorem k_gtup {X : Cx} {K : PySem.W.Frag} {pos : Pos} {es : List Expr} {k : Nat} {t : TGs} {n : Nat} (hK : X.K = K) (hc : X.calm = true) (h : PGs X es t)
    (hn : (assignEach es X.env).length = n := by rfl) (hst : (assignEach es X.env).findIdx? (·.1) = none := by rfl) : PG X (.Tuple es k pos) (gTup K n t) := hK ▸ pg_tup hc h hn hst
section
variable {E : XK} {K : PySem.W.Frag} {σ : L2.St} {G G' H : Hp} {M M1 M2 M3 F : Mem} {R : Post} {P P' : Po} {te ta tb : TE} {tt tu : TT} {t u : TS} {x y z v : V} {d e : PyData} {ds : List PyData} {a b : Bool} {P1 P2 : Hp → V → Prop} {C : Addr} {Ps : List (Hp → V → Prop)}
/-- a call whose names depend on the values -/
theorem ev_callD {α : Type} {pre : α → Hp → Mem → List V → Prop} {post : α → Mem → Post} {t : TA} {E : XK} (h : EvA t σ G M Ps M1) (hp : ∀ G1 vs, Ex G G1 → AllP G1 Ps vs → ∃ xx, pre xx G1 M1 vs ∧ ∀ G2 v M2, Ex G1 G2 → post xx M1 G2 v M2 → R G2 v M2) :
    Ev (tCall (spec pre post) [] E t) σ G M R := fun G1 H F e m Q q =>
  h G1 H F e m _ fun vs G2 H2 e2 m2 a => by
    obtain ⟨xx, p, r⟩ := hp G2 vs (e.trans e2) a
    exact ⟨xx, G2, M1, F, m2, by rw [List.append_nil]; exact p, fun v G' M' H' e' m' r' => q v G' M' H' (e2.trans e') m' (r G' v M' e' r')⟩
theorem et_orM (h1 : EvT tt σ G M false M1) (h2 : EvT tu σ G M1 b M2) : EvT (tOr tt tu) σ G M b M2 := fun G1 H F e m Q q => h1 G1 H F e m _ fun G2 H2 e2 m2 => by
  show (if false = true then _ else _)
  rw [if_neg Bool.false_ne_true]
  exact h2 G2 H2 F (e.trans e2) m2 Q fun G3 H3 e3 m3 => q G3 H3 (e2.trans e3) m3
/-- o[i] = e by the own method, where it does not raise -/
theorem sv_setG {α : Type} {pre : α → Hp → Mem → List V → Prop} {post : α → Mem → Post} {to ti : TE} {E' : XK} {p dx : Addr} {fs : List (Str × V)} {Pp : Hp → V → Prop} [Mono Pp] (xx : V → α) (h : Ev te σ G M (isP Pp M1)) (h1 : Ev to σ G M1 (isV (.ref p) M1)) (h2 : Ev ti σ G M1 (isV y M1))
    (ha : At G M1 p (.ins C dx fs)) (hp : ∀ v G1, Ex G G1 → Pp G1 v → pre (xx v) G1 M1 [.ref p, y, v])
    (hq : ∀ v w G1 M2, Ex G G1 → post (xx v) M1 G1 w M2 → P.nx G1 σ M2) : Sv E (tAsg te (gSub to ti (rSetO C (spec pre post) E'))) σ G M P := fun G1 H F D e m hd =>
  h G1 H F e m _ fun v G2 M2' H2 e2 m2 r2 => by
    obtain ⟨pv, rfl⟩ := r2
    refine h1 G2 H2 F (e.trans e2) m2 _ fun v3 G3 M3' H3 e3 m3 r3 => ?_
    obtain ⟨rfl, rfl⟩ := r3
    refine h2 G3 H3 F ((e.trans e2).trans e3) m3 _ fun v4 G4 M4' H4 e4 m4 r4 => ?_
    obtain ⟨rfl, rfl⟩ := r4
    have e04 := ((e.trans e2).trans e3).trans e4
    exact ⟨p, dx, fs, rfl, ha G4 H4 F e04 m4, xx v, G4, M4', F, m4, hp v G4 e04 (Mono.mono _ _ _ (e3.trans e4) pv), fun w G5 M5 H5 e5 m5 r5 => hd.nx σ G5 M5 H5 (((e2.trans e3).trans e4).trans e5) m5 (hq v w G5 M5 (e04.trans e5) r5)⟩
/-- a sheet that stands still -/
def ShFz (K : PySem.W.Frag) (C : Addr) (b r : Int) (cs : List (List Int)) (G : Hp) (v : V) : Prop := ∃ p dx l xs, v = .ref p ∧ G p = some (.ins C dx (shF (.int b) (.int r) (.ref l))) ∧ SqL K G l xs ∧ DpAll K G xs (cs.map colD)
instance {b r : Int} {cs : List (List Int)} : Mono (ShFz K C b r cs) := ⟨fun G G' v e h => by
  obtain ⟨p, dx, l, xs, h1, h2, h3, h4⟩ := h
  exact ⟨p, dx, l, xs, h1, e _ _ h2, ex_l e h3, dma h4 e⟩⟩
theorem ShFz.at_ {b r : Int} {cs : List (List Int)} (h : ShFz K C b r cs G v) : ∃ p, v = .ref p ∧ ∀ M, ShAt K C G M p b r cs := by
  obtain ⟨p, dx, l, xs, h1, h2, h3, h4⟩ := h
  exact ⟨p, h1, fun M => ⟨dx, l, xs, .G h2, .G h3, h4⟩⟩
theorem Ev.frzSh {b r : Int} {cs : List (List Int)} (h : Ev te σ G M (newSh K C b r cs M1)) : Ev te σ G M (isP (ShFz K C b r cs) M1) := fun G1 H F e m Q q =>
  h G1 H F e m Q fun v G2 M2 H2 e2 m2 r => by
    obtain ⟨p, dx, l, ys, rfl, hp, rfl, hd⟩ := r
    obtain ⟨m3, e3⟩ := m2.freezeLast
    exact q _ _ M1 H2 (e2.trans e3) m3 ⟨⟨p, dx, l, ys, rfl, e3 _ _ hp, SqL.of upd_same, dma hd e3⟩, rfl⟩
abbrev addGPre (K : PySem.W.Frag) (C : Addr) : ((Addr × Int × Int × List (List Int)) × (Addr × Int × Int × List (List Int))) → Hp → Mem → List V → Prop := fun x G M vs => addPre K C x G M vs ∧ x.1.2.1 = x.2.2.1 ∧ x.1.2.2.1 = x.2.2.2.1
/-- one + other, alike -/
theorem ev_addO [Mono P1] {E' : XK} {b r : Int} {cs cs' : List (List Int)} (h1 : Ev ta σ G M (isP P1 M1)) (h2 : Ev tb σ G M1 (isP P2 M2)) (c1 : ∀ G1 v, Ex G G1 → P1 G1 v → ∃ p, v = .ref p ∧ ShAt K C G1 M2 p b r cs) (c2 : ∀ G1 v, Ex G G1 → P2 G1 v → ∃ p, v = .ref p ∧ ShAt K C G1 M2 p b r cs')
    (g : GoodSh b r cs) (g' : GoodSh b r cs') (hl : cs.length + cs'.length ≤ 10000) : Ev (tOp (rBinO C (spec (addGPre K C) (addPost K C)) E') ta tb) σ G M (newSh K C b r (cs ++ cs') M2) :=
  ev_op h1 h2 fun G1 H F x' y' e m p1 p2 Q k => by
    obtain ⟨p, rfl, s1⟩ := c1 G1 _ e p1
    obtain ⟨q, rfl, s2⟩ := c2 G1 _ e p2
    obtain ⟨dx, l, xs, k1, k2, k3⟩ := s1
    obtain ⟨dy, l', ys, j1, j2, j3⟩ := s2
    exact ⟨p, dx, _, q, dy, _, rfl, rfl, k1 G1 H F (Ex.refl _) m, j1 G1 H F (Ex.refl _) m, ((p, b, r, cs), (q, b, r, cs')), G1, M2, F, m, ⟨⟨rfl, ⟨dx, l, xs, k1, k2, k3⟩, ⟨dy, l', ys, j1, j2, j3⟩, g, g', hl⟩, rfl, rfl⟩, fun v G' M' H' e' m' r' => k v G' M' H' e' m' r'.2⟩
/-- one.cut(lo, hi) -/
theorem ev_cut {E' : XK} {b r lo hi : Int} {cs : List (List Int)} {p : Addr} {tA : TA} (h : Ev ta σ G M (isV (.ref p) M)) (hS : ShAt K C G M p b r cs) (g : GoodSh b r cs) (hA : EvA tA σ G M [fun _ v => v = .int lo, fun _ v => v = .int hi] M) (h0 : 0 ≤ lo) (h1 : 0 ≤ hi) (hn : ¬ (("cut" : Str) = "_base") := by decide +kernel) (hn2 : ¬ (("cut" : Str) = "_rows") := by decide +kernel) (hn3 : ¬ (("cut" : Str) = "_columns") := by decide +kernel) :
    Ev (tMeth C "cut" (spec (cutPre K C) (cutPost K C)) [] E' ta tA) σ G M (newSh K C b r (cutL cs lo hi) M) := by
  obtain ⟨dx, l, xs, k1, k2, k3⟩ := hS
  exact ev_meth (pre := cutPre K C) (post := cutPost K C) ((p, b, r, cs), lo, hi) h k1 (shF_no hn hn2 hn3) hA fun G1 vs e a => by
    match vs, a with
    | [v, w], ⟨p1, p2, _⟩ =>
      subst p1 p2
      exact ⟨rfl, ⟨dx, l, xs, k1.ex e, k2.ex e, dma k3 e⟩, g, h0, h1⟩
/-- are_columns of data -/
theorem ev_areD {tA : TA} {E' : XK} {fs cs : List (List Int)} (h : EvA tA σ G M [fun G v => Dp K G v (.list (fs.map colD)), fun G v => Dp K G v (.list (cs.map colD))] M1) (l1 : fs.length ≤ 100000) (l2 : cs.length ≤ 100000) (l3 : ∀ c ∈ fs, c.length ≤ 100000) :
    Ev (tCall (spec (arePre K) arePost) [] E' tA) σ G M (isV (.bl (decide (fs = cs))) M1) :=
  ev_callD h fun G1 vs ex p => by
    match vs, p with
    | [v, u], ⟨p1, p2, _⟩ =>
      obtain ⟨a, xs, rfl, _⟩ := dp_lst p1
      obtain ⟨a', xs', rfl, _⟩ := dp_lst p2
      exact ⟨(a, a', fs, cs), ⟨rfl, .of p1, .of p2, l1, l2, l3⟩, fun _ _ _ _ r => r⟩
/-- all([.. for x, y in l]), every turn true -/
theorem ev_allP2 {tl : TE} {own' : List Nat} {k1 k2 : Nat} (hs : Ev tl σ G M (isP P1 M1))
    (hx : ∀ G1 v, Ex G G1 → P1 G1 v → ∃ oa ws, v = .ref oa ∧ ws.length ≤ 100000 ∧ SqL K G1 oa ws ∧ ∀ (i : Nat) x, ws[i]? = some x → ∃ t q c, x = .ref t ∧ SqT K G1 t [q, c] ∧ ∀ G2, Ex G1 G2 → Ev te (((wipe σ own').set k1 (some q)).set k2 (some c)) G2 M1 (isV (.bl true) M1))
    (hw : ∀ x y, wipe (((wipe σ own').set k1 (some x)).set k2 (some y)) own' = wipe σ own') :
    Ev (tCB (rAll K) (tCons (tLc (iList K tl) (gTup K 2 (gCons (gName k1) (gCons (gName k2) gNil))) tYes te own') tNil)) σ G M (isV (.bl true) M1) := by
  have key : Ev (tLc (iList K tl) (gTup K 2 (gCons (gName k1) (gCons (gName k2) gNil))) tYes te own') σ G M (isP (fun G v => ∃ n : Nat, Dp K G v (.list ((List.replicate n true).map .bool))) M1) := fun G1 H F e m Q q =>
    hs G1 H F e m _ fun v G2 M2 H2 e2 m2 r2 => by
      obtain ⟨pv, rfl⟩ := r2
      obtain ⟨oa, ws, rfl, hl, hq, hi⟩ := hx G2 v (e.trans e2) pv
      refine ⟨oa, rfl, ⟨ws, ex_l m2.ex hq⟩, fun D hD => lc_list (K := K) (a := oa) (xs := ws) (fun i H' => ∃ G' vs, Ex G2 G' ∧ Me G' (M2 ++ (D, .lst vs) :: F) H' ∧ DpAll K G' vs ((List.replicate i true).map .bool)) ?_ ?_ ?_ ?_⟩
      · exact ⟨G2, [], Ex.refl _, by rw [mem_mid]; exact m2.newMid hD, .nil⟩
      · rintro i H' _ ⟨G', vs, e', m', _⟩
        exact ex_l m'.ex (ex_l e' hq)
      · rintro i x H' hx' ⟨G', vs, e', m', da⟩
        obtain ⟨t, q', c, rfl, ht, hb⟩ := hi i x hx'
        have hil : i < ws.length := (List.getElem?_eq_some_iff.mp hx').1
        refine ⟨t, [q', c], rfl, ex_t m'.ex (ex_t e' ht), rfl, q', [c], rfl, c, [], rfl, rfl, hw q' c, ?_⟩
        refine (et_yes : EvT tYes (((wipe σ own').set k1 (some q')).set k2 (some c)) G' M2 true M2) G' H' _ (Ex.refl _) m' _ fun G5 H5 e5 m5 => ?_
        rw [if_pos rfl]
        refine hb G5 (e'.trans e5) G5 H5 _ (Ex.refl _) m5 _ fun y G4 M4 H4 e4 m4 r4 => ?_
        obtain ⟨rfl, rfl⟩ := r4
        have hm : (M4 ++ (D, HO.lst vs) :: F)[M4.length]? = some (D, .lst vs) := by
          rw [List.getElem?_append_right (Nat.le_refl _), Nat.sub_self]
          rfl
        have hvl : vs.length = i := by rw [dpa_len da, List.length_map, List.length_replicate]
        refine ⟨vs, m4.get hm, by rw [hvl]; exact sz_ok (by omega), G4, vs ++ [.bl true], (e'.trans e5).trans e4, ?_, ?_⟩
        · have := m4.put (o' := .lst (vs ++ [.bl true])) hm
          rw [List.set_append_right _ _ (Nat.le_refl _), Nat.sub_self] at this
          exact this
        · rw [List.replicate_succ', List.map_append]
          exact dpa_app (dma da (e5.trans e4)) (.cons (.bl true) .nil)
      · rintro H' ⟨G', vs, e', m', da⟩
        rw [mem_mid] at m'
        obtain ⟨m3, e3⟩ := m'.freezeLast
        exact q _ _ M2 H' ((e2.trans e').trans e3) m3 ⟨⟨ws.length, .lst (SqL.of upd_same) (dma da e3)⟩, rfl⟩
  exact ev_CB (M1 := M1) (Ps := [fun G v => ∃ n : Nat, Dp K G v (.list ((List.replicate n true).map .bool))]) (fun G1 H F e m Q q => key G1 H F e m _ fun v G2 M2 H2 e2 m2 r => by
    obtain ⟨p, eM⟩ := r
    rw [eM] at m2
    exact q [v] G2 H2 e2 m2 ⟨p, trivial⟩) fun G1 H F vs e m p Q q => by
    match vs, p with
    | [v], ⟨⟨n, p1⟩, _⟩ =>
      obtain ⟨a, xs, rfl, hs, ha⟩ := dp_lst p1
      rw [dpAll_bls ha] at hs
      refine ⟨a, List.replicate n true, rfl, ex_l m.ex hs, ?_⟩
      rw [show (List.replicate n true).all id = true by simp]
      exact q _ _ _ _ (Ex.refl _) m ⟨rfl, rfl⟩
/-- the pairs of a sheet and its due columns -/
def OthF (K : PySem.W.Frag) (os : List (Addr × List (List Int))) (G : Hp) (v : V) : Prop := ∃ oa ws, v = .ref oa ∧ ws.length ≤ 1000 ∧ SqL K G oa ws ∧ ∀ (i : Nat) x, ws[i]? = some x → ∃ t q c cs', x = .ref t ∧ SqT K G t [.ref q, c] ∧ Dp K G c (.list (cs'.map colD)) ∧ (q, cs') ∈ os
instance {os : List (Addr × List (List Int))} : Mono (OthF K os) := ⟨fun G G' v e h => by
  obtain ⟨oa, ws, h1, h2, h3, h4⟩ := h
  refine ⟨oa, ws, h1, h2, ex_l e h3, fun i x hx => ?_⟩
  obtain ⟨t, q, c, cs', k1, k2, k3, k4⟩ := h4 i x hx
  exact ⟨t, q, c, cs', k1, ex_t e k2, dm k3 e, k4⟩⟩
end
/-- (sheet p, dict, its list l owned at n, base, rows, its items, its length as cs, the others) -/
structure OwnS where
  p : Addr
  dx : Addr
  l : Addr
  n : Nat
  b : Int
  r : Int
  xs : List V
  cs : List (List Int)
  os : List (Addr × List (List Int))
abbrev ownPre (K : PySem.W.Frag) (C : Addr) : OwnS → Hp → Mem → List V → Prop := fun x G M vs => ∃ cv ov, vs = [.ref x.p, .int x.b, .int x.r, cv, ov] ∧ At G M x.p (.ins C x.dx (shF (.int x.b) (.int x.r) (.ref x.l))) ∧ M[x.n]? = some (x.l, .lst x.xs) ∧ x.xs.length = x.cs.length ∧ GoodSh x.b x.r x.cs ∧
  Dp K G cv (.list (x.cs.map colD)) ∧ OthF K x.os G ov ∧ G x.p = some (.ins C x.dx (shF (.int x.b) (.int x.r) (.ref x.l))) ∧ ∀ q cs', (q, cs') ∈ x.os → GoodSh x.b x.r cs' ∧ ∀ ys, ShAt K C G (M.set x.n (x.l, .lst ys)) q x.b x.r cs'
abbrev ownPost : OwnS → Mem → Post := fun x M _ v M' => v = .bl true ∧ ∃ ys, M' = M.set x.n (x.l, .lst ys)
end SX
namespace SX
open PySem PySem.Spec L2
abbrev powPre : (Int × Nat) → Hp → Mem → List V → Prop := fun x G M vs => vs = [.int x.1, .int (x.2 : Int)] ∧ (-(2 ^ 64) < x.1 ∧ x.1 < 2 ^ 64) ∧ x.2 ≤ 100000
abbrev powPost : (Int × Nat) → Mem → Post := fun x M => isV (.int (x.1 ^ x.2)) M
theorem horner_last (b : Int) : ∀ (l : List Int) (y : Int), horner b l y = horner b l 0 + b ^ l.length * y
  | [], y => by simp [horner]
  | f :: l, y => by
    have ih := horner_last b l y
    unfold horner at ih ⊢
    simp only [List.foldr_cons, List.length_cons]
    rw [ih, Int.add_mul, Int.pow_succ, Int.mul_assoc, Int.mul_comm y b, ← Int.mul_assoc]
    omega
theorem valueOf_app (b : Int) (cs ds : List (List Int)) : valueOf b (cs ++ ds) = valueOf b cs + b ^ cs.length * valueOf b ds := by
  have := horner_last b (cs.map List.sum) (horner b (ds.map List.sum) 0)
  rw [List.length_map] at this
  unfold valueOf
  rw [← this, List.map_append]
  unfold horner
  rw [List.foldr_append]
/-- two sheets that are not alike -/
abbrev joinPre (K : PySem.W.Frag) (C : Addr) : ((Addr × Int × Int × List (List Int)) × (Addr × Int × Int × List (List Int))) → Hp → Mem → List V → Prop := fun x G M vs => addPre K C x G M vs ∧ ¬ (x.1.2.1 = x.2.2.1 ∧ x.1.2.2.1 = x.2.2.2.1)
abbrev joinPost (K : PySem.W.Frag) : ((Addr × Int × Int × List (List Int)) × (Addr × Int × Int × List (List Int))) → Mem → Post := fun x M => isD K (.list [.bool true, .bool true, .bool false]) M
end SX
namespace SX
open PySem PySem.Spec L2
/-- the law's words of a sheet (p, base, rows, columns), the due columns as data -/
abbrev rightGPre (K : PySem.W.Frag) (C : Addr) : (Addr × Int × Int × List (List Int)) → Hp → Mem → List V → Prop := fun x G M vs => ∃ cv, vs = [.ref x.1, .int x.2.1, .int x.2.2.1, cv] ∧ ShAt K C G M x.1 x.2.1 x.2.2.1 x.2.2.2 ∧ Dp K G cv (.list (x.2.2.2.map colD)) ∧ GoodSh x.2.1 x.2.2.1 x.2.2.2
abbrev rightGPost : (Addr × Int × Int × List (List Int)) → Mem → Post := fun _ M => isV (.bl true) M
theorem ev_rightG {K : PySem.W.Frag} {C : Addr} {σ : L2.St} {G : Hp} {M M1 : Mem} {tA : TA} {E : XK} {p : Addr} {b r : Int} {cs : List (List Int)} (h : EvA tA σ G M [fun _ v => v = .ref p, fun _ v => v = .int b, fun _ v => v = .int r, fun G v => Dp K G v (.list (cs.map colD))] M1) (hS : ShAt K C G M1 p b r cs) (g : GoodSh b r cs) :
    Ev (tCall (spec (rightGPre K C) rightGPost) [] E tA) σ G M (isV (.bl true) M1) :=
  ev_call (p, b, r, cs) h fun G1 vs e q => by
    match vs, q with
    | [v1, v2, v3, v4], ⟨p1, p2, p3, p4, _⟩ =>
      subst p1 p2 p3
      exact ⟨v4, rfl, hS.ex e, p4, g⟩
theorem cutL_len {cs : List (List Int)} {lo hi : Int} (h0 : 0 ≤ lo) (h1 : lo ≤ hi) (h2 : hi ≤ cs.length) : ((cutL cs lo hi).length : Int) = hi - lo := by
  unfold cutL
  rw [List.length_take, List.length_drop]
  omega
theorem cutL_cat {cs : List (List Int)} {lo hi : Int} (h0 : 0 ≤ lo) (h1 : lo ≤ hi) : cutL cs 0 lo ++ cutL cs lo hi = cutL cs 0 hi := by
  unfold cutL
  rw [Int.toNat_zero, List.drop_zero, Nat.sub_zero, Nat.sub_zero, ← List.take_add]
  congr 1
  omega
theorem cutL_all {cs : List (List Int)} {hi : Int} (h0 : 0 ≤ hi) : cutL cs 0 hi ++ cutL cs hi cs.length = cs := by
  unfold cutL
  rw [Int.toNat_zero, List.drop_zero, Nat.sub_zero, Int.toNat_natCast]
  have : (cs.drop hi.toNat).take (cs.length - hi.toNat) = cs.drop hi.toNat := List.take_of_length_le (by rw [List.length_drop]; omega)
  rw [this, List.take_append_drop]
structure PartS where
  dk : Addr
  i : Nat
  D : Deck
  p : Addr
  b : Int
  r : Int
  cs : List (List Int)
abbrev partPre (K : PySem.W.Frag) (C : Addr) : PartS → Hp → Mem → List V → Prop := fun x G M vs => ∃ cv, vs = [.ref x.dk, .ref x.p, cv, .int x.b, .int x.r] ∧ M[x.i]? = some (x.dk, x.D.ho) ∧ (∀ o, ShAt K C G (M.set x.i (x.dk, o)) x.p x.b x.r x.cs) ∧ Dp K G cv (.list (x.cs.map colD)) ∧ GoodSh x.b x.r x.cs ∧ x.cs.length ≤ 1000
def partDk (D : Deck) (n : Int) : Deck := dn (dn D (n + 1)) (n + 1 - dv D (n + 1))
def strDk (D : Deck) : Deck := dn (if dv D 3 ≠ 0 then dn (if dv D 3 ≠ 1 then dn (dn D 3) 10 else dn D 3) 3 else (if dv D 3 ≠ 1 then dn (dn D 3) 10 else dn D 3)) 3
abbrev partPost : PartS → Mem → Post := fun x M => isV (.bl true) (M.set x.i (x.dk, (partDk x.D x.cs.length).ho))
abbrev strPost : PartS → Mem → Post := fun x M => isV (.bl true) (M.set x.i (x.dk, (strDk x.D).ho))
end SX
namespace SX
open PySem PySem.Spec L2
section
variable {K : PySem.W.Frag} {C : Addr} {σ : L2.St} {G : Hp} {M M1 M2 M3 M4 : Mem} {tA : TA} {E : XK} {ta tb tc td te tf : TE}
theorem allP2 {P1 P2 : Hp → V → Prop} : ∀ {vs : List V}, AllP G [P1, P2] vs → ∃ v w, vs = [v, w] ∧ P1 G v ∧ P2 G w
  | [v, w], ⟨a, b, _⟩ => ⟨v, w, rfl, a, b⟩
theorem allP3 {P1 P2 P3 : Hp → V → Prop} : ∀ {vs : List V}, AllP G [P1, P2, P3] vs → ∃ v w u, vs = [v, w, u] ∧ P1 G v ∧ P2 G w ∧ P3 G u
  | [v, w, u], ⟨a, b, c, _⟩ => ⟨v, w, u, rfl, a, b, c⟩
theorem allP5 {P1 P2 P3 P4 P5 : Hp → V → Prop} : ∀ {vs : List V}, AllP G [P1, P2, P3, P4, P5] vs → ∃ v w u x y, vs = [v, w, u, x, y] ∧ P1 G v ∧ P2 G w ∧ P3 G u ∧ P4 G x ∧ P5 G y
  | [v, w, u, x, y], ⟨a, b, c, d, e, _⟩ => ⟨v, w, u, x, y, rfl, a, b, c, d, e⟩
theorem ev_own (x : OwnS) (h : EvA tA σ G M [fun _ v => v = .ref x.p, fun _ v => v = .int x.b, fun _ v => v = .int x.r, fun G v => Dp K G v (.list (x.cs.map colD)), OthF K x.os] M1) (hp : G x.p = some (.ins C x.dx (shF (.int x.b) (.int x.r) (.ref x.l)))) (hl : M1[x.n]? = some (x.l, .lst x.xs)) (hn : x.xs.length = x.cs.length) (g : GoodSh x.b x.r x.cs)
    (ho : ∀ q cs', (q, cs') ∈ x.os → GoodSh x.b x.r cs' ∧ ∀ ys, ShAt K C G (M1.set x.n (x.l, .lst ys)) q x.b x.r cs') : Ev (tCall (spec (ownPre K C) ownPost) [] E tA) σ G M (fun _ v M' => v = .bl true ∧ ∃ ys, M' = M1.set x.n (x.l, .lst ys)) :=
  ev_call x h fun G1 vs e q => by
    obtain ⟨v1, v2, v3, v4, v5, rfl, p1, p2, p3, p4, p5⟩ := allP5 q
    subst p1 p2 p3
    exact ⟨v4, v5, rfl, .G (e _ _ hp), hl, hn, g, p4, p5, e _ _ hp, fun q cs' hq => ⟨(ho q cs' hq).1, fun ys => ((ho q cs' hq).2 ys).ex e⟩⟩
/-- (sheet, due columns) -/
def PrF (K : PySem.W.Frag) (q : Addr) (cs : List (List Int)) (G : Hp) (v : V) : Prop := ∃ t c, v = .ref t ∧ SqT K G t [.ref q, c] ∧ Dp K G c (.list (cs.map colD))
instance {q : Addr} {cs : List (List Int)} : Mono (PrF K q cs) := ⟨fun G G' v e h => by
  obtain ⟨t, c, h1, h2, h3⟩ := h
  exact ⟨t, c, h1, ex_t e h2, dm h3 e⟩⟩
theorem ev_pr {q : Addr} {cs : List (List Int)} (h1 : Ev ta σ G M (isV (.ref q) M)) (h2 : Ev tb σ G M (isD K (.list (cs.map colD)) M1)) : Ev (tTup (tCons ta (tCons tb tNil))) σ G M (isP (PrF K q cs) M1) := fun G1 H F e m Q k =>
  ea_cons h1 (ea_cons h2 ea_nil) G1 H F e m _ fun vs G2 H2 e2 m2 a => by
      obtain ⟨v, w, rfl, p1, p2⟩ := allP2 a
      subst p1
      refine ⟨Nat.le_of_lt (small1000 (by show 2 ≤ 1000; decide)), fun p hp => ?_⟩
      have g2 := m2.free hp
      exact k _ _ _ _ (e2.trans (Ex.new g2)) (m2.newF hp) ⟨⟨p, w, rfl, SqT.of upd_same, dm p2 (Ex.new g2)⟩, rfl⟩
theorem othF_of {os : List (Addr × List (List Int))} {ws : List V} {oa : Addr} (hq : SqL K G oa ws) (hl : ws.length ≤ 1000) (h : ∀ x ∈ ws, ∃ q cs, (q, cs) ∈ os ∧ PrF K q cs G x) : OthF K os G (.ref oa) :=
  ⟨oa, ws, rfl, hl, hq, fun i x hx => by
    obtain ⟨q, cs, hm, t, c, h1, h2, h3⟩ := h x (List.mem_of_getElem? hx)
    exact ⟨t, q, c, cs, h1, h2, h3, hm⟩⟩
theorem ev_oth2 {q q' : Addr} {cs cs' : List (List Int)} (h1 : Ev ta σ G M (isV (.ref q) M)) (h2 : Ev tb σ G M (isD K (.list (cs.map colD)) M1)) (h3 : Ev tc σ G M1 (isV (.ref q') M1)) (h4 : Ev td σ G M1 (isD K (.list (cs'.map colD)) M2)) :
    Ev (tLst (tCons (tTup (tCons ta (tCons tb tNil))) (tCons (tTup (tCons tc (tCons td tNil))) tNil))) σ G M (isP (OthF K [(q, cs), (q', cs')]) M2) := fun G1 H F e m Q k =>
  ea_cons (ev_pr h1 h2) (ea_cons (ev_pr h3 h4) ea_nil) G1 H F e m _ fun vs G2 H2 e2 m2 a => by
      obtain ⟨v, w, rfl, p1, p2⟩ := allP2 a
      refine ⟨Nat.le_of_lt (small1000 (by show 2 ≤ 1000; decide)), fun p hp => ?_⟩
      have g2 := m2.free hp
      refine k _ _ _ _ (e2.trans (Ex.new g2)) (m2.newF hp) ⟨othF_of (SqL.of upd_same) (by show _ ≤ 1000; simp) fun x hx => ?_, rfl⟩
      rcases List.mem_cons.mp hx with rfl | hx
      · exact ⟨q, cs, List.mem_cons_self, Mono.mono _ _ _ (Ex.new g2) p1⟩
      · cases List.mem_singleton.mp hx
        exact ⟨q', cs', by simp, Mono.mono _ _ _ (Ex.new g2) p2⟩
theorem ev_oth3 {q q' q'' : Addr} {cs cs' cs'' : List (List Int)} (h1 : Ev ta σ G M (isV (.ref q) M)) (h2 : Ev tb σ G M (isD K (.list (cs.map colD)) M1)) (h3 : Ev tc σ G M1 (isV (.ref q') M1)) (h4 : Ev td σ G M1 (isD K (.list (cs'.map colD)) M2)) (h5 : Ev te σ G M2 (isV (.ref q'') M2)) (h6 : Ev tf σ G M2 (isD K (.list (cs''.map colD)) M3)) :
    Ev (tLst (tCons (tTup (tCons ta (tCons tb tNil))) (tCons (tTup (tCons tc (tCons td tNil))) (tCons (tTup (tCons te (tCons tf tNil))) tNil)))) σ G M (isP (OthF K [(q, cs), (q', cs'), (q'', cs'')]) M3) := fun G1 H F e m Q k =>
  ea_cons (ev_pr h1 h2) (ea_cons (ev_pr h3 h4) (ea_cons (ev_pr h5 h6) ea_nil)) G1 H F e m _ fun vs G2 H2 e2 m2 a => by
      obtain ⟨v, w, u, rfl, p1, p2, p3⟩ := allP3 a
      refine ⟨Nat.le_of_lt (small1000 (by show 3 ≤ 1000; decide)), fun p hp => ?_⟩
      have g2 := m2.free hp
      refine k _ _ _ _ (e2.trans (Ex.new g2)) (m2.newF hp) ⟨othF_of (SqL.of upd_same) (by show _ ≤ 1000; simp) fun x hx => ?_, rfl⟩
      rcases List.mem_cons.mp hx with rfl | hx
      · exact ⟨q, cs, List.mem_cons_self, Mono.mono _ _ _ (Ex.new g2) p1⟩
      · rcases List.mem_cons.mp hx with rfl | hx
        · exact ⟨q', cs', by simp, Mono.mono _ _ _ (Ex.new g2) p2⟩
        · cases List.mem_singleton.mp hx
          exact ⟨q'', cs'', by simp, Mono.mono _ _ _ (Ex.new g2) p3⟩
end
end SX
namespace SX
open PySem PySem.Spec L2
section
variable {K : PySem.W.Frag} {C : Addr} {σ : L2.St} {G : Hp} {M M1 M2 M3 M4 : Mem} {P : Po} {tA : TA} {E : XK} {ta tb tc td te tf : TE} {t u : TS}
theorem kept_same {n : Nat} {d : PyData} : kept n (fun _ => true) (fun _ => d) = List.replicate n d := by
  rw [kept_all]
  apply List.ext_getElem?
  intro k
  by_cases hk : k < n
  · rw [List.getElem?_map, List.getElem?_range hk, List.getElem?_replicate, if_pos hk]
    rfl
  · rw [List.getElem?_eq_none (by simp; omega), List.getElem?_eq_none (by simp; omega)]
theorem ev_join {p q : Addr} {b r b' r' : Int} {cs cs' : List (List Int)} (h : EvA tA σ G M [fun _ v => v = .ref p, fun _ v => v = .ref q] M1) (hS : ShAt K C G M1 p b r cs) (hT : ShAt K C G M1 q b' r' cs') (g : GoodSh b r cs) (g' : GoodSh b' r' cs') (hl : cs.length + cs'.length ≤ 10000) (hn : ¬ (b = b' ∧ r = r')) :
    Ev (tCall (spec (joinPre K C) (joinPost K)) [] E tA) σ G M (isD K (.list [.bool true, .bool true, .bool false]) M1) :=
  ev_call ((p, b, r, cs), q, b', r', cs') h fun G1 vs e a => by
    obtain ⟨v, w, rfl, p1, p2⟩ := allP2 a
    subst p1 p2
    exact ⟨⟨rfl, hS.ex e, hT.ex e, g, g', hl⟩, hn⟩
theorem eqv_ttf : PyData.eqv (.list [.bool true, .bool true, .bool false]) (.list [.bool true, .bool true, .bool false]) = true := by decide +kernel
theorem sh_ttf : SeqAt.shaped (.list [.bool true, .bool true, .bool false]) = true := by decide +kernel
/-- if not f(..): .. , where f says True and leaves what is not named -/
theorem sv_ifN {R' : Mem → Prop} (h : Ev te σ G M (fun _ v M' => v = .bl true ∧ R' M')) (k : ∀ G' M', Ex G G' → R' M' → Sv E u σ G' M' P) : Sv E (tIfS (tNot (tB te)) t u) σ G M P := fun G1 H F D e m hd =>
  h G1 H F e m _ fun v G2 M2 H2 e2 m2 r => by
    obtain ⟨rfl, r'⟩ := r
    refine ⟨true, rfl, ?_⟩
    show (if (!true) = true then _ else _)
    rw [if_neg (by decide)]
    exact k G2 M2 (e.trans e2) r' G2 H2 F D (Ex.refl _) m2 (hd.up e2)
theorem ev_part {post : PartS → Mem → Post} (x : PartS) (h : EvA tA σ G M [fun _ v => v = .ref x.dk, fun _ v => v = .ref x.p, fun G v => Dp K G v (.list (x.cs.map colD)), fun _ v => v = .int x.b, fun _ v => v = .int x.r] M1) (hi : M1[x.i]? = some (x.dk, x.D.ho)) (hS : ∀ o, ShAt K C G (M1.set x.i (x.dk, o)) x.p x.b x.r x.cs) (g : GoodSh x.b x.r x.cs) (hn : x.cs.length ≤ 1000) :
    Ev (tCall (spec (partPre K C) post) [] E tA) σ G M (post x M1) :=
  ev_call x h fun G1 vs e a => by
    obtain ⟨v1, v2, v3, v4, v5, rfl, p1, p2, p3, p4, p5⟩ := allP5 a
    subst p1 p2 p4 p5
    exact ⟨v3, rfl, hi, fun o => (hS o).ex e, p3, g, hn⟩
theorem ev_catD {ds es : List PyData} (h1 : Ev ta σ G M (isD K (.list ds) M1)) (h2 : Ev tb σ G M1 (isD K (.list es) M2)) (hl : ds.length + es.length ≤ 100000) :
    Ev (tOp (rCatS K) ta tb) σ G M (own K (ds ++ es) M2) :=
  ev_op h1 h2 fun G1 H F x' y' e m p1 p2 Q k => by
    obtain ⟨p, xs, rfl, hx, dx⟩ := dp_lst p1
    obtain ⟨q, ys, rfl, hy, dy⟩ := dp_lst p2
    refine ⟨p, q, xs, ys, rfl, rfl, ex_l m.ex hx, ex_l m.ex hy, ?_, fun l hl => k _ G1 _ _ (Ex.refl _) (m.newMid hl) ⟨l, xs ++ ys, rfl, rfl, dpa_app dx dy⟩⟩
    rw [dpa_len dx, dpa_len dy]
    exact Nat.le_of_lt (sz_ok hl)
theorem ev_pow {b : Int} {n : Nat} (h : EvA tA σ G M [fun _ v => v = .int b, fun _ v => v = .int (n : Int)] M1) (hb : -(2 ^ 64) < b ∧ b < 2 ^ 64) (hn : n ≤ 100000) : Ev (tCall (spec powPre powPost) [] E tA) σ G M (isV (.int (b ^ n)) M1) :=
  ev_call (b, n) h fun G1 vs e a => by
    obtain ⟨v, w, rfl, p1, p2⟩ := allP2 a
    subst p1 p2
    exact ⟨rfl, hb, hn⟩
theorem pow_bd {b : Int} {n : Nat} (h0 : 0 ≤ b) (h1 : b ≤ 12) : 0 ≤ b ^ n ∧ b ^ n ≤ 16 ^ n := by
  induction n with
  | zero => simp
  | succ n ih =>
    rw [Int.pow_succ, Int.pow_succ]
    exact ⟨Int.mul_nonneg ih.1 h0, Int.mul_le_mul ih.2 (by omega) h0 (Int.le_trans ih.1 ih.2)⟩
theorem p16 (n : Nat) : (16 : Int) ^ n = ((2 ^ (4 * n) : Nat) : Int) := by
  rw [Nat.pow_mul]
  norm_cast
theorem pow_wide {b : Int} {n : Nat} (h0 : 0 ≤ b) (h1 : b ≤ 12) : (b ^ n).natAbs < 2 ^ (4 * n + 1) := by
  have := pow_bd (n := n) h0 h1
  rw [p16] at this
  rw [Nat.pow_succ]
  have : 0 < 2 ^ (4 * n) := Nat.two_pow_pos _
  omega
theorem horner_bd {b : Int} (h0 : 0 ≤ b) (h1 : b ≤ 12) : ∀ (l : List Int), (∀ f ∈ l, 0 ≤ f ∧ f ≤ 48) → 0 ≤ horner b l 0 ∧ horner b l 0 ≤ 48 * (16 ^ l.length - 1)
  | [], _ => by simp [horner]
  | f :: l, h => by
    have ih := horner_bd h0 h1 l fun g hg => h g (List.mem_cons_of_mem _ hg)
    have hf := h f List.mem_cons_self
    have e : horner b (f :: l) 0 = horner b l 0 * b + f := rfl
    rw [e, List.length_cons, Int.pow_succ]
    have a1 : 0 ≤ horner b l 0 * b := Int.mul_nonneg ih.1 h0
    have a2 : horner b l 0 * b ≤ horner b l 0 * 12 := Int.mul_le_mul_of_nonneg_left h1 ih.1
    have a3 : (0 : Int) ≤ 16 ^ l.length - 1 := by
      have := ih.1
      have := ih.2
      omega
    omega
theorem value_wide {b r : Int} {cs : List (List Int)} (g : GoodSh b r cs) : (valueOf b cs).natAbs < 2 ^ (4 * cs.length + 6) := by
  have gb := g.b2
  have gb' := g.b12
  have gr := g.r4
  have := horner_bd (b := b) (by omega) gb' (cs.map List.sum) (fun f hf => by
    obtain ⟨c, hc, rfl⟩ := List.mem_map.mp hf
    have h1 := sum_lo (g.col c hc).2
    have h2 := (g.col c hc).1
    have : (c.length : Int) * b ≤ 4 * 12 := Int.mul_le_mul (by omega) gb' (by omega) (by decide)
    omega)
  rw [List.length_map, p16] at this
  have e : 2 ^ (4 * cs.length + 6) = 2 ^ (4 * cs.length) * 64 := Nat.pow_add _ _ _
  have hp : 0 < 2 ^ (4 * cs.length) := Nat.two_pow_pos _
  unfold valueOf
  rw [e]
  omega
end
end SX
set_option Elab.async false
set_option linter.all false
set_option maxRecDepth 100000
namespace SX
open PySem PySem.Spec L2
section
variable {E : XK} {K : PySem.W.Frag} {σ : L2.St} {G G' H : Hp} {M M1 M2 M3 F : Mem} {R : Post} {P P' : Po} {te ta tb : TE} {tt tu : TT} {t u : TS} {x y z v : V} {d e : PyData} {ds es : List PyData} {a b : Bool} {P1 P2 : Hp → V → Prop} {C : Addr} {Ps : List (Hp → V → Prop)}
theorem dpa_set : ∀ {xs : List V} {ds : List PyData} {i : Nat}, DpAll K G xs ds → Dp K G x d → DpAll K G (xs.set i x) (ds.set i d)
  | _, [], _, h, _ => by cases h; exact .nil
  | _, e :: ds, 0, h, hd => by
    cases h with
    | cons _ h2 => exact .cons hd h2
  | _, e :: ds, i + 1, h, hd => by
    cases h with
    | cons h1 h2 => exact .cons h1 (dpa_set (i := i) h2 hd)
end
end SX
namespace SX
open PySem PySem.Spec L2
section
variable {K : PySem.W.Frag} {C : Addr} {σ : L2.St} {G G' : Hp} {M M1 M2 Mx : Mem} {P : Po} {tA : TA} {E : XK} {ta tb tc td te tf : TE} {t u : TS}
def mem9 (L A : Nat → Addr) (X Z : Nat → List V) (hl : Addr) (hs : List V) : Mem := [(L 0, .lst (X 0)), (L 1, .lst (X 1)), (L 2, .lst (X 2)), (L 3, .lst (X 3)), (A 0, .lst (Z 0)), (A 1, .lst (Z 1)), (A 2, .lst (Z 2)), (A 3, .lst (Z 3)), (hl, .lst hs)]
def up {α : Type} (f : Nat → α) (k : Nat) (v : α) : Nat → α := fun j => if j = k then v else f j
variable {L A : Nat → Addr} {X Z : Nat → List V} {hl : Addr} {hs y : List V} {k : Nat}
theorem mem9_X (h : k < 4) : (mem9 L A X Z hl hs ++ Mx)[k]? = some (L k, .lst (X k)) := by
  match k, h with
  | 0, _ => rfl
  | 1, _ => rfl
  | 2, _ => rfl
  | 3, _ => rfl
theorem mem9_Z (h : k < 4) : (mem9 L A X Z hl hs ++ Mx)[4 + k]? = some (A k, .lst (Z k)) := by
  match k, h with
  | 0, _ => rfl
  | 1, _ => rfl
  | 2, _ => rfl
  | 3, _ => rfl
theorem up_same {α : Type} {f : Nat → α} {k : Nat} {v : α} : up f k v k = v := if_pos rfl
theorem up_ne {α : Type} {f : Nat → α} {k j : Nat} {v : α} (h : j ≠ k) : up f k v j = f j := if_neg h
/-- four sheets, their due columns, what was held -/
structure St9 (K : PySem.W.Frag) (C : Addr) (b r : Int) (many : Nat) (P dx L : Nat → Addr) (X Z : Nat → List V) (CS : Nat → List (List Int)) (hs : List V) (G : Hp) : Prop where
  sh : ∀ k, k < 4 → G (P k) = some (.ins C (dx k) (shF (.int b) (.int r) (.ref (L k))))
  dX : ∀ k, k < 4 → DpAll K G (X k) ((CS k).map colD)
  dZ : ∀ k, k < 4 → DpAll K G (Z k) ((CS k).map colD)
  g : ∀ k, k < 4 → GoodSh b r (CS k) ∧ (CS k).length = many
  h : ∀ x ∈ hs, ∃ t f d cs, x = .ref t ∧ SqT K G t [f, d] ∧ Dp K G f (.list (cs.map colD)) ∧ Dp K G d (.list (cs.map colD)) ∧ GoodSh b r cs
theorem St9.up {b r : Int} {many : Nat} {P dx : Nat → Addr} {CS : Nat → List (List Int)} (h : St9 K C b r many P dx L X Z CS hs G) (e : Ex G G') : St9 K C b r many P dx L X Z CS hs G' :=
  ⟨fun k hk => e _ _ (h.sh k hk), fun k hk => dma (h.dX k hk) e, fun k hk => dma (h.dZ k hk) e, h.g, fun x hx => by
    obtain ⟨t, f, d, cs, h1, h2, h3, h4, h5⟩ := h.h x hx
    exact ⟨t, f, d, cs, h1, ex_t e h2, dm h3 e, dm h4 e, h5⟩⟩
theorem St9.at_ {b r : Int} {many : Nat} {P dx : Nat → Addr} {CS : Nat → List (List Int)} (h : St9 K C b r many P dx L X Z CS hs G) (Mx : Mem) (k : Nat) (hk : k < 4) : ShAt K C G (mem9 L A X Z hl hs ++ Mx) (P k) b r (CS k) ∧ ColsAt K G (mem9 L A X Z hl hs ++ Mx) (A k) (CS k) ∧ GoodSh b r (CS k) :=
  ⟨⟨dx k, L k, X k, .G (h.sh k hk), .M (mem9_X hk), h.dX k hk⟩, ⟨Z k, .M (mem9_Z hk), h.dZ k hk⟩, (h.g k hk).1⟩
/-- a column set in one of them, in its due columns too -/
theorem St9.set {b r : Int} {many : Nat} {P dx : Nat → Addr} {CS : Nat → List (List Int)} (h : St9 K C b r many P dx L X Z CS hs G) {w j : Nat} {c : List Int} {y z : V} (hc : GoodCol b r c) (hy : Dp K G y (colD c)) (hz : Dp K G z (colD c)) :
    St9 K C b r many P dx L (SX.up X w ((X w).set j y)) (SX.up Z w ((Z w).set j z)) (SX.up CS w ((CS w).set j c)) hs G := by
  refine ⟨h.sh, fun k hk => ?_, fun k hk => ?_, fun k hk => ?_, h.h⟩
  · by_cases e : k = w
    · subst e
      rw [up_same, up_same, List.map_set]
      exact dpa_set (h.dX k hk) hy
    · rw [up_ne e, up_ne e]
      exact h.dX k hk
  · by_cases e : k = w
    · subst e
      rw [up_same, up_same, List.map_set]
      exact dpa_set (h.dZ k hk) hz
    · rw [up_ne e, up_ne e]
      exact h.dZ k hk
  · by_cases e : k = w
    · subst e
      rw [up_same]
      obtain ⟨g, hn⟩ := h.g k hk
      exact ⟨⟨g.b2, g.b12, g.r1, g.r4, by rw [List.length_set]; exact g.len, fun c' hc' => (List.mem_or_eq_of_mem_set hc').elim (g.col c') fun e => e ▸ hc⟩, by rw [List.length_set]; exact hn⟩
    · rw [up_ne e]
      exact h.g k hk
end
end SX
namespace SX
open PySem PySem.Spec L2
end SX
set_option Elab.async false
set_option linter.all false
set_option maxRecDepth 100000
namespace SX
open PySem PySem.Spec L2
end SX
namespace PySem.W
open PySem PySem.Calls PyProof.Rows
end PySem.W
namespace SX
open PySem PySem.Spec L2
def wrF (b l last : V) : List (Str × V) := putF "_last" last (putF "_figures" l (putF "_base" b []))
/-- a result that stands still -/
def WrG (K : PySem.W.Frag) (C : Addr) (p : Addr) (b : Int) (figs : List Int) (last : Int) (G : Hp) : Prop := ∃ dx l xs, G p = some (.ins C dx (wrF (.int b) (.ref l) (.int last))) ∧ SqL K G l xs ∧ DpAll K G xs (figs.map .int)
theorem WrG.up {K : PySem.W.Frag} {C p : Addr} {b last : Int} {figs : List Int} {G G' : Hp} (h : WrG K C p b figs last G) (e : Ex G G') : WrG K C p b figs last G' := by
  obtain ⟨dx, l, xs, h1, h2, h3⟩ := h
  exact ⟨dx, l, xs, e _ _ h1, ex_l e h2, dma h3 e⟩
def WrFz (K : PySem.W.Frag) (C : Addr) (b : Int) (figs : List Int) (last : Int) (G : Hp) (v : V) : Prop := ∃ p, v = .ref p ∧ WrG K C p b figs last G
instance {K : PySem.W.Frag} {C : Addr} {b last : Int} {figs : List Int} : Mono (WrFz K C b figs last) := ⟨fun G G' v e h => by
  obtain ⟨p, h1, h2⟩ := h
  exact ⟨p, h1, h2.up e⟩⟩
end SX
namespace SX
open PySem PySem.Spec L2
end SX
namespace SX
open PySem PySem.Spec L2
end SX
namespace SX
open PySem PySem.Spec L2
end SX
namespace SX
open PySem PySem.Spec L2
end SX
set_option Elab.async false
set_option linter.all false
set_option maxRecDepth 100000
namespace SX
open PySem PySem.Spec L2
end SX
namespace SX
open PySem PySem.Spec L2
section
variable {K : PySem.W.Frag} {σ : L2.St} {G : Hp} {M M1 M2 : Mem} {ta tb : TE} {E : XK} {C : Addr}
/-- the tuple that is compared -/
def PlF (l : Addr) (n : Nat) (b r : Int) (G : Hp) (v : V) : Prop := ∃ t, v = .ref t ∧ G t = some (.tup [.int b, .int r, .int (n : Int), .ref l])
instance {l : Addr} {n : Nat} {b r : Int} : Mono (PlF l n b r) := ⟨fun G G' v e h => by
  obtain ⟨t, h1, h2⟩ := h
  exact ⟨t, h1, e _ _ h2⟩⟩
end
end SX
namespace SX
open PySem PySem.Spec L2
end SX
namespace SX
open PySem PySem.Spec L2
end SX
namespace SX
open PySem PySem.Spec L2
end SX
namespace SX
open PySem PySem.Spec L2
end SX
set_option Elab.async false
set_option linter.all false
set_option maxRecDepth 100000
namespace SX
open PySem PySem.Spec L2 PyProof.Rows
/-- what a set asks of what it may take -/
structure Elem (P : Program) (w : World) (κ : Type) [DecidableEq κ] where
  is : Heap → κ → Addr → Prop
  code : κ → Int
  toks : κ → Nat
  eqB : ∀ {A : Around} {E : Value → Shared → Prop} {s : Shared} {x y : κ} {a b : Addr} {Q : Bool → Shared → Prop}, A.units < cLine → is s.heap x a → is s.heap y b → Q (decide (x = y)) s → wpAny (model P w) A (eqBool (.ref a) (.ref b)) Q E s
  hash : ∀ {A : Around} {E : Value → Shared → Prop} {s : Shared} {x : κ} {a : Addr} {Q : Int → Shared → Prop}, A.units < cLine → is s.heap x a → Q (code x) { s with toks := s.toks + toks x } → wpAny (model P w) A (pyHash (.ref a)) Q E s
  quiet : ∀ {A : Around} {E : Value → Shared → Prop} {s : Shared} {x : κ} {a : Addr} {Q : Bool → Shared → Prop}, is s.heap x a → Q true s → wpAny (model P w) A (eqIsQuiet 8 (.ref a)) Q E s
  noCls : ∀ {A : Around} {E : Value → Shared → Prop} {s : Shared} {x : κ} {a : Addr} {Q : Bool → Shared → Prop}, is s.heap x a → Q false s → wpAny (model P w) A (ofAClassStatement 8 (.ref a)) Q E s
  byVal : ∀ {A : Around} {E : Value → Shared → Prop} {s : Shared} {x : κ} {a : Addr} {Q : Bool → Shared → Prop}, is s.heap x a → (∀ b, Q b s) → wpAny (model P w) A (hashByValue 8 (.ref a)) Q E s
  but : ∀ {h h' : Heap} {x : κ} {b a : Addr} {o : Obj} {es : Array (Int × Value)} {ep : Nat} {t : SetTable}, is h x b → h.get? a = some o → o.data = .set es ep t → Heap.SameBut a h h' → is h' x b
  keep : ∀ {h h' : Heap} {x : κ} {b : Addr}, is h x b → (∀ c o, h.get? c = some o → h'.get? c = some o) → is h' x b
section
variable {P : Program} {w : World} {κ : Type} [DecidableEq κ] (e : Elem P w κ) {A : Around} {E : Value → Shared → Prop} {s : Shared} {a : Addr} {L : List (Addr × κ)} {es : Array (Int × Value)} {ep : Nat} {t : SetTable}
def codes (L : List (Addr × κ)) : List Int := L.map fun p => e.code p.2
def entries (L : List (Addr × κ)) : List (Int × Value) := L.map fun p => (e.code p.2, Value.ref p.1)
/-- at a: a set that has just these -/
structure SetE (h : Heap) (a : Addr) (L : List (Addr × κ)) (es : Array (Int × Value)) (ep : Nat) (t : SetTable) : Prop where
  obj : ∃ o, h.get? a = some o ∧ o.ExactSet ∧ o.data = .set es ep t
  ent : es.toList = entries e L
  tab : TabOk t (codes e L)
  dif : (L.map (·.2)).Nodup
  mem : ∀ p ∈ L, e.is h p.2 p.1
  led : w.params.followText "set-order" = true ∨ t.led = true
  gap : 5 * L.length < 3 * t.mask
  few : L.length ≤ 60
variable {e}
theorem SetE.esz (R : SetE e s.heap a L es ep t) : es.size = L.length := by
  rw [← Array.length_toList, R.ent, entries, List.length_map]
theorem SetE.psz (R : SetE e s.heap a L es ep t) : t.place.size = L.length := by
  rw [R.tab.sz, codes, List.length_map]
theorem SetE.fit (R : SetE e s.heap a L es ep t) : t.fits es.size = true := by
  have h1 := R.psz
  have h2 := R.esz
  have h3 := R.gap
  simp only [SetTable.fits, SetTable.fill, R.tab.dm, Bool.and_eq_true, beq_iff_eq, decide_eq_true_eq]
  exact ⟨by omega, by simp only [List.size_toArray, List.length_nil]; omega⟩
theorem SetE.row (R : SetE e s.heap a L es ep t) {i : Nat} {p : Addr × κ} (h : L[i]? = some p) : es[i]? = some (e.code p.2, Value.ref p.1) := by
  have h2 : es.toList[i]? = some (e.code p.2, Value.ref p.1) := by rw [R.ent, entries, List.getElem?_map, h]; rfl
  simpa using h2
theorem SetE.code_at (R : SetE e s.heap a L es ep t) {i : Nat} {p : Addr × κ} (h : L[i]? = some p) : (es[i]?.map (·.1)).getD 0 = e.code p.2 := by
  rw [R.row h]
  rfl
theorem no_dummy (m : Nat) : ∀ (n : Nat) (p : SetTable.Probe), p.dummy = none → (nth m p n).dummy = none
  | 0, _, h => h
  | n + 1, p, h => no_dummy m n (adv m p) (by unfold adv; split <;> exact h)
abbrev startP (m : Nat) (c : Int) : SetTable.Probe := runAt m (SetTable.bits c % (m + 1)) (SetTable.bits c)
/-- asked of a list of such values, a search shows nothing -/
theorem unseen {k : κ} {b : Addr} (hk : e.is s.heap k b) {ys : List Value} (hy : ∀ y ∈ ys, ∃ k' c, y = Value.ref c ∧ e.is s.heap k' c) {Q : Bool → Shared → Prop} (h : Q false s) : wpAny (model P w) A (searchCouldBeSeen (.ref b) ys) Q E s := by
  unfold searchCouldBeSeen
  apply wpAny_bind
  refine wpAny_forIn_list _ (fun left r s' => (r.1 = none ∧ s' = s) ∧ ∀ y ∈ left, ∃ k' c, y = Value.ref c ∧ e.is s.heap k' c) _ ?_ ?_ _ _ ⟨⟨rfl, rfl⟩, hy⟩
  · rintro v left r s' ⟨⟨hr, rfl⟩, hall⟩
    obtain ⟨k', c, rfl, hc⟩ := hall v List.mem_cons_self
    have next := fun y (h' : y ∈ left) => hall y (List.mem_cons_of_mem _ h')
    dsimp only
    split
    · exact wpAny_pure ⟨⟨rfl, rfl⟩, next⟩
    · apply wpAny_bind
      apply e.quiet hk
      simp only [Bool.not_true, Bool.false_eq_true, if_false]
      apply wpAny_bind
      apply e.quiet hc
      simp only [Bool.not_true, Bool.false_eq_true, if_false]
      apply wpAny_bind
      apply e.noCls hk
      simp only [Bool.false_eq_true, if_false]
      apply wpAny_bind
      apply e.noCls hc
      simp only [Bool.false_eq_true, if_false]
      exact wpAny_pure ⟨⟨rfl, rfl⟩, next⟩
  · rintro ⟨r1, r2⟩ s' ⟨⟨hr, rfl⟩, _⟩
    cases (show r1 = none from hr)
    exact wpAny_pure h
/-- the search, from its c-th step on: what is sought is there, or a free place is found -/
theorem SetE.look (R : SetE e s.heap a L es ep t) {x : Addr} {k : κ} (hx : e.is s.heap k x) (hu : A.units < cLine) {m : Nat} (hm : t.mask = m) {K : Nat} (hKf : K < 10 * SetTable.turns m) (hK : way m (e.code k) K ∉ t.place.toList) (hKb : ∀ c, c < K → way m (e.code k) c ∈ t.place.toList)
    {Q : SetFound → Shared → Prop} (yes : k ∈ L.map (·.2) → Q (.there none) s) (no : k ∉ L.map (·.2) → Q (.free (way m (e.code k) K) false) s) :
    ∀ (f c : Nat) (st : Option SetTable.Probe), st.getD (t.probeStart (e.code k)) = nth m (startP m (e.code k)) c → c ≤ K → K < f + c → (∀ (i : Nat) (p : Addr × κ), L[i]? = some p → p.2 = k → ∃ c', (c ≤ c' ∧ c' < K) ∧ t.place.toList[i]? = some (way m (e.code k) c')) →
      wpAny (model P w) A (setSearchFrom a (.ref x) (e.code k) true f st) Q E s := by
  subst hm
  obtain ⟨o, ho, hex, hd⟩ := R.obj
  intro f
  induction f with
  | zero => intro c st _ h1 h2; omega
  | succ f ih =>
    intro c st hst hc hf hre
    have hnd := no_dummy t.mask c (startP t.mask (e.code k)) rfl
    have hj : ∀ q, (nth t.mask (nth t.mask (startP t.mask (e.code k)) c) q).j = way t.mask (e.code k) (c + q) := fun q => by rw [← nth_add]
    have spec := go_spec t R.tab.ris R.tab.dm (fun i => (es[i]?.map (·.1)).getD 0) (e.code k) (10 * SetTable.turns t.mask) (K - c) _ hnd (by omega) (fun q hq => by rw [hj]; exact hKb _ (by omega)) (by rw [hj, Nat.add_sub_cancel' hc]; exact hK)
    rw [setSearchFrom_succ]
    apply wpAny_bind
    refine wpAny_setState_of ho hd R.fit ?_
    dsimp only
    refine wp_if_neg (by unfold SetTable.gaveWay; rw [mask_odd R.tab.mok]; decide) ?_
    try apply wpAny_bind; apply wpAny_pure
    rcases spec with ⟨q, i, hq, hi, hh, hfst, hpr⟩ | ⟨hnone, hpr⟩
    · -- a place with the same code
      have hpr2 : t.probe (fun i => (es[i]?.map (·.1)).getD 0) (e.code k) (st.getD (t.probeStart (e.code k))) = some (.candidate (way t.mask (e.code k) (c + q)) i (nth t.mask (startP t.mask (e.code k)) (c + (q + 1)))) := by
        rw [hst, ← hj q, nth_add t.mask c _ (q + 1)]
        exact hpr
      rw [hpr2]
      dsimp only
      rw [hj] at hi
      have hiL : i < L.length := by
        have := (List.getElem?_eq_some_iff.mp hi).1
        rw [Array.length_toList, R.psz] at this
        exact this
      obtain ⟨p, hp⟩ : ∃ p, L[i]? = some p := ⟨_, List.getElem?_eq_getElem hiL⟩
      have hpL := List.mem_of_getElem? hp
      have live := slot_live R.tab.ris hi
      have body : wpAny (model P w) A (searchRest a (.ref x) (e.code k) true f es t (way t.mask (e.code k) (c + q)) i (nth t.mask (startP t.mask (e.code k)) (c + (q + 1)))) Q E s := by
        unfold searchRest
        rw [R.row hp]
        dsimp only
        apply wpAny_bind
        apply wpAny_holding
        apply e.eqB hu (R.mem p hpL) hx
        apply wpAny_bind
        refine wpAny_setState_of ho hd R.fit ?_
        dsimp only
        by_cases hkk : p.2 = k
        · rw [decide_eq_true hkk]
          exact wp_if_pos rfl (wpAny_pure (yes (List.mem_map.mpr ⟨p, hpL, hkk⟩)))
        · rw [decide_eq_false hkk]
          refine wp_if_neg (by decide) ?_
          try apply wpAny_bind; apply wpAny_pure
          have hsm : t.sameMemory t.moves t.mask = some true := by simp [SetTable.sameMemory]
          rw [hsm]
          simp only [if_true, live, R.row hp]
          apply wpAny_bind
          apply wpAny_isSame_ref_self
          apply wpAny_bind
          apply wpAny_pure
          simp only [if_true]
          refine wp_if_neg (by decide) ?_
          refine ih (c + (q + 1)) _ rfl (by omega) (by omega) fun i0 p0 h0 hk0 => ?_
          obtain ⟨c', ⟨b1, b2⟩, b3⟩ := hre i0 p0 h0 hk0
          refine ⟨c', ⟨?_, b2⟩, b3⟩
          rcases Nat.lt_trichotomy c' (c + q) with z | z | z
          · refine absurd ((R.code_at h0).trans (by rw [hk0])) (hfst (c' - c) i0 (by omega) ?_)
            rw [hj, Nat.add_sub_cancel' b1]
            exact b3
          · exfalso
            subst z
            have l2 := slot_live R.tab.ris b3
            rw [live] at l2
            cases l2
            rw [hp] at h0
            cases h0
            exact hkk hk0
          · omega
      by_cases hl : t.led = true
      · refine wp_if_neg (by rw [hl]; decide) ?_
        try apply wpAny_bind; apply wpAny_pure
        exact body
      · refine wp_if_pos (by simpa using hl) ?_
        apply wpAny_bind
        refine unseen hx (fun y hy => ?_) ?_
        · simp only [List.mem_map, Array.mem_toList_iff, Array.mem_filter] at hy
          obtain ⟨en, ⟨hen, _⟩, rfl⟩ := hy
          have hen : en ∈ es.toList := by simpa using hen
          rw [R.ent, entries, List.mem_map] at hen
          obtain ⟨p2, h2, rfl⟩ := hen
          exact ⟨p2.2, p2.1, rfl, R.mem p2 h2⟩
        · refine wp_if_neg (by decide) ?_
          try apply wpAny_bind; apply wpAny_pure
          exact body
    · -- a free place
      have hpr2 : t.probe (fun i => (es[i]?.map (·.1)).getD 0) (e.code k) (st.getD (t.probeStart (e.code k))) = some (.empty (way t.mask (e.code k) K) none) := by
        rw [hst, show way t.mask (e.code k) K = way t.mask (e.code k) (c + (K - c)) by rw [Nat.add_sub_cancel' hc], ← hj]
        exact hpr
      rw [hpr2]
      dsimp only
      refine wpAny_pure (no fun hm => ?_)
      obtain ⟨p0, h0, hk0⟩ := List.mem_map.mp hm
      obtain ⟨i0, h00⟩ := List.mem_iff_getElem?.mp h0
      obtain ⟨c', ⟨b1, b2⟩, b3⟩ := hre i0 p0 h00 hk0
      refine absurd ((R.code_at h00).trans (by rw [hk0])) (hnone (c' - c) i0 (by omega) ?_)
      rw [hj, Nat.add_sub_cancel' b1]
      exact b3
end
end SX
namespace SX
open PySem PySem.Spec L2 PyProof.Rows
end SX
namespace SX
open PySem PySem.Spec L2 PyProof.Rows
end SX
namespace SX
open PySem PySem.Spec L2 PyProof.Rows
end SX
set_option Elab.async false
set_option linter.all false
set_option maxRecDepth 100000
namespace SX
open PySem PySem.Spec L2 PyProof.Rows
end SX
set_option Elab.async false
set_option linter.all false
set_option maxRecDepth 100000
namespace SX
open PySem PySem.Spec PyProof.Rows L2
end SX
namespace SX
open PySem PySem.Spec L2
end SX
set_option Elab.async false
set_option linter.all false
set_option maxRecDepth 100000
namespace SY
open PySem PySem.Spec L2 SX
/-- what is known of a value, and stays so -/
structure Pr where
  p : Hp → V → Prop
  m : ∀ G G' v, Ex G G' → p G v → p G' v
/-- what is known of an object that is owned -/
structure Ob where
  p : Hp → HO → Prop
  m : ∀ G G' o, Ex G G' → p G o → p G' o
abbrev Mp := List (Addr × Ob)
abbrev En := List (Option Pr)
def D (K : PySem.W.Frag) (d : PyData) : Pr := ⟨fun G v => Dp K G v d, fun _ _ _ e h => dm h e⟩
def Av (a : Addr) : Pr := ⟨fun _ v => v = .ref a, fun _ _ _ _ h => h⟩
def OL (K : PySem.W.Frag) (ds : List PyData) : Ob := ⟨fun G o => ∃ vs, o = .lst vs ∧ DpAll K G vs ds, fun _ _ _ e h => by obtain ⟨vs, h1, h2⟩ := h; exact ⟨vs, h1, dma h2 e⟩⟩
def Sl (G : Hp) (σ : L2.St) (δ : En) : Prop := σ.length = δ.length ∧ ∀ (k : Nat) (P : Pr), δ[k]? = some (some P) → ∃ v, σ[k]? = some (some v) ∧ P.p G v
def Mm (G : Hp) : Mem → Mp → Prop
  | [], [] => True
  | m :: M, q :: μ => (m.1 = q.1 ∧ q.2.p G m.2) ∧ Mm G M μ
  | _, _ => False
abbrev AP (G : Hp) (Ps : List Pr) (vs : List V) : Prop := AllP G (Ps.map Pr.p) vs
section
variable {G G' : Hp} {σ : L2.St} {δ δ' : En} {M M1 M2 : Mem} {μ μ1 μ2 : Mp} {P : Pr} {v : V} {k i : Nat} {Ps : List Pr} {vs : List V}
theorem Sl.mono (h : Sl G σ δ) (e : Ex G G') : Sl G' σ δ := ⟨h.1, fun k P hk => by obtain ⟨v, h1, h2⟩ := h.2 k P hk; exact ⟨v, h1, P.m _ _ _ e h2⟩⟩
theorem Sl.get (h : Sl G σ δ) (hk : δ[k]? = some (some P)) : ∃ v, σ[k]? = some (some v) ∧ P.p G v := h.2 k P hk
theorem Sl.set (h : Sl G σ δ) (hp : P.p G v) : Sl G (σ.set k (some v)) (δ.set k (some P)) := ⟨by simp [h.1], fun j Q hj => by
  rw [List.getElem?_set] at hj ⊢
  split at hj
  · rename_i e
    subst e
    rw [if_pos rfl]
    split at hj
    · rename_i hl
      cases hj
      rw [if_pos (by rw [h.1]; exact hl)]
      exact ⟨v, rfl, hp⟩
    · cases hj
  · rename_i e
    rw [if_neg e]
    exact h.2 j Q hj⟩
theorem Sl.none (h : Sl G σ δ) : Sl G σ (δ.set k Option.none) := ⟨by simp [h.1], fun j Q hj => by
  rw [List.getElem?_set] at hj
  split at hj
  · split at hj <;> cases hj
  · exact h.2 j Q hj⟩
/-- less is known of the slots -/
def Le (δ δ' : En) : Prop := δ.length = δ'.length ∧ ∀ (k : Nat) (P : Pr), δ'[k]? = some (some P) → ∃ P0 : Pr, δ[k]? = some (some P0) ∧ ∀ G v, P0.p G v → P.p G v
theorem Le.nil : Le [] [] := ⟨rfl, fun k P h => by simp at h⟩
theorem Le.drop {p : Option Pr} (l : Le δ δ') : Le (p :: δ) (Option.none :: δ') := ⟨by simp [l.1], fun k P h => by
  cases k with
  | zero => cases h
  | succ k => exact l.2 k P h⟩
theorem Le.imp {p p' : Pr} (hp : ∀ G v, p.p G v → p'.p G v) (l : Le δ δ') : Le (some p :: δ) (some p' :: δ') := ⟨by simp [l.1], fun k P h => by
  cases k with
  | zero => cases h; exact ⟨p, rfl, hp⟩
  | succ k => exact l.2 k P h⟩
theorem Le.refl : ∀ δ : En, Le δ δ := fun δ => ⟨rfl, fun k P h => ⟨P, h, fun _ _ z => z⟩⟩
/-- slots that differ only at these -/
def Same (σ σ' : L2.St) (vs : List Nat) : Prop := σ'.length = σ.length ∧ ∀ j, j ∉ vs → σ'[j]? = σ[j]?
theorem Same.refl (σ : L2.St) (vs : List Nat) : Same σ σ vs := ⟨rfl, fun _ _ => rfl⟩
theorem Same.trans {σ σ1 σ2 : L2.St} {vs : List Nat} (a : Same σ σ1 vs) (b : Same σ1 σ2 vs) : Same σ σ2 vs := ⟨b.1.trans a.1, fun j h => (b.2 j h).trans (a.2 j h)⟩
theorem Same.set {σ : L2.St} {vs : List Nat} {x : Option V} (h : k ∈ vs) : Same σ (σ.set k x) vs := ⟨by simp, fun j hj => List.getElem?_set_ne fun e => hj (by rw [← e]; exact h)⟩
theorem Mm.mono : ∀ {M : Mem} {μ : Mp}, Mm G M μ → Ex G G' → Mm G' M μ
  | [], [], _, _ => trivial
  | _ :: _, q :: _, h, e => ⟨⟨h.1.1, q.2.m _ _ _ e h.1.2⟩, Mm.mono h.2 e⟩
  | [], _ :: _, h, _ => h.elim
  | _ :: _, [], h, _ => h.elim
theorem Mm.app : ∀ {M1 : Mem} {μ1 : Mp}, Mm G M1 μ1 → Mm G M2 μ2 → Mm G (M1 ++ M2) (μ1 ++ μ2)
  | [], [], _, h => h
  | _ :: _, _ :: _, h, h2 => ⟨h.1, Mm.app h.2 h2⟩
  | [], _ :: _, h, _ => h.elim
  | _ :: _, [], h, _ => h.elim
theorem Mm.cut : ∀ {μ1 : Mp} {M : Mem}, Mm G M (μ1 ++ μ2) → ∃ M1 M2, M = M1 ++ M2 ∧ Mm G M1 μ1 ∧ Mm G M2 μ2
  | [], M, h => ⟨[], M, rfl, trivial, h⟩
  | _ :: _, [], h => h.elim
  | _ :: _, m :: M, h => by
    obtain ⟨M1, M2, rfl, h1, h2⟩ := Mm.cut h.2
    exact ⟨m :: M1, M2, rfl, ⟨h.1, h1⟩, h2⟩
theorem Mm.get {a : Addr} {q : Ob} : ∀ {μ : Mp} {M : Mem} {i : Nat}, Mm G M μ → μ[i]? = some (a, q) → ∃ o, M[i]? = some (a, o) ∧ q.p G o
  | [], [], _, _, h => by simp at h
  | [], _ :: _, _, h, _ => h.elim
  | _ :: _, [], _, h, _ => h.elim
  | _ :: _, m :: _, 0, h, e => by
    cases e
    obtain ⟨b, o⟩ := m
    obtain ⟨⟨rfl, h2⟩, _⟩ := h
    exact ⟨o, rfl, h2⟩
  | _ :: _, _ :: _, i + 1, h, e => Mm.get (i := i) h.2 e
theorem Mm.set {a : Addr} {q q' : Ob} {o : HO} (hq : q'.p G o) : ∀ {μ : Mp} {M : Mem} {i : Nat}, Mm G M μ → μ[i]? = some (a, q) → Mm G (M.set i (a, o)) (μ.set i (a, q'))
  | [], [], _, _, h => by simp at h
  | [], _ :: _, _, h, _ => h.elim
  | _ :: _, [], _, h, _ => h.elim
  | _ :: _, _ :: _, 0, h, _ => ⟨⟨rfl, hq⟩, h.2⟩
  | _ :: _, _ :: _, i + 1, h, e => ⟨h.1, Mm.set hq (i := i) h.2 e⟩
theorem Mm.sub : ∀ {μ' μ : Mp}, μ'.Sublist μ → ∀ {M : Mem}, Mm G M μ → ∃ M', M'.Sublist M ∧ Mm G M' μ'
  | _, _, .slnil, [], h => ⟨[], .slnil, h⟩
  | _, _, .slnil, _ :: _, h => h.elim
  | _, _, .cons _ s, [], h => h.elim
  | _, _, .cons _ s, _ :: _, h => by
    obtain ⟨M', h1, h2⟩ := Mm.sub s h.2
    exact ⟨M', h1.cons _, h2⟩
  | _, _, .cons_cons _ s, [], h => h.elim
  | _, _, .cons_cons _ s, m :: _, h => by
    obtain ⟨M', h1, h2⟩ := Mm.sub s h.2
    exact ⟨m :: M', h1.cons_cons _, h.1, h2⟩
theorem Mm.nil (h : Mm G M []) : M = [] := by
  match M, h with
  | [], _ => rfl
theorem AP.mono : ∀ {Ps : List Pr} {vs : List V}, AP G Ps vs → Ex G G' → AP G' Ps vs
  | [], [], _, _ => trivial
  | P :: _, _ :: _, h, e => ⟨P.m _ _ _ e h.1, AP.mono h.2 e⟩
  | [], _ :: _, h, _ => h.elim
  | _ :: _, [], h, _ => h.elim
theorem AP.len : ∀ {Ps : List Pr} {vs : List V}, AP G Ps vs → vs.length = Ps.length
  | [], [], _ => rfl
  | _ :: _, _ :: _, h => by simp [AP.len h.2]
  | [], _ :: _, h => h.elim
  | _ :: _, [], h => h.elim
theorem AP.get : ∀ {Ps : List Pr} {vs : List V} {i : Nat} {P : Pr}, AP G Ps vs → Ps[i]? = some P → ∃ v, vs[i]? = some v ∧ P.p G v
  | [], _, _, _, _, e => by simp at e
  | _ :: _, [], _, _, h, _ => h.elim
  | _ :: _, v :: _, 0, _, h, e => by cases e; exact ⟨v, rfl, h.1⟩
  | _ :: _, _ :: _, i + 1, _, h, e => AP.get (i := i) h.2 e
end
def E1 (te : TE) (δ : En) (μ : Mp) (P : Pr) (μ' : Mp) : Prop := ∀ σ G M, Sl G σ δ → Mm G M μ → Ev te σ G M (fun G' v M' => P.p G' v ∧ Mm G' M' μ')
def EY (te : TE) (δ : En) (μ : Mp) (R : Pr → Mp → Prop) : Prop := ∀ σ G M, Sl G σ δ → Mm G M μ → Ev te σ G M (fun G' v M' => ∃ P μ', R P μ' ∧ P.p G' v ∧ Mm G' M' μ')
def EA (ta : TA) (δ : En) (μ : Mp) (Ps : List Pr) (μ' : Mp) : Prop := ∀ σ G M, Sl G σ δ → Mm G M μ → ∀ G1 H F, Ex G G1 → Me G1 (M ++ F) H → ∀ Q : List V → Hp → Prop, (∀ vs G2 M2 H2, Ex G1 G2 → Me G2 (M2 ++ F) H2 → AP G2 Ps vs → Mm G2 M2 μ' → Q vs H2) → ta σ H Q
/-- a new list, owned -/
def EO (K : PySem.W.Frag) (te : TE) (δ : En) (μ : Mp) (ds : List PyData) (μ' : Mp) : Prop := ∀ σ G M, Sl G σ δ → Mm G M μ → Ev te σ G M (fun G' v M' => ∃ p vs M0, v = .ref p ∧ M' = M0 ++ [(p, .lst vs)] ∧ DpAll K G' vs ds ∧ Mm G' M0 μ')
/-- a list (tuple) that can be read -/
def LR (K : PySem.W.Frag) (P : Pr) (μ : Mp) (ds : List PyData) : Prop := ∀ G v M, P.p G v → Mm G M μ → ∃ a xs, v = .ref a ∧ AtL K G M a xs ∧ DpAll K G xs ds
theorem LR.at {K : PySem.W.Frag} {P : Pr} {μ : Mp} {ds : List PyData} (h : LR K P μ ds) (G : Hp) (v : V) (M F : Mem) (H : Hp) (p : P.p G v) (mm : Mm G M μ) (m : Me G (M ++ F) H) : ∃ a xs, v = .ref a ∧ SqL K H a xs ∧ DpAll K G xs ds := by
  obtain ⟨a, xs, h1, h2, h3⟩ := h G v M p mm
  exact ⟨a, xs, h1, h2 G H F (Ex.refl _) m, h3⟩
/-- data that can be read -/
def DR (K : PySem.W.Frag) (P : Pr) (μ : Mp) (d : PyData) : Prop := ∀ G v M F H, P.p G v → Mm G M μ → Me G (M ++ F) H → Dp K H v d
section
variable {K : PySem.W.Frag} {te ta tb tc : TE} {tt tu : TT} {tA tr : TA} {δ δ' : En} {μ μ' μ0 μ1 μ2 μ3 : Mp} {P P1 P2 P3 : Pr} {Ps : List Pr} {R : Pr → Mp → Prop} {d e : PyData} {ds es : List PyData} {i j : Int} {a b c : Bool} {k : Nat} {ad : Addr} {s t : Str}
theorem dr_D : DR K (D K d) μ d := fun G v M F H p _ m => dm p m.ex
theorem dr_L (h : LR K P μ ds) : DR K P μ (.list ds) := fun G v M F H p mm m => by
  obtain ⟨a, xs, rfl, h1, h2⟩ := h.at G v M F H p mm m
  exact .lst h1 (dma h2 m.ex)
theorem E1.imp (h : E1 te δ μ P μ') (f : ∀ G v, P.p G v → P1.p G v) : E1 te δ μ P1 μ' := fun σ G M s m => (h σ G M s m).imp fun G1 v M1 _ r => ⟨f _ _ r.1, r.2⟩
theorem EY.imp {R' : Pr → Mp → Prop} (h : EY te δ μ R) (f : ∀ P μ', R P μ' → R' P μ') : EY te δ μ R' := fun σ G M s m => (h σ G M s m).imp fun G1 v M1 _ r => by
  obtain ⟨P, μ', r0, r1, r2⟩ := r
  exact ⟨P, μ', f _ _ r0, r1, r2⟩
theorem EO.own (h : EO K te δ μ ds μ') : EY te δ μ (fun P μ2 => ∃ a, P = Av a ∧ μ2 = μ' ++ [(a, OL K ds)]) := fun σ G M s m => (h σ G M s m).imp fun G1 v M1 _ r => by
  obtain ⟨p, vs, M0, rfl, rfl, r1, r2⟩ := r
  exact ⟨Av p, _, ⟨p, rfl, rfl⟩, rfl, Mm.app r2 ⟨⟨rfl, vs, rfl, r1⟩, trivial⟩⟩
theorem EO.frz (h : EO K te δ μ ds μ') : E1 te δ μ (D K (.list ds)) μ' := fun σ G M s m G1 H F e m1 Q q => (h σ G M s m) G1 H F e m1 Q fun v G2 M2 H2 e2 m2 r => by
  obtain ⟨p, vs, M0, rfl, rfl, r1, r2⟩ := r
  obtain ⟨m3, e3⟩ := m2.freezeLast
  exact q _ _ M0 H2 (e2.trans e3) m3 ⟨.lst (SqL.of upd_same) (dma r1 e3), r2.mono e3⟩
def isNon : PyData → Bool
  | .none => true
  | _ => false
theorem EA.imp {Ps' : List Pr} (h : EA tA δ μ Ps μ') (f : ∀ G vs, AP G Ps vs → AP G Ps' vs) : EA tA δ μ Ps' μ' := fun σ G M s m G1 H F e m1 Q q => h σ G M s m G1 H F e m1 Q fun vs G2 M2 H2 e2 m2 a2 r2 => q vs G2 M2 H2 e2 m2 (f _ _ a2) r2
end
end SY
set_option Elab.async false
set_option linter.all false
set_option maxRecDepth 100000
namespace SY
open PySem PySem.Spec L2 SX
structure PY where
  nx : En → Mp → Prop
  rt : Pr → Mp → Prop := fun _ _ => False
  bk : En → Mp → Prop := fun _ _ => False
  ct : En → Mp → Prop := fun _ _ => False
  ex : Value → Option Addr → Mp → Prop := fun _ _ _ => False
def PY.po (P : PY) : Po where
  nx := fun G σ M => ∃ δ μ, P.nx δ μ ∧ Sl G σ δ ∧ Mm G M μ
  rt := fun G v M => ∃ Q μ, P.rt Q μ ∧ Q.p G v ∧ Mm G M μ
  bk := fun G σ M => ∃ δ μ, P.bk δ μ ∧ Sl G σ δ ∧ Mm G M μ
  ct := fun G σ M => ∃ δ μ, P.ct δ μ ∧ Sl G σ δ ∧ Mm G M μ
  ex := fun c d G M => ∃ μ, P.ex c d μ ∧ Mm G M μ
def S1 (E : XK) (t : TS) (δ : En) (μ : Mp) (P : PY) : Prop := ∀ σ G M, Sl G σ δ → Mm G M μ → Sv E t σ G M P.po
/-- a target takes a value; vs: the slots it stores -/
def G1 (g : TG) (P : Pr) (δ δ' : En) (vs : List Nat) : Prop := ∀ σ G M F H v, Sl G σ δ → P.p G v → Me G (M ++ F) H → ∀ Q : L2.St → Hp → Prop, (∀ σ', Sl G σ' δ' → Same σ σ' vs → Q σ' H) → g v σ H Q
section
variable {E : XK} {K : PySem.W.Frag} {te ta tb tc : TE} {tt tu : TT} {tA tr : TA} {δ δ' δ1 δ2 : En} {μ μ' μ0 μ1 μ2 μ3 : Mp} {Q Q1 Q2 : Pr} {Ps : List Pr} {R : Pr → Mp → Prop} {d e : PyData} {ds es : List PyData} {i j : Int} {a b c : Bool} {k : Nat} {ad : Addr} {t u : TS} {P P' : PY} {g : TG} {gs : TGs} {vs : List Nat} {N : En → Mp → Prop}
theorem S1.imp (h : S1 E t δ μ P) (nx : ∀ δ μ, P.nx δ μ → P'.nx δ μ) (rt : ∀ q μ, P.rt q μ → P'.rt q μ) (bk : ∀ δ μ, P.bk δ μ → P'.bk δ μ) (ct : ∀ δ μ, P.ct δ μ → P'.ct δ μ) (ex : ∀ c d μ, P.ex c d μ → P'.ex c d μ) : S1 E t δ μ P' := fun σ G M s m =>
  (h σ G M s m).imp (fun _ _ _ _ ⟨x, y, h1, h2⟩ => ⟨x, y, nx _ _ h1, h2⟩) (fun _ _ _ _ ⟨x, y, h1, h2⟩ => ⟨x, y, rt _ _ h1, h2⟩) (fun _ _ _ _ ⟨x, y, h1, h2⟩ => ⟨x, y, bk _ _ h1, h2⟩) (fun _ _ _ _ ⟨x, y, h1, h2⟩ => ⟨x, y, ct _ _ h1, h2⟩) (fun _ _ _ _ _ ⟨y, h1, h2⟩ => ⟨y, ex _ _ _ h1, h2⟩)
end
end SY
set_option Elab.async false
set_option linter.all false
set_option maxRecDepth 100000
namespace SY
open PySem PySem.Spec L2 SX
/-- less is told -/
def Imp (P Q : Pr) : Prop := ∀ G v, P.p G v → Q.p G v
theorem Imp.refl (P : Pr) : Imp P P := fun _ _ h => h
end SY
set_option Elab.async false
set_option linter.all false
set_option maxRecDepth 100000
namespace SY
open PySem PySem.Spec L2 SX
inductive Deed where
  | forget | again | off (d : Int) | read (j d : Int) | copy (j : Int) | swap | out | twice | right
  deriving DecidableEq
end SY
set_option Elab.async false
set_option linter.all false
set_option maxRecDepth 100000
namespace SY
open PySem PySem.Spec L2 SX
section
variable {E : XK} {K : PySem.W.Frag} {C C2 : Addr} {te ta tb tc tl : TE} {tt tu : TT} {tA tr : TA} {δ δ' : En} {μ μ' μ0 μ1 μ2 rest : Mp} {Q P P1 P2 : Pr} {Ps : List Pr} {R : Post} {d e : PyData} {ds es : List PyData} {i j b r b' r' last last' : Int} {cs cs' : List (List Int)} {figs figs' : List Int} {k n : Nat} {ad l : Addr} {m : Str} {t u : TS} {PP : PY}
theorem ShAt.ins {G : Hp} {M : Mem} {p : Addr} (h : ShAt K C G M p b r cs) : ∃ dx fs, At G M p (.ins C dx fs) := by
  obtain ⟨dx, l, xs, h1, _⟩ := h
  exact ⟨dx, _, h1⟩
end
end SY
set_option Elab.async false
set_option linter.all false
set_option maxRecDepth 100000
set_option Elab.async false
set_option linter.all false
set_option maxRecDepth 100000
namespace SY
open PySem PySem.Spec L2 SX
def offsOf (b : Int) : List Deed := ((List.range (b - 1).toNat).map fun (n : Nat) => 1 + (n : Int)).map Deed.off
def readsOf (b r : Int) : List Deed := (List.range r.toNat).flatMap fun (j : Nat) => ((List.range (b - 1).toNat).map fun (n : Nat) => 1 + (n : Int)).map (Deed.read (j : Int))
def copiesOf (r : Int) : List Deed := (List.range r.toNat).map fun (j : Nat) => Deed.copy (j : Int)
def allDeeds (b r : Int) : List Deed := [.forget, .again] ++ (offsOf b ++ (readsOf b r ++ (copiesOf r ++ [.swap, .out, .twice])))
theorem offsOf_len (b : Int) : (offsOf b).length = (b - 1).toNat := by simp [offsOf]
theorem readsOf_len (b r : Int) : (readsOf b r).length = r.toNat * (b - 1).toNat := by
  unfold readsOf
  rw [List.length_flatMap]
  simp [List.map_const']
theorem copiesOf_len (r : Int) : (copiesOf r).length = r.toNat := by simp [copiesOf]
end SY
set_option Elab.async false
set_option linter.all false
set_option maxRecDepth 100000
set_option Elab.async false
set_option linter.all false
set_option maxRecDepth 100000
set_option Elab.async false
set_option linter.all false
set_option maxRecDepth 100000
set_option Elab.async false
set_option linter.all false
set_option maxRecDepth 100000
namespace SY
open PySem PySem.Spec L2 SX
abbrev FsQ := List (Str × Pr)
def FsP (G : Hp) : FsQ → List (Str × V) → Prop
  | [], [] => True
  | q :: fs, p :: vs => (p.1 = q.1 ∧ q.2.p G p.2) ∧ FsP G fs vs
  | _, _ => False
theorem FsP.mono {G G' : Hp} (e : Ex G G') : ∀ {fs : FsQ} {vs : List (Str × V)}, FsP G fs vs → FsP G' fs vs
  | [], [], _ => trivial
  | q :: _, _ :: _, h => ⟨⟨h.1.1, q.2.m _ _ _ e h.1.2⟩, FsP.mono e h.2⟩
  | [], _ :: _, h => h.elim
  | _ :: _, [], h => h.elim
theorem FsP.len {G : Hp} : ∀ {fs : FsQ} {vs : List (Str × V)}, FsP G fs vs → vs.length = fs.length
  | [], [], _ => rfl
  | _ :: _, _ :: _, h => by simp [FsP.len h.2]
  | [], _ :: _, h => h.elim
  | _ :: _, [], h => h.elim
theorem lookup_hd (f g : Str) (y : V) (fs : List (Str × V)) : ((f, y) :: fs).lookup g = if g = f then some y else fs.lookup g := by
  by_cases h : g = f
  · subst h
    simp [List.lookup]
  · have e : (g == f) = false := by simpa using h
    rw [if_neg h]
    simp [List.lookup, e]
def lookP (f : Str) : FsQ → Option Pr
  | [] => none
  | (g, P) :: r => if f = g then some P else lookP f r
theorem FsP.get {G : Hp} {f : Str} {P : Pr} : ∀ {fs : FsQ} {vs : List (Str × V)}, FsP G fs vs → lookP f fs = some P → ∃ v, vs.lookup f = some v ∧ P.p G v
  | [], [], _, h => by cases h
  | (g, Q) :: fs, (g', v) :: vs, h, hl => by
    obtain ⟨⟨h1, h2⟩, h3⟩ := h
    have h1 : g' = g := h1
    subst h1
    rw [lookup_hd]
    unfold lookP at hl
    by_cases e : f = g'
    · rw [if_pos e] at hl ⊢
      cases hl
      exact ⟨v, rfl, h2⟩
    · rw [if_neg e] at hl ⊢
      exact FsP.get h3 hl
  | [], _ :: _, h, _ => h.elim
  | _ :: _, [], h, _ => h.elim
def putP (f : Str) (P : Pr) : FsQ → FsQ
  | [] => [(f, P)]
  | (g, Q) :: r => if g = f then (g, P) :: r else (g, Q) :: putP f P r
theorem FsP.put {G : Hp} {f : Str} {P : Pr} {v : V} (hv : P.p G v) : ∀ {fs : FsQ} {vs : List (Str × V)}, FsP G fs vs → FsP G (putP f P fs) (putF f v vs)
  | [], [], _ => ⟨⟨rfl, hv⟩, trivial⟩
  | (g, Q) :: fs, (g', w) :: vs, h => by
    obtain ⟨⟨h1, h2⟩, h3⟩ := h
    have h1 : g' = g := h1
    subst h1
    unfold putP putF
    by_cases e : g' = f
    · rw [if_pos e, if_pos e]
      exact ⟨⟨rfl, hv⟩, h3⟩
    · rw [if_neg e, if_neg e]
      exact ⟨⟨rfl, h2⟩, FsP.put hv h3⟩
  | [], _ :: _, h => h.elim
  | _ :: _, [], h => h.elim
end SY
set_option Elab.async false
set_option linter.all false
set_option maxRecDepth 100000
namespace SY
open PySem PySem.Spec L2 SX
/-- data, or an owned list of data -/
def RD (K : PySem.W.Frag) (P : Pr) (μ : Mp) (d : PyData) : Prop := Imp P (D K d) ∨ ∃ ds, d = .list ds ∧ LR K P μ ds
section
variable {E : XK} {K : PySem.W.Frag} {C : Addr} {te ta tb tc tl : TE} {tt : TT} {tA : TA} {δ δ' : En} {μ μ' μ0 μ1 μ2 rest : Mp} {P Q P1 P2 : Pr} {d e : PyData} {ds es : List PyData} {k : Nat} {g : TG} {vs : List Nat}
theorem RD.dr (h : RD K P μ d) : DR K P μ d := by
  rcases h with h | ⟨es, rfl, h⟩
  · intro G v M F H p mm m
    exact dr_D G v M F H (h G v p) mm m
  · exact dr_L h
end
/-- a kind -/
structure GoodKd (b r : Int) (ds : List Deed) (m : Int) : Prop where
  b2 : 2 ≤ b
  b12 : b ≤ 12
  r1 : 1 ≤ r
  r4 : r ≤ 4
  pw : b ^ r.toNat ≤ 1000
  m1 : 1 ≤ m
  m3 : m ≤ 3
  n1 : 1 ≤ ds.length
  n8 : ds.length ≤ 8
  nd : ds.Nodup
  ok : ∀ x ∈ ds, x ∈ allDeeds b r
/-- in the order of a kind -/
def inOrder (b r : Int) (ds : List Deed) : List Deed := (allDeeds b r).filter fun x => decide (x ∈ ds)
end SY
namespace SY
open PySem PySem.Spec L2 SX
theorem allDeeds_len {b r : Int} (hb : 2 ≤ b ∧ b ≤ 12) (hr : 1 ≤ r ∧ r ≤ 4) : (allDeeds b r).length ≤ 70 := by
  have h1 : r.toNat * (b - 1).toNat ≤ 4 * 11 := Nat.mul_le_mul (by omega) (by omega)
  simp only [allDeeds, List.length_append, List.length_cons, List.length_nil, offsOf_len, readsOf_len, copiesOf_len]
  omega
end SY
set_option Elab.async false
set_option linter.all false
set_option maxRecDepth 100000
namespace SY
open PySem PySem.Spec L2 SX
/-- some of a list in drawn order: those drawn, those left, the deck -/
def someS (xs : List Deed) (Dk : Deck) : Nat → List Deed × List Deed × Deck
  | 0 => ([], xs, Dk)
  | n + 1 =>
    let t := someS xs Dk n
    (t.1 ++ [t.2.1.getD (dv t.2.2 t.2.1.length).toNat .right], t.2.1.eraseIdx (dv t.2.2 t.2.1.length).toNat, dn t.2.2 t.2.1.length)
theorem erase_perm {α : Type} : ∀ {l : List α} {k : Nat} (h : k < l.length), (l[k] :: l.eraseIdx k).Perm l
  | _ :: _, 0, _ => List.Perm.refl _
  | x :: l, k + 1, h => (List.Perm.swap x _ _).trans ((erase_perm (l := l) (k := k) (by simpa using h)).cons x)
theorem someS_ok {xs : List Deed} {Dk : Deck} : ∀ n, n ≤ xs.length → (someS xs Dk n).1.length = n ∧ (someS xs Dk n).2.1.length + n = xs.length ∧ ((someS xs Dk n).1 ++ (someS xs Dk n).2.1).Perm xs
  | 0, _ => ⟨rfl, rfl, List.Perm.refl _⟩
  | n + 1, h => by
    obtain ⟨h1, h2, h3⟩ := someS_ok (xs := xs) (Dk := Dk) n (by omega)
    unfold someS
    dsimp only
    generalize (someS xs Dk n).1 = s at h1 h3 ⊢
    generalize (someS xs Dk n).2.1 = l at h2 h3 ⊢
    generalize (someS xs Dk n).2.2 = D
    have hk0 : 0 ≤ dv D l.length := dv_lo (by omega)
    have hk1 : dv D l.length < l.length := dv_hi (by omega)
    have hk : (dv D l.length).toNat < l.length := by omega
    generalize (dv D l.length).toNat = k at hk
    refine ⟨by simp [h1], by rw [List.length_eraseIdx_of_lt hk]; omega, ?_⟩
    refine List.Perm.trans ?_ h3
    rw [List.append_assoc]
    refine List.Perm.append_left s ?_
    rw [List.getD_eq_getElem?_getD, List.getElem?_eq_getElem hk, Option.getD_some]
    exact erase_perm hk
end SY
namespace SY
open PySem PySem.Spec L2 SX
theorem allDeeds_lo {b r : Int} (hb : 2 ≤ b ∧ b ≤ 12) (hr : 1 ≤ r ∧ r ≤ 4) : 8 ≤ (allDeeds b r).length := by
  have h1 : 1 * 1 ≤ r.toNat * (b - 1).toNat := Nat.mul_le_mul (by omega) (by omega)
  simp only [allDeeds, List.length_append, List.length_cons, List.length_nil, offsOf_len, readsOf_len, copiesOf_len]
  omega
theorem in_offs {b : Int} {x : Deed} (h : x ∈ offsOf b) : ∃ d, x = .off d := by
  obtain ⟨d, _, rfl⟩ := List.mem_map.mp h
  exact ⟨_, rfl⟩
theorem in_reads {b r : Int} {x : Deed} (h : x ∈ readsOf b r) : ∃ j d, x = .read j d := by
  obtain ⟨j, _, h⟩ := List.mem_flatMap.mp h
  obtain ⟨d, _, rfl⟩ := List.mem_map.mp h
  exact ⟨_, _, rfl⟩
theorem in_copies {r : Int} {x : Deed} (h : x ∈ copiesOf r) : ∃ j, x = .copy j := by
  obtain ⟨d, _, rfl⟩ := List.mem_map.mp h
  exact ⟨_, rfl⟩
theorem offsOf_nodup (b : Int) : (offsOf b).Nodup := by
  unfold offsOf List.Nodup
  rw [List.pairwise_map, List.pairwise_map]
  exact List.Pairwise.imp (fun h => by intro e; injection e; omega) List.nodup_range
theorem readsOf_nodup (b r : Int) : (readsOf b r).Nodup := by
  unfold readsOf List.Nodup
  rw [List.pairwise_flatMap]
  refine ⟨fun j _ => ?_, ?_⟩
  · rw [List.pairwise_map, List.pairwise_map]
    exact List.Pairwise.imp (fun h => by intro e; injection e; omega) List.nodup_range
  · refine List.Pairwise.imp (fun h x hx y hy => ?_) List.nodup_range
    obtain ⟨_, _, rfl⟩ := List.mem_map.mp hx
    obtain ⟨_, _, rfl⟩ := List.mem_map.mp hy
    intro e
    injection e
    omega
theorem copiesOf_nodup (r : Int) : (copiesOf r).Nodup := by
  unfold copiesOf List.Nodup
  rw [List.pairwise_map]
  exact List.Pairwise.imp (fun h => by intro e; injection e; omega) List.nodup_range
theorem allDeeds_nodup (b r : Int) : (allDeeds b r).Nodup := by
  unfold allDeeds
  refine List.nodup_append.mpr ⟨by decide, List.nodup_append.mpr ⟨offsOf_nodup b, List.nodup_append.mpr ⟨readsOf_nodup b r, List.nodup_append.mpr ⟨copiesOf_nodup r, by decide, ?_⟩, ?_⟩, ?_⟩, ?_⟩
  · intro x hx y hy e
    obtain ⟨j, rfl⟩ := in_copies hx
    subst e
    simp at hy
  · intro x hx y hy e
    obtain ⟨j, d, rfl⟩ := in_reads hx
    subst e
    rcases List.mem_append.mp hy with h | h
    · obtain ⟨_, h⟩ := in_copies h
      cases h
    · simp at h
  · intro x hx y hy e
    obtain ⟨d, rfl⟩ := in_offs hx
    subst e
    rcases List.mem_append.mp hy with h | h
    · obtain ⟨_, _, h⟩ := in_reads h
      cases h
    · rcases List.mem_append.mp h with h | h
      · obtain ⟨_, h⟩ := in_copies h
        cases h
      · simp at h
  · intro x hx y hy e
    subst e
    rcases List.mem_append.mp hy with h | h
    · obtain ⟨_, rfl⟩ := in_offs h
      simp at hx
    · rcases List.mem_append.mp h with h | h
      · obtain ⟨_, _, rfl⟩ := in_reads h
        simp at hx
      · rcases List.mem_append.mp h with h | h
        · obtain ⟨_, rfl⟩ := in_copies h
          simp at hx
        · simp only [List.mem_cons, List.not_mem_nil, or_false] at hx h
          rcases hx with rfl | rfl <;> rcases h with h | h | h <;> cases h
end SY
namespace SY
open PySem PySem.Spec L2 SX
/-- a kind's deeds, out of a pool of at most eight, one of them in any case -/
structure InPool (b r : Int) (pool : List Deed) (x0 : Deed) (ds : List Deed) : Prop where
  sub : ∀ x ∈ ds, x ∈ pool
  has : x0 ∈ ds
  ord : inOrder b r ds = ds
structure GoodPool (b r : Int) (pool : List Deed) : Prop where
  b2 : 2 ≤ b
  b12 : b ≤ 12
  r1 : 1 ≤ r
  r4 : r ≤ 4
  pw : b ^ r.toNat ≤ 1000
  n8 : pool.length ≤ 8
  nd : pool.Nodup
  ok : ∀ x ∈ pool, x ∈ allDeeds b r
theorem sub_len {xs pool : List Deed} (hx : xs.Nodup) (hp : pool.Nodup) (h : ∀ x ∈ xs, x ∈ pool) : xs.length ≤ pool.length := by
  have : xs.Perm (pool.filter fun x => decide (x ∈ xs)) := (List.perm_ext_iff_of_nodup hx (hp.filter _)).mpr fun x => by
    rw [List.mem_filter, decide_eq_true_eq]
    exact ⟨fun z => ⟨h x z, z⟩, fun z => z.2⟩
  rw [this.length_eq]
  exact List.length_filter_le _ _
theorem GoodPool.kd {b r m : Int} {pool ds : List Deed} (g : GoodPool b r pool) (hm : 1 ≤ m ∧ m ≤ 3) (h1 : 1 ≤ ds.length) (hn : ds.Nodup) (hs : ∀ x ∈ ds, x ∈ pool) : GoodKd b r ds m :=
  ⟨g.b2, g.b12, g.r1, g.r4, g.pw, hm.1, hm.2, h1, Nat.le_trans (sub_len hn g.nd hs) g.n8, hn, fun x hx => g.ok x (hs x hx)⟩
theorem InPool.nd {b r : Int} {pool ds : List Deed} {x0 : Deed} (h : InPool b r pool x0 ds) : ds.Nodup := by
  rw [← h.ord]
  exact (allDeeds_nodup b r).filter _
theorem InPool.pos {b r : Int} {pool ds : List Deed} {x0 : Deed} (h : InPool b r pool x0 ds) : 1 ≤ ds.length := List.length_pos_of_mem h.has
theorem InPool.kd {b r m : Int} {pool ds : List Deed} {x0 : Deed} (h : InPool b r pool x0 ds) (g : GoodPool b r pool) (hm : 1 ≤ m ∧ m ≤ 3) : GoodKd b r ds m := g.kd hm h.pos h.nd h.sub
end SY
namespace SY
open PySem PySem.Spec L2 SX
structure PK (b r : Int) (pool : List Deed) (x0 : Deed) (ds : List Deed) (m : Int) : Prop where
  g : GoodPool b r pool
  i : InPool b r pool x0 ds
  m1 : 1 ≤ m
  m3 : m ≤ 3
section
variable {b r m m2 : Int} {pool ds es : List Deed} {x0 : Deed}
theorem PK.kd (h : PK b r pool x0 ds m) : GoodKd b r ds m := h.i.kd h.g ⟨h.m1, h.m3⟩
theorem PK.len (h : PK b r pool x0 ds m) : ds.length ≤ 1000 := Nat.le_trans h.kd.n8 (by decide)
theorem PK.sub (h : PK b r pool x0 ds m) {x : Deed} (hx : x ∈ ds) : x ∈ allDeeds b r := h.g.ok x (h.i.sub x hx)
end
end SY
set_option Elab.async false
set_option linter.all false
set_option maxRecDepth 100000
set_option Elab.async false
set_option linter.all false
set_option maxRecDepth 100000
namespace SY
open PySem PySem.Spec L2 SX
abbrev EXY := Value → Option Addr → Mp → Prop
def EXY.po (X : EXY) : Value → Option Addr → Hp → Mem → Prop := fun c d G M => ∃ μ, X c d μ ∧ Mm G M μ
/-- an expression that raises, surely -/
def ER (E : XK) (te : TE) (δ : En) (μ : Mp) (X : EXY) : Prop := ∀ σ G M, Sl G σ δ → Mm G M μ → EvR E te σ G M X.po
section
variable {E : XK} {K : PySem.W.Frag} {te ta tb : TE} {tA tr : TA} {δ δ' : En} {μ μ1 μ2 rest : Mp} {Q : Pr} {u : TS} {P : PY} {g : TG} {X : EXY} {c : Value}
theorem ER.imp {X' : EXY} (h : ER E te δ μ X) (i : ∀ c d μ, X c d μ → X' c d μ) : ER E te δ μ X' := fun σ G M s mm G1 H F e m1 x Q => h σ G M s mm G1 H F e m1 (fun c d G2 M2 H2 e2 m2 ⟨μ2, h2, h3⟩ => x c d G2 M2 H2 e2 m2 ⟨μ2, i c d μ2 h2, h3⟩) Q
end
end SY
set_option Elab.async false
set_option linter.all false
set_option maxRecDepth 100000
namespace SY
open PySem PySem.Spec L2 SX
/-- raises, surely; the wish is told at the slots -/
def ES (EE : L2.St → XK) (te : TE) (δ : En) (μ : Mp) (X : EXY) : Prop := ∀ σ G M, Sl G σ δ → Mm G M μ → EvR (EE σ) te σ G M X.po
section
variable {EE : L2.St → XK} {E : XK} {K : PySem.W.Frag} {te ta tb : TE} {tA tr : TA} {δ δ' : En} {μ μ1 μ2 rest : Mp} {Q P1 P2 : Pr} {u : TS} {P : PY} {g : TG} {X X' : EXY} {R : Pr → Mp → Prop} {k : Nat}
theorem ES.imp (h : ES EE te δ μ X) (i : ∀ c d μ, X c d μ → X' c d μ) : ES EE te δ μ X' := fun σ G M s mm G1 H F e m1 x Q => h σ G M s mm G1 H F e m1 (fun c d G2 M2 H2 e2 m2 ⟨μ2, h2, h3⟩ => x c d G2 M2 H2 e2 m2 ⟨μ2, i c d μ2 h2, h3⟩) Q
end
end SY
namespace SY
open PySem PySem.Spec L2 SX
/-- what some are drawn of -/
structure PoolOk (b r : Int) (pool : List Deed) : Prop where
  nd : pool.Nodup
  ok : ∀ x ∈ pool, x ∈ allDeeds b r
  n1 : 1 ≤ pool.length
  n70 : pool.length ≤ 70
theorem PoolOk.all {b r : Int} (hb : 2 ≤ b ∧ b ≤ 12) (hr : 1 ≤ r ∧ r ≤ 4) : PoolOk b r (allDeeds b r) := ⟨allDeeds_nodup b r, fun _ h => h, by have := allDeeds_lo hb hr; omega, allDeeds_len hb hr⟩
theorem PoolOk.some {b r : Int} {pool : List Deed} (g : PoolOk b r pool) {Dk : Deck} {n : Nat} (h1 : 1 ≤ n) (h : n ≤ pool.length) : PoolOk b r (someS pool Dk n).1 := by
  obtain ⟨h2, h3, h4⟩ := someS_ok (xs := pool) (Dk := Dk) n h
  have := g.n70
  exact ⟨(List.nodup_append.mp (h4.nodup_iff.mpr g.nd)).1, fun x hx => g.ok x (h4.mem_iff.mp (List.mem_append_left _ hx)), by omega, by omega⟩
theorem PoolOk.kd {b r m : Int} {pool : List Deed} (g : PoolOk b r pool) (hb : 2 ≤ b ∧ b ≤ 12) (hr : 1 ≤ r ∧ r ≤ 4) (hp : b ^ r.toNat ≤ 1000) (hm : 1 ≤ m ∧ m ≤ 3) (h8 : pool.length ≤ 8) : GoodKd b r pool m := ⟨hb.1, hb.2, hr.1, hr.2, hp, hm.1, hm.2, g.n1, h8, g.nd, g.ok⟩
end SY
set_option Elab.async false
set_option linter.all false
set_option maxRecDepth 100000
namespace SY
open PySem PySem.Spec L2 SX
section
variable {E : XK} {K : PySem.W.Frag} {te ta tb : TE} {tc tt : TT} {tA tr : TA} {δ δ' : En} {μ μ' μ1 μ2 rest : Mp} {Q P1 : Pr} {u t : TS} {P : PY} {Ps : List Pr} {ad : Addr} {i : Int}
/-- what is owned, told otherwise -/
def Mi (μ μ' : Mp) : Prop := ∀ G M, Mm G M μ → Mm G M μ'
theorem Mi.refl : Mi μ μ := fun _ _ h => h
theorem Mi.cons {a : Addr} {o o' : Ob} (h : ∀ G x, o.p G x → o'.p G x) (i : Mi μ μ') : Mi ((a, o) :: μ) ((a, o') :: μ') := fun G M m => by
  match M, m with
  | _ :: M, ⟨⟨h1, h2⟩, h3⟩ => exact ⟨⟨h1, h _ _ h2⟩, i G M h3⟩
theorem E1.mem (h : E1 te δ μ Q μ1) (i : Mi μ1 μ2) : E1 te δ μ Q μ2 := fun σ G M s m => (h σ G M s m).imp fun G1 v M1 _ r => ⟨r.1, i _ _ r.2⟩
end
end SY
namespace SY
open PySem PySem.Spec L2 SX
theorem Mm.perm {G : Hp} {μ' μ : Mp} (h : μ'.Perm μ) : ∀ {M : Mem}, Mm G M μ → ∃ M' : Mem, M'.Perm M ∧ Mm G M' μ' := by
  induction h with
  | nil => exact fun h => ⟨_, List.Perm.refl _, h⟩
  | cons x _ ih =>
    intro M h
    match M, h with
    | m :: M, ⟨h1, h2⟩ =>
      obtain ⟨M', h3, h4⟩ := ih h2
      exact ⟨m :: M', h3.cons m, h1, h4⟩
  | swap x y l =>
    intro M h
    match M, h with
    | a :: b :: M, ⟨h1, h2, h3⟩ => exact ⟨b :: a :: M, List.Perm.swap _ _ _, h2, h1, h3⟩
  | trans _ _ ih1 ih2 =>
    intro M h
    obtain ⟨M1, h1, h2⟩ := ih2 h
    obtain ⟨M2, h3, h4⟩ := ih1 h2
    exact ⟨M2, h3.trans h1, h4⟩
end SY
set_option Elab.async false
set_option linter.all false
set_option maxRecDepth 100000
namespace SY
open PySem PySem.Spec L2 SX
structure Stand where
  left : Int
  wait : Option Int
  before : Option (List Int)
  carry : Int
  gap : Int
  near : Option Int
  rests : List (Int × Int × Int)
def oiD : Option Int → PyData
  | none => .none
  | some i => .int i
/-- well made, for so wide gaps -/
structure WfS (b : Int) (cp lot : List Int) (N : Int) (s : Stand) : Prop where
  gap : -N ≤ s.gap ∧ s.gap ≤ N
  len : s.rests.length = lot.length
  carry : 0 ≤ s.carry ∧ s.carry ≤ 100
  wait : ∀ w, s.wait = some w → 0 ≤ w ∧ w < b
  bef : ∀ l, s.before = some l → l.length = cp.length ∧ ∀ x ∈ l, 0 ≤ x ∧ x < b
end SY
namespace SY
open PySem PySem.Spec L2 SX
structure ColOk (b r : Int) (c : List Int) : Prop where
  len : (c.length : Int) = r
  fig : ∀ x ∈ c, 0 ≤ x ∧ x < b
theorem WfS.mono {b : Int} {cp lot : List Int} {N N' : Int} {s : Stand} (h : WfS b cp lot N s) (hn : N ≤ N') : WfS b cp lot N' s := ⟨⟨by have := h.gap; omega, by have := h.gap; omega⟩, h.len, h.carry, h.wait, h.bef⟩
end SY
set_option Elab.async false
set_option linter.all false
set_option maxRecDepth 100000
set_option Elab.async false
set_option linter.all false
set_option maxRecDepth 100000
namespace SY
open PySem PySem.Spec L2 SX
/-- the law's own figures that are taken -/
def lawTaken (b : Int) (cs : List (List Int)) (i : Nat) : Deed → List Int
  | .read j d => (cs.getD i []).set j.toNat (((cs.getD i []).getD j.toNat 0 + d) % b)
  | .copy j => (cs.getD i []).set j.toNat ((cs.getD (i - 1) []).getD j.toNat 0)
  | _ => cs.getD i []
theorem _root_.SX.GoodSh.row {b r : Int} {cs : List (List Int)} (g : GoodSh b r cs) {n : Nat} (hn : n < cs.length) : GoodCol b r (cs.getD n []) := by
  have : cs.getD n [] = cs[n] := by simp [List.getD, List.getElem?_eq_getElem hn]
  rw [this]
  exact g.col _ (List.getElem_mem hn)
end SY
namespace SY
open PySem PySem.Spec L2 SX
theorem Le.trans {a b c : En} (h1 : Le a b) (h2 : Le b c) : Le a c := ⟨h1.1.trans h2.1, fun k P h => by
  obtain ⟨P1, h3, h4⟩ := h2.2 k P h
  obtain ⟨P0, h5, h6⟩ := h1.2 k P1 h3
  exact ⟨P0, h5, fun G v z => h4 G v (h6 G v z)⟩⟩
end SY
set_option Elab.async false
set_option linter.all false
set_option maxRecDepth 100000
set_option Elab.async false
set_option linter.all false
set_option maxRecDepth 100000
set_option Elab.async false
set_option linter.all false
set_option maxRecDepth 100000
namespace SY
open PySem PySem.Spec L2 SX
structure Wr where
  figs : List Int
  wait : Option Int
  carry : Int
def deedOn (sl : List (Int × Deed)) (a : Int) : Deed := ((sl.find? fun s => decide (s.1 = a)).map fun s => s.2).getD .right
def lawW1 (b f c : Int) (x : Deed) (W : Wr) : Wr :=
  match W.wait with
  | some w => ⟨W.figs ++ [f, w], none, c⟩
  | none => match x with
    | .swap => ⟨W.figs, some f, c⟩
    | .off d => ⟨W.figs ++ [(f + d) % b], none, c⟩
    | _ => ⟨W.figs ++ [f], none, c⟩
def lawW (b t : Int) (x : Deed) (W : Wr) : Wr :=
  match x with
  | .out => W
  | .twice => let W1 := lawW1 b ((t + W.carry) % b) ((t + W.carry) / b) x W; ⟨W1.figs ++ [(t + (t + W.carry) / b) % b], W1.wait, (t + (t + W.carry) / b) / b⟩
  | .forget => let W1 := lawW1 b ((t + W.carry) % b) ((t + W.carry) / b) x W; ⟨W1.figs, W1.wait, 0⟩
  | .again => let W1 := lawW1 b ((t + W.carry) % b) ((t + W.carry) / b) x W; ⟨W1.figs, W1.wait, (t + W.carry) / b + 1⟩
  | x => lawW1 b ((t + W.carry) % b) ((t + W.carry) / b) x W
def wrL (b : Int) (cs : List (List Int)) (sl : List (Int × Deed)) : Nat → Wr
  | 0 => ⟨[], none, 0⟩
  | n + 1 => lawW b (lawTaken b cs n (deedOn sl n)).sum (deedOn sl n) (wrL b cs sl n)
/-- the law's own word on a deed, behind these columns -/
def posW (b m : Int) (cs : List (List Int)) (sl : List (Int × Deed)) (c : List Int) (x : Deed) : Bool :=
  if ((!isNon (oiD (wrL b cs sl cs.length).wait)) || decide ((sl.length : Int) ≥ m)) = true then false
  else match x with
    | .copy _ => decide ((cs.length : Int) > 0)
    | .forget => decide (c.sum + (wrL b cs sl cs.length).carry ≥ b)
    | _ => true
end SY
set_option Elab.async false
set_option linter.all false
set_option maxRecDepth 100000
namespace SY
open PySem PySem.Spec L2 SX
section
variable {K : PySem.W.Frag} {te : TE} {δ : En} {μ μa μb : Mp} {P : Pr} {ds : List PyData} {ad : Addr}
/-- what is owned stays just as it is -/
def E1s (te : TE) (δ : En) (μ : Mp) (P : Pr) : Prop := ∀ σ G M, Sl G σ δ → Mm G M μ → Ev te σ G M (fun G' v M' => P.p G' v ∧ M' = M)
theorem E1s.e (h : E1s te δ μ P) : E1 te δ μ P μ := fun σ G M s m G1 H F e m1 Q q => h σ G M s m G1 H F e m1 Q fun v G2 M2 H2 e2 m2 r => by
  obtain ⟨r1, rfl⟩ := r
  exact q v G2 M2 H2 e2 m2 ⟨r1, m.mono (e.trans e2)⟩
theorem E1s.of (h : E1 te δ [] P []) : E1s te δ μ P := fun σ G M s m G1 H F e m1 Q q => h σ G [] s trivial G1 H (M ++ F) e m1 Q fun v G2 M2 H2 e2 m2 r => by
  obtain ⟨r1, r2⟩ := r
  have := r2.nil
  subst this
  exact q v G2 M H2 e2 m2 ⟨r1, rfl⟩
end
/-- columns and slips that were played -/
inductive Play (b r m : Int) (ds : List Deed) : List (List Int) → List (Int × Deed) → Prop
  | nil : Play b r m ds [] []
  | right {cs : List (List Int)} {sl : List (Int × Deed)} {c : List Int} : Play b r m ds cs sl → ColOk b r c → Play b r m ds (cs ++ [c]) sl
  | deed {cs : List (List Int)} {sl : List (Int × Deed)} {c : List Int} {x : Deed} : Play b r m ds cs sl → ColOk b r c → x ∈ ds → posW b m cs sl c x = true → Play b r m ds (cs ++ [c]) (sl ++ [((cs.length : Int), x)])
section
variable {b r m : Int} {cp lot : List Int} {ds : List Deed} {cs : List (List Int)} {c : List Int} {sl : List (Int × Deed)} {x : Deed}
theorem Play.pos (h : Play b r m ds cs sl) : ∀ s ∈ sl, 0 ≤ s.1 ∧ s.1 < cs.length ∧ s.2 ∈ ds := by
  induction h with
  | nil => intro s hs; cases hs
  | right _ _ ih =>
    intro s hs
    have := ih s hs
    exact ⟨this.1, by simp; omega, this.2.2⟩
  | deed _ _ hx _ ih =>
    intro s hs
    rcases List.mem_append.mp hs with hs | hs
    · have := ih s hs
      exact ⟨this.1, by simp; omega, this.2.2⟩
    · rw [List.mem_singleton.mp hs]
      exact ⟨by show (0 : Int) ≤ _; omega, by show ((_ : Nat) : Int) < _; simp; omega, hx⟩
theorem Play.lt (h : Play b r m ds cs sl) : ∀ s ∈ sl, s.1 < cs.length := fun s hs => (h.pos s hs).2.1
theorem Play.len (h : Play b r m ds cs sl) : sl.length ≤ cs.length := by
  induction h with
  | nil => exact Nat.le_refl _
  | right _ _ ih => simp; omega
  | deed _ _ _ _ ih => simp; omega
theorem Play.cols (h : Play b r m ds cs sl) : ∀ c ∈ cs, ColOk b r c := by
  induction h with
  | nil => intro s hs; cases hs
  | right _ hc ih => intro s hs; rcases List.mem_append.mp hs with hs | hs; exact ih s hs; rw [List.mem_singleton.mp hs]; exact hc
  | deed _ hc _ _ ih => intro s hs; rcases List.mem_append.mp hs with hs | hs; exact ih s hs; rw [List.mem_singleton.mp hs]; exact hc
theorem Play.sh (h : Play b r m ds cs sl) (hb : 2 ≤ b ∧ b ≤ 12) (hr : 1 ≤ r ∧ r ≤ 4) (hl : cs.length ≤ 10000) : GoodSh b r cs := ⟨hb.1, hb.2, hr.1, hr.2, hl, fun c hc => ⟨(h.cols c hc).len, (h.cols c hc).fig⟩⟩
theorem Play.take (h : Play b r m ds cs sl) (n : Nat) : Play b r m ds (cs.take n) (sl.filter fun s => decide (s.1 < (n : Int))) := by
  induction h with
  | nil => rw [List.take_nil]; exact .nil
  | @right cs sl c hp hc ih =>
    by_cases hn : n ≤ cs.length
    · rw [List.take_append_of_le_length hn]
      exact ih
    · rw [List.take_of_length_le (by simp; omega), List.filter_eq_self.mpr (fun s hs => by have := hp.lt s hs; simp; omega)]
      exact .right hp hc
  | @deed cs sl c x hp hc hx hpos ih =>
    by_cases hn : n ≤ cs.length
    · rw [List.take_append_of_le_length hn, List.filter_append, List.filter_cons_of_neg (by simp; omega), List.filter_nil, List.append_nil]
      exact ih
    · rw [List.take_of_length_le (by simp; omega), List.filter_eq_self.mpr (fun s hs => ?_)]
      · exact .deed hp hc hx hpos
      · rcases List.mem_append.mp hs with hs | hs
        · have := hp.lt s hs; simp; omega
        · rw [List.mem_singleton.mp hs]; simp; omega
end
end SY
set_option Elab.async false
set_option linter.all false
set_option maxRecDepth 100000
namespace SY
open PySem PySem.Spec L2 SX
section
variable {E : XK} {K : PySem.W.Frag} {te : TE} {tA : TA} {δ : En} {μ μ' μ1 μ2 : Mp} {Q : Pr} {P : PY} {g : TG} {u : TS} {R : Pr → Mp → Prop}
theorem E1.perm (h : E1 te δ μ Q μ1) (p : μ.Perm μ') (p1 : μ2.Perm μ1) : E1 te δ μ' Q μ2 := fun σ G M s mm G1 H F e m1 q z => by
  obtain ⟨M', h1, h2⟩ := Mm.perm p mm
  refine h σ G M' s h2 G1 H F e (m1.perm (h1.append_right F)) q fun v G2 M2 H2 e2 m2 r => ?_
  obtain ⟨M3, h3, h4⟩ := Mm.perm p1 r.2
  exact z v G2 M3 H2 e2 (m2.perm (h3.append_right F)) ⟨r.1, h4⟩
end
end SY
set_option Elab.async false
set_option linter.all false
set_option maxRecDepth 100000
set_option Elab.async false
set_option linter.all false
set_option maxRecDepth 100000
set_option Elab.async false
set_option linter.all false
set_option maxRecDepth 100000
set_option maxRecDepth 100000
set_option maxHeartbeats 4000000
namespace LW
open PySem L2 SX
local macro_rules | `(tactic| walk_at "ex") => `(tactic| first | exact Ex.refl _ | assumption | (refine Ex.trans ?_ (by assumption); walk_at "ex"))
local macro_rules | `(tactic| walk_at "dp") => `(tactic| first | assumption | exact ints_dpAll _ | (refine dm (by assumption) ?_; walk_at "ex") | (refine dma (by assumption) ?_; walk_at "ex"))
local macro_rules | `(tactic| walk_at "da") => `(tactic| first | assumption | (refine Da.of ?_; walk_at "dp") | (refine Da.ex (by assumption) ?_; walk_at "ex"))
local macro_rules | `(tactic| walk_at "at") => `(tactic| first | assumption | (refine At.ex (by assumption) ?_; walk_at "ex") | (refine AtL.ex (by assumption) ?_; walk_at "ex"))
local macro_rules | `(tactic| walk_at "sd") => `(tactic| first | assumption | rfl | decide | omega)
def topS (i : Nat) : Stmt := PySem.Challenge.pw_sumslips_k04_sheets_cut_and_joined.main.body.getD i (.Pass ⟨0, 0, 0, 0⟩)
abbrev s_is_whole : Stmt := topS 20
abbrev s_is_column : Stmt := topS 25
abbrev s__are_columns : Stmt := topS 26
abbrev s_is_base : Stmt := topS 21
abbrev s_is_rows : Stmt := topS 22
abbrev s_Sheet___init__ : Stmt := inClass (topS 27) 0
abbrev s_Sheet_base : Stmt := inClass (topS 27) 1
abbrev s_Sheet_rows : Stmt := inClass (topS 27) 2
abbrev s_check_alike : Stmt := topS 16
abbrev s_Sheet___add__ : Stmt := inClass (topS 27) 10
abbrev s_place_value : Stmt := topS 23
abbrev s_Sheet_value : Stmt := inClass (topS 27) 4
abbrev s__law_cells : Stmt := topS 30
abbrev s__law_draw : Stmt := topS 32
abbrev s__law_column : Stmt := topS 36
abbrev s__law_columns : Stmt := topS 37
abbrev s__law_deck : Stmt := topS 31
abbrev s_Sheet___setitem__ : Stmt := inClass (topS 27) 7
abbrev s_Sheet_columns : Stmt := inClass (topS 27) 3
abbrev s__law_is_integer : Stmt := topS 33
abbrev s__law_is_column : Stmt := topS 34
abbrev s__law_are_columns : Stmt := topS 35
abbrev s__law_right : Stmt := topS 39
abbrev s__law_own : Stmt := topS 40
abbrev s_Sheet___len__ : Stmt := inClass (topS 27) 5
abbrev s_Sheet_cut : Stmt := inClass (topS 27) 9
abbrev s__law_parts : Stmt := topS 41
abbrev s__law_power : Stmt := topS 29
abbrev s__law_joined : Stmt := topS 38
abbrev s__law_strange : Stmt := topS 42
abbrev s_law : Stmt := topS 43
theorem sc_is_whole : FnScope ["value", "low", "high"] ["value", "low", "high"] (defScope s_is_whole) := ⟨rfl, rfl, rfl, by decide +kernel, rfl, by decide +kernel, by decide +kernel⟩
theorem sc_is_column : FnScope ["base", "rows", "value", "figure"] ["base", "rows", "value"] (defScope s_is_column) := ⟨rfl, rfl, rfl, by decide +kernel, rfl, by decide +kernel, by decide +kernel⟩
theorem sc__are_columns : FnScope ["base", "rows", "value", "column"] ["base", "rows", "value"] (defScope s__are_columns) := ⟨rfl, rfl, rfl, by decide +kernel, rfl, by decide +kernel, by decide +kernel⟩
theorem sc_is_base : FnScope ["value"] ["value"] (defScope s_is_base) := ⟨rfl, rfl, rfl, by decide +kernel, rfl, by decide +kernel, by decide +kernel⟩
theorem sc_is_rows : FnScope ["value"] ["value"] (defScope s_is_rows) := ⟨rfl, rfl, rfl, by decide +kernel, rfl, by decide +kernel, by decide +kernel⟩
theorem sc_Sheet___init__ : FnScope ["self", "base", "rows", "columns", "column"] ["self", "base", "rows", "columns"] (defScope s_Sheet___init__) := ⟨rfl, rfl, rfl, by decide +kernel, rfl, by decide +kernel, by decide +kernel⟩
theorem sc_Sheet_base : FnScope ["self"] ["self"] (defScope s_Sheet_base) := ⟨rfl, rfl, rfl, by decide +kernel, rfl, by decide +kernel, by decide +kernel⟩
theorem sc_Sheet_rows : FnScope ["self"] ["self"] (defScope s_Sheet_rows) := ⟨rfl, rfl, rfl, by decide +kernel, rfl, by decide +kernel, by decide +kernel⟩
theorem sc_check_alike : FnScope ["one", "other"] ["one", "other"] (defScope s_check_alike) := ⟨rfl, rfl, rfl, by decide +kernel, rfl, by decide +kernel, by decide +kernel⟩
theorem sc_Sheet___add__ : FnScope ["self", "other"] ["self", "other"] (defScope s_Sheet___add__) := ⟨rfl, rfl, rfl, by decide +kernel, rfl, by decide +kernel, by decide +kernel⟩
theorem sc_place_value : FnScope ["base", "figures", "last", "value", "figure"] ["base", "figures", "last"] (defScope s_place_value) := ⟨rfl, rfl, rfl, by decide +kernel, rfl, by decide +kernel, by decide +kernel⟩
theorem sc_Sheet_value : FnScope ["self", "column"] ["self"] (defScope s_Sheet_value) := ⟨rfl, rfl, rfl, by decide +kernel, rfl, by decide +kernel, by decide +kernel⟩
theorem sc__law_cells : FnScope ["script"] ["script"] (defScope s__law_cells) := ⟨rfl, rfl, rfl, by decide +kernel, rfl, by decide +kernel, by decide +kernel⟩
theorem sc__law_draw : FnScope ["deck", "many", "stir", "drawn"] ["deck", "many"] (defScope s__law_draw) := ⟨rfl, rfl, rfl, by decide +kernel, rfl, by decide +kernel, by decide +kernel⟩
theorem sc__law_column : FnScope ["deck", "base", "rows", "way", "figures", "j"] ["deck", "base", "rows"] (defScope s__law_column) := ⟨rfl, rfl, rfl, by decide +kernel, rfl, by decide +kernel, by decide +kernel⟩
theorem sc__law_columns : FnScope ["deck", "base", "rows", "most", "many", "i"] ["deck", "base", "rows", "most"] (defScope s__law_columns) := ⟨rfl, rfl, rfl, by decide +kernel, rfl, by decide +kernel, by decide +kernel⟩
theorem sc__law_deck : FnScope ["cell"] ["cell"] (defScope s__law_deck) := ⟨rfl, rfl, rfl, by decide +kernel, rfl, by decide +kernel, by decide +kernel⟩
theorem sc_Sheet___setitem__ : FnScope ["self", "at", "worth"] ["self", "at", "worth"] (defScope s_Sheet___setitem__) := ⟨rfl, rfl, rfl, by decide +kernel, rfl, by decide +kernel, by decide +kernel⟩
theorem sc_Sheet_columns : FnScope ["self"] ["self"] (defScope s_Sheet_columns) := ⟨rfl, rfl, rfl, by decide +kernel, rfl, by decide +kernel, by decide +kernel⟩
theorem sc__law_is_integer : FnScope ["found"] ["found"] (defScope s__law_is_integer) := ⟨rfl, rfl, rfl, by decide +kernel, rfl, by decide +kernel, by decide +kernel⟩
theorem sc__law_is_column : FnScope ["found", "due", "figure"] ["found", "due"] (defScope s__law_is_column) := ⟨rfl, rfl, rfl, by decide +kernel, rfl, by decide +kernel, by decide +kernel⟩
theorem sc__law_are_columns : FnScope ["found", "due", "i"] ["found", "due"] (defScope s__law_are_columns) := ⟨rfl, rfl, rfl, by decide +kernel, rfl, by decide +kernel, by decide +kernel⟩
theorem sc__law_right : FnScope ["sheet", "base", "rows", "columns"] ["sheet", "base", "rows", "columns"] (defScope s__law_right) := ⟨rfl, rfl, rfl, by decide +kernel, rfl, by decide +kernel, by decide +kernel⟩
theorem sc__law_own : FnScope ["sheet", "base", "rows", "columns", "others", "other", "due", "figure", "j"] ["sheet", "base", "rows", "columns", "others"] (defScope s__law_own) := ⟨rfl, rfl, rfl, by decide +kernel, rfl, by decide +kernel, by decide +kernel⟩
theorem sc_Sheet___len__ : FnScope ["self"] ["self"] (defScope s_Sheet___len__) := ⟨rfl, rfl, rfl, by decide +kernel, rfl, by decide +kernel, by decide +kernel⟩
theorem sc_Sheet_cut : FnScope ["self", "low", "high"] ["self", "low", "high"] (defScope s_Sheet_cut) := ⟨rfl, rfl, rfl, by decide +kernel, rfl, by decide +kernel, by decide +kernel⟩
theorem sc__law_parts : FnScope ["deck", "one", "first", "base", "rows", "low", "high", "part", "again"] ["deck", "one", "first", "base", "rows"] (defScope s__law_parts) := ⟨rfl, rfl, rfl, by decide +kernel, rfl, by decide +kernel, by decide +kernel⟩
theorem sc__law_power : FnScope ["base", "many", "scale", "k"] ["base", "many"] (defScope s__law_power) := ⟨rfl, rfl, rfl, by decide +kernel, rfl, by decide +kernel, by decide +kernel⟩
theorem sc__law_joined : FnScope ["one", "other", "told", "e", "odd"] ["one", "other"] (defScope s__law_joined) := ⟨rfl, rfl, rfl, by decide +kernel, rfl, by decide +kernel, by decide +kernel⟩
theorem sc__law_strange : FnScope ["deck", "one", "first", "base", "rows", "way", "other_base", "other_rows", "columns", "third", "i", "j"] ["deck", "one", "first", "base", "rows"] (defScope s__law_strange) := ⟨rfl, rfl, rfl, by decide +kernel, rfl, by decide +kernel, by decide +kernel⟩
theorem sc_law : FnScope ["script", "cell", "deck", "base", "rows", "first", "second", "one", "other", "joined", "turned", "others"] ["script"] (defScope s_law) := ⟨rfl, rfl, rfl, by decide +kernel, rfl, by decide +kernel, by decide +kernel⟩
structure Txt (K : PySem.W.Frag) (mg : Str → Option Value) where
  c_Sheet : Addr
  m_Sheet : mg "Sheet" = some (.ref c_Sheet)
  c_SlipError : Addr
  m_SlipError : mg "SlipError" = some (.ref c_SlipError)
  c_InvalidSheet : Addr
  m_InvalidSheet : mg "InvalidSheet" = some (.ref c_InvalidSheet)
  c_InvalidColumn : Addr
  m_InvalidColumn : mg "InvalidColumn" = some (.ref c_InvalidColumn)
  c_InvalidKind : Addr
  m_InvalidKind : mg "InvalidKind" = some (.ref c_InvalidKind)
  c_InvalidLot : Addr
  m_InvalidLot : mg "InvalidLot" = some (.ref c_InvalidLot)
  c_NotAlike : Addr
  m_NotAlike : mg "NotAlike" = some (.ref c_NotAlike)
  c_NotPossible : Addr
  m_NotPossible : mg "NotPossible" = some (.ref c_NotPossible)
  c_TooMany : Addr
  m_TooMany : mg "TooMany" = some (.ref c_TooMany)
  c_Waits : Addr
  m_Waits : mg "Waits" = some (.ref c_Waits)
  c_InvalidText : Addr
  m_InvalidText : mg "InvalidText" = some (.ref c_InvalidText)
  c_InvalidCommand : Addr
  m_InvalidCommand : mg "InvalidCommand" = some (.ref c_InvalidCommand)
  c_NothingToUndo : Addr
  m_NothingToUndo : mg "NothingToUndo" = some (.ref c_NothingToUndo)
  c_NotReady : Addr
  m_NotReady : mg "NotReady" = some (.ref c_NotReady)
  c_InvalidSlips : Addr
  m_InvalidSlips : mg "InvalidSlips" = some (.ref c_InvalidSlips)
  a_is_whole : Addr
  fd_is_whole : FuncData
  F_is_whole : Fun K "is_whole" "is_whole" s_is_whole a_is_whole fd_is_whole
  b_is_whole : Binds K fd_is_whole ["value", "low", "high"] []
  m_is_whole : mg "is_whole" = some (.ref a_is_whole)
  a_is_column : Addr
  fd_is_column : FuncData
  F_is_column : Fun K "is_column" "is_column" s_is_column a_is_column fd_is_column
  b_is_column : Binds K fd_is_column ["base", "rows", "value"] []
  m_is_column : mg "is_column" = some (.ref a_is_column)
  a__are_columns : Addr
  fd__are_columns : FuncData
  F__are_columns : Fun K "_are_columns" "_are_columns" s__are_columns a__are_columns fd__are_columns
  b__are_columns : Binds K fd__are_columns ["base", "rows", "value"] []
  m__are_columns : mg "_are_columns" = some (.ref a__are_columns)
  a_is_base : Addr
  fd_is_base : FuncData
  F_is_base : Fun K "is_base" "is_base" s_is_base a_is_base fd_is_base
  b_is_base : Binds K fd_is_base ["value"] []
  m_is_base : mg "is_base" = some (.ref a_is_base)
  a_is_rows : Addr
  fd_is_rows : FuncData
  F_is_rows : Fun K "is_rows" "is_rows" s_is_rows a_is_rows fd_is_rows
  b_is_rows : Binds K fd_is_rows ["value"] []
  m_is_rows : mg "is_rows" = some (.ref a_is_rows)
  a_Sheet___init__ : Addr
  fd_Sheet___init__ : FuncData
  F_Sheet___init__ : Fun K "__init__" "Sheet.__init__" s_Sheet___init__ a_Sheet___init__ fd_Sheet___init__
  b_Sheet___init__ : Binds K fd_Sheet___init__ ["self", "base", "rows", "columns"] []
  me_Sheet___init__ : Meth K c_Sheet "__init__" a_Sheet___init__
  a_Sheet_base : Addr
  fd_Sheet_base : FuncData
  F_Sheet_base : Fun K "base" "Sheet.base" s_Sheet_base a_Sheet_base fd_Sheet_base
  b_Sheet_base : Binds K fd_Sheet_base ["self"] []
  pa_Sheet_base : Addr
  p_Sheet_base : PropOf K c_Sheet "base" pa_Sheet_base a_Sheet_base
  a_Sheet_rows : Addr
  fd_Sheet_rows : FuncData
  F_Sheet_rows : Fun K "rows" "Sheet.rows" s_Sheet_rows a_Sheet_rows fd_Sheet_rows
  b_Sheet_rows : Binds K fd_Sheet_rows ["self"] []
  pa_Sheet_rows : Addr
  p_Sheet_rows : PropOf K c_Sheet "rows" pa_Sheet_rows a_Sheet_rows
  a_check_alike : Addr
  fd_check_alike : FuncData
  F_check_alike : Fun K "check_alike" "check_alike" s_check_alike a_check_alike fd_check_alike
  b_check_alike : Binds K fd_check_alike ["one", "other"] []
  m_check_alike : mg "check_alike" = some (.ref a_check_alike)
  a_Sheet___add__ : Addr
  fd_Sheet___add__ : FuncData
  F_Sheet___add__ : Fun K "__add__" "Sheet.__add__" s_Sheet___add__ a_Sheet___add__ fd_Sheet___add__
  b_Sheet___add__ : Binds K fd_Sheet___add__ ["self", "other"] []
  me_Sheet___add__ : Meth K c_Sheet "__add__" a_Sheet___add__
  a_place_value : Addr
  fd_place_value : FuncData
  F_place_value : Fun K "place_value" "place_value" s_place_value a_place_value fd_place_value
  b_place_value : Binds K fd_place_value ["base", "figures", "last"] []
  m_place_value : mg "place_value" = some (.ref a_place_value)
  a_Sheet_value : Addr
  fd_Sheet_value : FuncData
  F_Sheet_value : Fun K "value" "Sheet.value" s_Sheet_value a_Sheet_value fd_Sheet_value
  b_Sheet_value : Binds K fd_Sheet_value ["self"] []
  pa_Sheet_value : Addr
  p_Sheet_value : PropOf K c_Sheet "value" pa_Sheet_value a_Sheet_value
  a__law_cells : Addr
  fd__law_cells : FuncData
  F__law_cells : Fun K "_law_cells" "_law_cells" s__law_cells a__law_cells fd__law_cells
  b__law_cells : Binds K fd__law_cells ["script"] []
  m__law_cells : mg "_law_cells" = some (.ref a__law_cells)
  a__law_draw : Addr
  fd__law_draw : FuncData
  F__law_draw : Fun K "_law_draw" "_law_draw" s__law_draw a__law_draw fd__law_draw
  b__law_draw : Binds K fd__law_draw ["deck", "many"] []
  m__law_draw : mg "_law_draw" = some (.ref a__law_draw)
  a__law_column : Addr
  fd__law_column : FuncData
  F__law_column : Fun K "_law_column" "_law_column" s__law_column a__law_column fd__law_column
  b__law_column : Binds K fd__law_column ["deck", "base", "rows"] []
  m__law_column : mg "_law_column" = some (.ref a__law_column)
  a__law_columns : Addr
  fd__law_columns : FuncData
  F__law_columns : Fun K "_law_columns" "_law_columns" s__law_columns a__law_columns fd__law_columns
  b__law_columns : Binds K fd__law_columns ["deck", "base", "rows", "most"] []
  m__law_columns : mg "_law_columns" = some (.ref a__law_columns)
  a__law_deck : Addr
  fd__law_deck : FuncData
  F__law_deck : Fun K "_law_deck" "_law_deck" s__law_deck a__law_deck fd__law_deck
  b__law_deck : Binds K fd__law_deck ["cell"] []
  m__law_deck : mg "_law_deck" = some (.ref a__law_deck)
  a_Sheet___setitem__ : Addr
  fd_Sheet___setitem__ : FuncData
  F_Sheet___setitem__ : Fun K "__setitem__" "Sheet.__setitem__" s_Sheet___setitem__ a_Sheet___setitem__ fd_Sheet___setitem__
  b_Sheet___setitem__ : Binds K fd_Sheet___setitem__ ["self", "at", "worth"] []
  me_Sheet___setitem__ : Meth K c_Sheet "__setitem__" a_Sheet___setitem__
  a_Sheet_columns : Addr
  fd_Sheet_columns : FuncData
  F_Sheet_columns : Fun K "columns" "Sheet.columns" s_Sheet_columns a_Sheet_columns fd_Sheet_columns
  b_Sheet_columns : Binds K fd_Sheet_columns ["self"] []
  pa_Sheet_columns : Addr
  p_Sheet_columns : PropOf K c_Sheet "columns" pa_Sheet_columns a_Sheet_columns
  a__law_is_integer : Addr
  fd__law_is_integer : FuncData
  F__law_is_integer : Fun K "_law_is_integer" "_law_is_integer" s__law_is_integer a__law_is_integer fd__law_is_integer
  b__law_is_integer : Binds K fd__law_is_integer ["found"] []
  m__law_is_integer : mg "_law_is_integer" = some (.ref a__law_is_integer)
  a__law_is_column : Addr
  fd__law_is_column : FuncData
  F__law_is_column : Fun K "_law_is_column" "_law_is_column" s__law_is_column a__law_is_column fd__law_is_column
  b__law_is_column : Binds K fd__law_is_column ["found", "due"] []
  m__law_is_column : mg "_law_is_column" = some (.ref a__law_is_column)
  a__law_are_columns : Addr
  fd__law_are_columns : FuncData
  F__law_are_columns : Fun K "_law_are_columns" "_law_are_columns" s__law_are_columns a__law_are_columns fd__law_are_columns
  b__law_are_columns : Binds K fd__law_are_columns ["found", "due"] []
  m__law_are_columns : mg "_law_are_columns" = some (.ref a__law_are_columns)
  a__law_right : Addr
  fd__law_right : FuncData
  F__law_right : Fun K "_law_right" "_law_right" s__law_right a__law_right fd__law_right
  b__law_right : Binds K fd__law_right ["sheet", "base", "rows", "columns"] []
  m__law_right : mg "_law_right" = some (.ref a__law_right)
  a__law_own : Addr
  fd__law_own : FuncData
  F__law_own : Fun K "_law_own" "_law_own" s__law_own a__law_own fd__law_own
  b__law_own : Binds K fd__law_own ["sheet", "base", "rows", "columns", "others"] []
  m__law_own : mg "_law_own" = some (.ref a__law_own)
  a_Sheet___len__ : Addr
  fd_Sheet___len__ : FuncData
  F_Sheet___len__ : Fun K "__len__" "Sheet.__len__" s_Sheet___len__ a_Sheet___len__ fd_Sheet___len__
  b_Sheet___len__ : Binds K fd_Sheet___len__ ["self"] []
  me_Sheet___len__ : Meth K c_Sheet "__len__" a_Sheet___len__
  a_Sheet_cut : Addr
  fd_Sheet_cut : FuncData
  F_Sheet_cut : Fun K "cut" "Sheet.cut" s_Sheet_cut a_Sheet_cut fd_Sheet_cut
  b_Sheet_cut : Binds K fd_Sheet_cut ["self", "low", "high"] []
  me_Sheet_cut : Meth K c_Sheet "cut" a_Sheet_cut
  a__law_parts : Addr
  fd__law_parts : FuncData
  F__law_parts : Fun K "_law_parts" "_law_parts" s__law_parts a__law_parts fd__law_parts
  b__law_parts : Binds K fd__law_parts ["deck", "one", "first", "base", "rows"] []
  m__law_parts : mg "_law_parts" = some (.ref a__law_parts)
  a__law_power : Addr
  fd__law_power : FuncData
  F__law_power : Fun K "_law_power" "_law_power" s__law_power a__law_power fd__law_power
  b__law_power : Binds K fd__law_power ["base", "many"] []
  m__law_power : mg "_law_power" = some (.ref a__law_power)
  a__law_joined : Addr
  fd__law_joined : FuncData
  F__law_joined : Fun K "_law_joined" "_law_joined" s__law_joined a__law_joined fd__law_joined
  b__law_joined : Binds K fd__law_joined ["one", "other"] []
  m__law_joined : mg "_law_joined" = some (.ref a__law_joined)
  a__law_strange : Addr
  fd__law_strange : FuncData
  F__law_strange : Fun K "_law_strange" "_law_strange" s__law_strange a__law_strange fd__law_strange
  b__law_strange : Binds K fd__law_strange ["deck", "one", "first", "base", "rows"] []
  m__law_strange : mg "_law_strange" = some (.ref a__law_strange)
  a_law : Addr
  fd_law : FuncData
  F_law : Fun K "law" "law" s_law a_law fd_law
  b_law : Binds K fd_law ["script"] []
  m_law : mg "law" = some (.ref a_law)
  cl_Sheet : Cls K c_Sheet
  k_Sheet : Mk K c_Sheet a_Sheet___init__
  na_Sheet__base : NoAttr K c_Sheet "_base"
  na_Sheet__columns : NoAttr K c_Sheet "_columns"
  na_Sheet__rows : NoAttr K c_Sheet "_rows"
  ns_Sheet : PySem.W.noSeq K c_Sheet = true
  sf_Sheet : PySem.W.selfFirst K c_Sheet = true
  ic_Sheet : IsCls K c_Sheet
  io_Sheet : PySem.W.kitOne K (.ref c_Sheet) (.ref c_Sheet) = some true
  x_InvalidColumn : PySem.W.excIn K c_InvalidColumn [.type "ValueError", .type "Exception", .type "BaseException", .type "object"] "ValueError.__new__" = true
  xk_InvalidColumn : PySem.W.keepIn K (.ref c_InvalidColumn) = true
  xb_InvalidColumn : PySem.W.subIn K (.ref c_InvalidColumn) (.type "BaseException") = some true
  xt_InvalidColumn : PySem.W.typeIn K (.ref c_InvalidColumn) = some (.type "type")
  x_InvalidSheet : PySem.W.excIn K c_InvalidSheet [.type "ValueError", .type "Exception", .type "BaseException", .type "object"] "ValueError.__new__" = true
  xk_InvalidSheet : PySem.W.keepIn K (.ref c_InvalidSheet) = true
  xb_InvalidSheet : PySem.W.subIn K (.ref c_InvalidSheet) (.type "BaseException") = some true
  xt_InvalidSheet : PySem.W.typeIn K (.ref c_InvalidSheet) = some (.type "type")
  x_NotAlike : PySem.W.excIn K c_NotAlike [.type "ValueError", .type "Exception", .type "BaseException", .type "object"] "ValueError.__new__" = true
  xk_NotAlike : PySem.W.keepIn K (.ref c_NotAlike) = true
  xb_NotAlike : PySem.W.subIn K (.ref c_NotAlike) (.type "BaseException") = some true
  xt_NotAlike : PySem.W.typeIn K (.ref c_NotAlike) = some (.type "type")
  e_NotAlike : ExcC K c_NotAlike
  em_NotAlike_SlipError : PySem.W.exmOne K (.ref c_NotAlike) (.ref c_SlipError) = some true
  q_NotAlike_NotAlike : PySem.W.kitOne K (.ref c_NotAlike) (.ref c_NotAlike) = some true
  q_NotAlike_ValueError : PySem.W.kitOne K (.ref c_NotAlike) (.type "ValueError") = some true
  qa_NotAlike_1 : PySem.W.kitAny K (.ref c_NotAlike) [.ref c_InvalidSheet, .ref c_InvalidCommand, .ref c_InvalidKind, .ref c_InvalidLot, .ref c_InvalidSlips, .ref c_InvalidText] = some false
  qa_NotAlike_2 : PySem.W.kitAny K (.ref c_NotAlike) [.ref c_InvalidColumn, .ref c_NotPossible, .ref c_NotReady, .ref c_NothingToUndo, .ref c_TooMany, .ref c_Waits] = some false
  n_ValueError : mg "ValueError" = none
  n_all : mg "all" = none
  n_bool : mg "bool" = none
  n_int : mg "int" = none
  n_isinstance : mg "isinstance" = none
  n_len : mg "len" = none
  n_list : mg "list" = none
  n_range : mg "range" = none
  n_sum : mg "sum" = none
  n_tuple : mg "tuple" = none
  tk_MOST_BASE : Tok
  m_MOST_BASE : mg "MOST_BASE" = some (.int 12 tk_MOST_BASE)
  tk_MOST_ROWS : Tok
  m_MOST_ROWS : mg "MOST_ROWS" = some (.int 4 tk_MOST_ROWS)
section
variable {P : Program} {w : World} {K : PySem.W.Frag} {mg : Str → Option Value} {base : Heap}
theorem ok_is_whole (T : Txt K mg) : FnOk P w K mg base CX0 1 T.a_is_whole T.fd_is_whole ["value", "low", "high"] (spec (wholePre K) wholePost) := by
  refine fn_sv T.F_is_whole sc_is_whole (fun x G M vs h => by obtain ⟨v, rfl, _⟩ := h; rfl) fun cdv A outer s H E hr => ⟨_, (pss_one (ps_ret (pe_and (pe_callB (k_isi (K := K) rfl) (by rfl) T.n_isinstance (by decide +kernel) (pa_cons (pv 0) (pa_cons (pe_bltn (v := .ty "int") (by rfl) T.n_int (by decide +kernel) rfl) pa_nil))) (pe_and (pe_not (pe_callB (k_isi (K := K) rfl) (by rfl) T.n_isinstance (by decide +kernel) (pa_cons (pv 0) (pa_cons (pe_bltn (v := .ty "bool") (by rfl) T.n_bool (by decide +kernel) rfl) pa_nil)))) (pe_one (pe_chain op_le op_le (pv 1) (pv 0) (pv 2))))))), ?_⟩
  rintro ⟨d, lo, hi⟩ G M vs ⟨v, rfl, (dv : Dp K G v d)⟩
  refine sv_ret (ev_andV (ev_isi (.inl rfl) (ev_varP rfl dv)) fun h1 => ev_andV (b := decide (lo ≤ intOf d) && decide (intOf d ≤ hi)) (ev_notV (ev_isi (.inr (.inl rfl)) (ev_varP rfl dv))) fun h2 => ?_) fun v' G' M' e r => ?_
  · have hd := isInt_of h1 (by simpa using h2)
    refine ev_chainI (i := lo) (j := intOf d) (k := hi) (P := fun i j => decide (i ≤ j)) (P' := fun i j => decide (i ≤ j)) (ev_var rfl) (ev_dI (K := K) (ev_varP rfl (by rw [hd] at dv; exact dv))) (ev_var rfl) (fun _ _ q => ⟨_, _, rfl, rfl, q⟩) (fun _ _ q => ⟨_, _, rfl, rfl, q⟩)
  · obtain ⟨rfl, rfl⟩ := r
    refine ⟨?_, rfl⟩
    show V.bl (isTy d "int" && (!isTy d "bool" && _)) = V.bl (isInt d && _)
    rw [← isInt_ty, Bool.and_assoc]
theorem ok_is_column (T : Txt K mg) : FnOk P w K mg base CX0 2 T.a_is_column T.fd_is_column ["base", "rows", "value"] (spec (colPre K) (colPost isCol)) := by
  refine fn_sv T.F_is_column sc_is_column (fun x G M vs h => by obtain ⟨v, rfl, _⟩ := h; rfl) fun cdv A outer s H E hr => ⟨_, (pss_cons (ps_if (PW.pt (pw_or (pt_not (pt_val (pe_callB (k_isi (K := K) rfl) (by rfl) T.n_isinstance (by decide +kernel) (pa_cons (pv 2) (pa_cons (pe_bltn (v := .ty "tuple") (by rfl) T.n_tuple (by decide +kernel) rfl) pa_nil))))) (pw_or1 (pt_cmpR op_ne (pe_callB (k_len (K := K) rfl) (by rfl) T.n_len (by decide +kernel) (pa_cons (pv 2) pa_nil)) (pv 1) (nomark _))))) (pss_one (ps_ret (pe_bl))) (pss_nil)) (pss_one (ps_ret (pe_callB (k_all (K := K) rfl rfl) (by rfl) T.n_all (by decide +kernel) (pa_cons (pe_lc (own := [("figure", 3)]) (g := gName 3) (tt := tYes) rfl sc_is_column.nd (pi_tup (pv 2)) (blkOk_by (N := ["base", "rows", "value", "figure"]) (sc := defScope s_is_column) (by decide +kernel)) (fun _ _ _ _ _ => pg_name (i := 3) sc_is_column.nd rfl (Or.inl rfl)) (fun _ _ _ _ _ => pts_nil) (fun _ _ _ _ _ => pe_call (ok_is_whole T) (hr.mono (by decide)) (by rfl) T.m_is_whole T.F_is_whole.kp T.b_is_whole .nil pass0 (pa_cons (pv 3) (pa_cons (pe_int) (pa_cons (pe_op op_sub (pv 0) (pe_int)) pa_nil))))) pa_nil))))), ?_⟩
  rintro ⟨b, r, d⟩ G M vs ⟨v, rfl, (dv : Dp K G v d), (hz : dlen d ≤ 100000)⟩
  refine sv_ifs (et_or (b := !decide ((dlen d : Int) = r)) (et_not (et_B (ev_isi (.inr (.inr (.inl rfl))) (ev_varP rfl dv)))) ?_) ?_ ?_
  · intro h
    obtain ⟨ds, rfl⟩ := tup_of (by simpa using h)
    exact et_test (ev_neI (ev_lenT (K := K) (ev_varP rfl dv)) (ev_var rfl))
  · intro G1 e1 hb
    refine sv_ret ev_c fun v' G' M' e r => ?_
    obtain ⟨rfl, rfl⟩ := r
    refine ⟨?_, rfl⟩
    show V.bl false = V.bl (isCol b r d)
    cases d with
    | tuple ds =>
      rw [isTy_tup] at hb
      have : ¬ ((ds.length : Int) = r) := fun z => by simp [dlen, z] at hb
      simp [isCol, this]
    | _ => rfl
  · intro G1 e1 hb
    refine sv_next fun G2 e2 => ?_
    have hb' : isTy d "tuple" = true ∧ (dlen d : Int) = r := by simpa using hb
    obtain ⟨ds, rfl⟩ := tup_of hb'.1
    have hl : (ds.length : Int) = r := hb'.2
    have e12 := e1.trans e2
    refine sv_ret (ev_allT (K := K) (f := fun d => isWhole d 0 (b - 1)) (ev_varP rfl (dm dv e12)) hz (fun i d x G' hd e dx => ?_) (fun _ => rfl)) fun v' G' M' e r' => ?_
    · exact ev_whole (ea_cons (ev_varP rfl dx) (ea_cons ev_c (ea_cons (ev_I0 (ev_var rfl) ev_c) ea_nil)))
    · obtain ⟨rfl, rfl⟩ := r'
      refine ⟨?_, rfl⟩
      show V.bl _ = V.bl (isCol b r (.tuple ds))
      simp [isCol, hl]
theorem ok__are_columns (T : Txt K mg) : FnOk P w K mg base CX0 3 T.a__are_columns T.fd__are_columns ["base", "rows", "value"] (spec (colsPre K) (colPost areCols)) := by
  refine fn_sv T.F__are_columns sc__are_columns (fun x G M vs h => by obtain ⟨v, rfl, _⟩ := h; rfl) fun cdv A outer s H E hr => ⟨_, (pss_cons (ps_if (pt_not (pt_val (pe_callB (k_isi (K := K) rfl) (by rfl) T.n_isinstance (by decide +kernel) (pa_cons (pv 2) (pa_cons (pe_bltn (v := .ty "list") (by rfl) T.n_list (by decide +kernel) rfl) pa_nil))))) (pss_one (ps_ret (pe_bl))) (pss_nil)) (pss_one (ps_ret (pe_callB (k_all (K := K) rfl rfl) (by rfl) T.n_all (by decide +kernel) (pa_cons (pe_lc (own := [("column", 3)]) (g := gName 3) (tt := tYes) rfl sc__are_columns.nd (pi_list (pv 2)) (blkOk_by (N := ["base", "rows", "value", "column"]) (sc := defScope s__are_columns) (by decide +kernel)) (fun _ _ _ _ _ => pg_name (i := 3) sc__are_columns.nd rfl (Or.inl rfl)) (fun _ _ _ _ _ => pts_nil) (fun _ _ _ _ _ => pe_call (ok_is_column T) (hr.mono (by decide)) (by rfl) T.m_is_column T.F_is_column.kp T.b_is_column .nil pass0 (pa_cons (pv 0) (pa_cons (pv 1) (pa_cons (pv 3) pa_nil))))) pa_nil))))), ?_⟩
  rintro ⟨b, r, d⟩ G M vs ⟨v, rfl, (dt : Dt K G M v d), (hz : dlen d ≤ 100000), (hy : ∀ ds, d = .list ds → ∀ c ∈ ds, dlen c ≤ 100000)⟩
  refine sv_ifs (et_not (et_B (ev_isiA (K := K) (.inr (.inr (.inr (.inl rfl)))) (ev_var rfl) dt.da))) ?_ ?_
  · intro G1 e1 hb
    refine sv_ret ev_c fun v' G' M' e r' => ?_
    obtain ⟨rfl, rfl⟩ := r'
    refine ⟨?_, rfl⟩
    show V.bl false = V.bl (areCols b r d)
    cases d with
    | list ds =>
      rw [isTy_lst] at hb
      cases hb
    | _ => rfl
  · intro G1 e1 hb
    refine sv_next fun G2 e2 => ?_
    have hb' : isTy d "list" = true := by simpa using hb
    obtain ⟨ds, rfl⟩ := lst_of hb'
    have e12 := e1.trans e2
    obtain ⟨a, xs, rfl, hA, hd⟩ := dt.lst
    refine sv_ret (ev_allA (K := K) (f := fun d => isCol b r d) (ev_var rfl) (hA.ex e12) (dma hd e12) hz (fun i d x G' hd e dx => ?_) (fun _ => rfl)) fun v' G' M' e r' => ?_
    · exact ev_col (f := isCol) (ea_cons (ev_var rfl) (ea_cons (ev_var rfl) (ea_cons (ev_varP rfl dx) ea_nil))) (hy ds rfl d (List.mem_of_getElem? hd))
    · obtain ⟨rfl, rfl⟩ := r'
      refine ⟨?_, rfl⟩
      show V.bl _ = V.bl (areCols b r (.list ds))
      rfl
theorem ok_is_base (T : Txt K mg) : FnOk P w K mg base CX0 2 T.a_is_base T.fd_is_base ["value"] (spec (d1Pre K) (b1Post fun d => isWhole d 2 12)) := by
  refine fn_sv T.F_is_base sc_is_base (fun x G M vs h => by obtain ⟨v, rfl, _⟩ := h; rfl) fun cdv A outer s H E hr => ⟨_, (pss_one (ps_ret (pe_call (ok_is_whole T) (hr.mono (by decide)) (by rfl) T.m_is_whole T.F_is_whole.kp T.b_is_whole .nil pass0 (pa_cons (pv 0) (pa_cons (pe_int) (pa_cons (pe_glob (v := .int 12) (by rfl) T.m_MOST_BASE ⟨_, rfl⟩) pa_nil)))))), ?_⟩
  rintro d G M vs ⟨v, rfl, dv⟩
  exact sv_ret (ev_whole (ea_cons (ev_varP rfl dv) (ea_cons ev_c (ea_cons ev_c ea_nil)))) fun v' G' M' e r => r
theorem ok_is_rows (T : Txt K mg) : FnOk P w K mg base CX0 2 T.a_is_rows T.fd_is_rows ["value"] (spec (d1Pre K) (b1Post fun d => isWhole d 1 4)) := by
  refine fn_sv T.F_is_rows sc_is_rows (fun x G M vs h => by obtain ⟨v, rfl, _⟩ := h; rfl) fun cdv A outer s H E hr => ⟨_, (pss_one (ps_ret (pe_call (ok_is_whole T) (hr.mono (by decide)) (by rfl) T.m_is_whole T.F_is_whole.kp T.b_is_whole .nil pass0 (pa_cons (pv 0) (pa_cons (pe_int) (pa_cons (pe_glob (v := .int 4) (by rfl) T.m_MOST_ROWS ⟨_, rfl⟩) pa_nil)))))), ?_⟩
  rintro d G M vs ⟨v, rfl, dv⟩
  exact sv_ret (ev_whole (ea_cons (ev_varP rfl dv) (ea_cons ev_c (ea_cons ev_c ea_nil)))) fun v' G' M' e r => r
theorem ok_Sheet___init__ (T : Txt K mg) : FnOk P w K mg base (L2.CX P w) 4 T.a_Sheet___init__ T.fd_Sheet___init__ ["self", "base", "rows", "columns"] (specX (initPre K T.c_Sheet) (initPost K T.c_Sheet) (initExc T.c_InvalidSheet)) := by
  refine fn_svX T.F_Sheet___init__ sc_Sheet___init__ (fun x G M vs h => by obtain ⟨rfl, _⟩ := h; rfl) fun cdv A outer s H E hr => ⟨_, (pss_cons (ps_if (pt_not (pt_val (pe_call (ok_is_base T) (hr.mono (by decide)) (by rfl) T.m_is_base T.F_is_base.kp T.b_is_base .nil pass0 (pa_cons (pv 1) pa_nil)))) (pss_one (ps_raise rfl (takes_of rfl rfl rfl rfl) (pmk_own PySem.F.excBase_ValueError T.x_InvalidSheet T.m_InvalidSheet T.xk_InvalidSheet (raises_own T.xb_InvalidSheet T.xt_InvalidSheet) rfl))) (pss_nil)) (pss_cons (ps_if (pt_not (pt_val (pe_call (ok_is_rows T) (hr.mono (by decide)) (by rfl) T.m_is_rows T.F_is_rows.kp T.b_is_rows .nil pass0 (pa_cons (pv 2) pa_nil)))) (pss_one (ps_raise rfl (takes_of rfl rfl rfl rfl) (pmk_own PySem.F.excBase_ValueError T.x_InvalidSheet T.m_InvalidSheet T.xk_InvalidSheet (raises_own T.xb_InvalidSheet T.xt_InvalidSheet) rfl))) (pss_nil)) (pss_cons (ps_if (pt_not (pt_val (pe_call (ok__are_columns T) (hr.mono (by decide)) (by rfl) T.m__are_columns T.F__are_columns.kp T.b__are_columns .nil pass0 (pa_cons (pv 1) (pa_cons (pv 2) (pa_cons (pv 3) pa_nil)))))) (pss_one (ps_raise rfl (takes_of rfl rfl rfl rfl) (pmk_own PySem.F.excBase_ValueError T.x_InvalidSheet T.m_InvalidSheet T.xk_InvalidSheet (raises_own T.xb_InvalidSheet T.xt_InvalidSheet) rfl))) (pss_nil)) (pss_cons (ps_fld (pv 0) (pv 1) rfl) (pss_cons (ps_fld (pv 0) (pv 2) rfl) (pss_one (ps_fld (pv 0) (pe_lc (own := [("column", 4)]) (g := gName 4) (tt := tYes) rfl sc_Sheet___init__.nd (pi_list (pv 3)) (blkOk_by (N := ["self", "base", "rows", "columns", "column"]) (sc := defScope s_Sheet___init__) (by decide +kernel)) (fun _ _ _ _ _ => pg_name (i := 4) sc_Sheet___init__.nd rfl (Or.inl rfl)) (fun _ _ _ _ _ => pts_nil) (fun _ _ _ _ _ => pe_callTy (k_tup (K := K) rfl) (by rfl) T.n_tuple (by decide +kernel) (pa_cons (pv 4) pa_nil))) rfl))))))), ?_⟩
  rintro ⟨p, dx, vb, vr, vc, db, dr, dc⟩ G M vs ⟨rfl, M0, rfl, (hdb : Dp K G vb db), (hdr : Dp K G vr dr), (hdc : Dt K G M0 vc dc), (hz : dlen dc ≤ 100000), (hy : ∀ ds, dc = .list ds → ∀ c ∈ ds, dlen c ≤ 100000)⟩
  refine sv_ifs (et_not (et_B (ev_d1 (K := K) (ev_varP rfl hdb)))) (fun G1 e1 hb => sv_raise fun G2 e2 => ?_) fun G1 e1 hb => sv_next fun G2 e2 => ?_
  · exact ⟨by show (_ && _) = false; rw [show isWhole db 2 12 = false by simpa using hb]; rfl, rfl, rfl, rfl⟩
  have hw1 : isWhole db 2 12 = true := by simpa using hb
  refine sv_ifs (et_not (et_B (ev_d1 (K := K) (ev_varP rfl (dm hdr (e1.trans e2)))))) (fun G1 e1 hb => sv_raise fun G2 e2 => ?_) fun G3 e3 hb => sv_next fun G4 e4 => ?_
  · exact ⟨by show (_ && (_ && _)) = false; rw [show isWhole dr 1 4 = false by simpa using hb]; simp, rfl, rfl, rfl⟩
  have hw2 : isWhole dr 1 4 = true := by simpa using hb
  obtain ⟨b, rfl, b2, b12⟩ := whole_int hw1
  obtain ⟨r, rfl, r1, r4⟩ := whole_int hw2
  obtain rfl := dp_int hdb
  obtain rfl := dp_int hdr
  have e14 := ((e1.trans e2).trans e3).trans e4
  have hdc' : Dt K G4 (M0 ++ [(p, HO.ins T.c_Sheet dx [])]) vc dc := by
    rcases hdc with h | ⟨a, xs, ds, h1, h2, h3, h4⟩
    · exact .inl (dm h e14)
    · exact .inr ⟨a, xs, ds, h1, h2, h3.more.ex e14, dma h4 e14⟩
  refine sv_ifs (et_not (et_B (ev_cols (K := K) (f := areCols) (ea_cons (ev_var rfl) (ea_cons (ev_var rfl) (ea_cons (ev_var rfl) ea_nil))) hdc' hz hy))) (fun G1 e1 hb => sv_raise fun G2 e2 => ?_) fun G5 e5 hb => sv_next fun G6 e6 => ?_
  · exact ⟨by show (_ && (_ && areCols b r dc)) = false; rw [show areCols b r dc = false by simpa using hb]; simp, rfl, rfl, rfl⟩
  have hac : areCols b r dc = true := by simpa using hb
  obtain ⟨ds, rfl⟩ : ∃ ds, dc = .list ds := by
    cases dc with
    | list ds => exact ⟨ds, rfl⟩
    | _ => cases hac
  obtain ⟨a, xs, rfl, hA, hd⟩ := hdc.lst
  have hall : ∀ d ∈ ds, isCol b r d = true := List.all_eq_true.mp hac
  have hok : okSh (.int b) (.int r) (.list ds) = true := by
    unfold okSh
    rw [hw1, hw2]
    exact hac
  have e16 := (e14.trans e5).trans e6
  have hn0 : (M0 ++ [(p, HO.ins T.c_Sheet dx [])])[M0.length]? = some (p, .ins T.c_Sheet dx []) := by simp
  refine sv_seq (N := fun G' σ' M' => σ' = [some (.ref p), some (.int b), some (.int r), some (.ref a), none] ∧ M' = M0 ++ [(p, .ins T.c_Sheet dx (putF "_base" (.int b) []))]) (sv_fld (p := p) (C := T.c_Sheet) (dx := dx) (fs := []) (n := M0.length) (ev_var rfl) (fun G1 v' M1 e hR => ?_) T.cl_Sheet T.na_Sheet__base (by decide) fun G1 G2 v' M1 e e' hR => ?_) ?_
  · obtain ⟨rfl, rfl⟩ := hR
    exact ⟨ev_var rfl, hn0⟩
  · obtain ⟨rfl, rfl⟩ := hR
    exact ⟨rfl, by simp [List.set_append]⟩
  rintro G7 σ7 M7 e7 ⟨rfl, rfl⟩
  refine sv_seq (N := fun G' σ' M' => σ' = [some (.ref p), some (.int b), some (.int r), some (.ref a), none] ∧ M' = M0 ++ [(p, .ins T.c_Sheet dx (putF "_rows" (.int r) (putF "_base" (.int b) [])))]) (sv_fld (p := p) (C := T.c_Sheet) (dx := dx) (fs := putF "_base" (.int b) []) (n := M0.length) (ev_var rfl) (fun G1 v' M1 e hR => ?_) T.cl_Sheet T.na_Sheet__rows (by show 1 < 1000; decide) fun G1 G2 v' M1 e e' hR => ?_) ?_
  · obtain ⟨rfl, rfl⟩ := hR
    exact ⟨ev_var rfl, by simp⟩
  · obtain ⟨rfl, rfl⟩ := hR
    exact ⟨rfl, by simp [List.set_append]⟩
  rintro G8 σ8 M8 e8 ⟨rfl, rfl⟩
  refine sv_fld (fs := putF "_rows" (.int r) (putF "_base" (.int b) [])) (n := M0.length) (R := own K ds (M0 ++ [(p, .ins T.c_Sheet dx (putF "_rows" (.int r) (putF "_base" (.int b) [])))])) (p := p) (C := T.c_Sheet) (dx := dx) ?_ (fun G1 v' M1 e hR => ?_) T.cl_Sheet T.na_Sheet__columns (by show 2 < 1000; decide) fun G1 G2 v' M1 e e' hR => ?_
  · refine ev_mapA (K := K) (own' := [4]) (p := a) (xs := xs) (ds := ds) (k := 4) (fun i => (ds[i]?).getD .none) (ev_var rfl) (hA.more.ex ((e16.trans e7).trans e8)) (dma hd ((e16.trans e7).trans e8)) hz (fun i d x G' hd e dx => ?_) (fun _ => rfl) (kept_ids _)
    rw [hd]
    obtain ⟨c, rfl, _⟩ := isCol_of (hall d (List.mem_of_getElem? hd))
    exact ev_tupT (ev_varP rfl dx)
  · obtain ⟨l, ys, rfl, rfl, hdy⟩ := hR
    exact ⟨ev_var rfl, by simp⟩
  · obtain ⟨l, ys, rfl, rfl, hdy⟩ := hR
    exact ⟨hok, rfl, l, ys, M0, ds, rfl, rfl, by simp [List.set_append, shF], dma hdy e'⟩
theorem okG_Sheet___init__ (T : Txt K mg) : FnOk P w K mg base (L2.CX P w) 4 T.a_Sheet___init__ T.fd_Sheet___init__ ["self", "base", "rows", "columns"] (spec (mkShPre K T.c_Sheet) (mkShPost K T.c_Sheet)) :=
  (ok_Sheet___init__ T).imp fun vs H Q E h => by
    obtain ⟨⟨p, dx, b, r, cs⟩, G, M, F, m, ⟨a, xs, M0, rfl, rfl, hA, hd, g⟩, q⟩ := h
    have g : GoodSh b r cs := g
    refine ⟨⟨p, dx, .int b, .int r, .ref a, .int b, .int r, .list (cs.map colD)⟩, G, _, F, m, ⟨rfl, M0, rfl, .int b, .int r, .inr ⟨a, xs, _, rfl, rfl, hA, hd⟩, ?_, ?_⟩, fun v G' M' H' e' m' r' => ?_, fun c d G' M' H' e' m' r' => ?_⟩
    · show (cs.map colD).length ≤ 100000
      have := g.len
      rw [List.length_map]
      omega
    · intro ds hds c hc
      cases hds
      obtain ⟨c', hc', rfl⟩ := List.mem_map.mp hc
      rw [dlen_colD]
      have := g.clen hc'
      omega
    · obtain ⟨_, rfl, l, ys, M0', ds, h1, h2, rfl, h4⟩ := r'
      cases h2
      exact q _ G' _ H' e' m' ⟨rfl, l, ys, M0', h1, rfl, h4⟩
    · have hz : okSh (.int b) (.int r) (.list (cs.map colD)) = false := r'.1
      rw [okSh_good g] at hz
      cases hz
theorem ok_Sheet_base (T : Txt K mg) : FnOk P w K mg base CX0 1 T.a_Sheet_base T.fd_Sheet_base ["self"] (spec (shPre K T.c_Sheet) fun x M => isV (.int x.2.1) M) := by
  refine fn_sv T.F_Sheet_base sc_Sheet_base (fun x G M vs h => by obtain ⟨rfl, _⟩ := h; rfl) fun cdv A outer s H E hr => ⟨_, (pss_one (ps_ret (k_fld (K := K) rfl (pv 0) rfl))), ?_⟩
  rintro ⟨p, b, r, cs⟩ G M vs ⟨rfl, dx, l, xs, h1, h2, h3⟩
  exact sv_ret (ev_fld (ev_var rfl) h1 T.cl_Sheet T.na_Sheet__base shF_b) fun v' G' M' e r => r
theorem ok_Sheet_rows (T : Txt K mg) : FnOk P w K mg base CX0 1 T.a_Sheet_rows T.fd_Sheet_rows ["self"] (spec (shPre K T.c_Sheet) fun x M => isV (.int x.2.2.1) M) := by
  refine fn_sv T.F_Sheet_rows sc_Sheet_rows (fun x G M vs h => by obtain ⟨rfl, _⟩ := h; rfl) fun cdv A outer s H E hr => ⟨_, (pss_one (ps_ret (k_fld (K := K) rfl (pv 0) rfl))), ?_⟩
  rintro ⟨p, b, r, cs⟩ G M vs ⟨rfl, dx, l, xs, h1, h2, h3⟩
  exact sv_ret (ev_fld (ev_var rfl) h1 T.cl_Sheet T.na_Sheet__rows shF_r) fun v' G' M' e r => r
abbrev alkPre (K : PySem.W.Frag) (C : Addr) : ((Addr × Int × Int × List (List Int)) × (Addr × Int × Int × List (List Int))) → Hp → Mem → List V → Prop := fun x G M vs => vs = [.ref x.1.1, .ref x.2.1] ∧ ShAt K C G M x.1.1 x.1.2.1 x.1.2.2.1 x.1.2.2.2 ∧ ShAt K C G M x.2.1 x.2.2.1 x.2.2.2.1 x.2.2.2.2
abbrev alkPost : ((Addr × Int × Int × List (List Int)) × (Addr × Int × Int × List (List Int))) → Mem → Post := fun x M G v M' => (x.1.2.1 = x.2.2.1 ∧ x.1.2.2.1 = x.2.2.2.1) ∧ M' = M
theorem sv_dropCS {α : Type} {pre : α → Hp → Mem → List V → Prop} {post : α → Mem → Post} {exc : α → Mem → Value → Option Addr → Hp → Mem → Prop} {E : XK} {EE : L2.St → XK} {tA : TA} {σ : L2.St} {G : Hp} {M M1 : Mem} {Ps : List (Hp → V → Prop)} {P : Po} (xx : α) (hE : EE σ = E) (h : EvA tA σ G M Ps M1) (hp : ∀ G1 vs, Ex G G1 → AllP G1 Ps vs → pre xx G1 M1 vs) (hq : ∀ G1 v M2, Ex G G1 → post xx M1 G1 v M2 → P.nx G1 σ M2) (hx : ∀ c d G1 M2, Ex G G1 → exc xx M1 c d G1 M2 → P.ex c d G1 M2) : Sv E (tDrop (tCallS (specX pre post exc) EE tA)) σ G M P := fun G1 H F D e m hd =>
  h G1 H F e m _ fun vs G2 H2 e2 m2 a => by
    refine ⟨xx, G2, M1, F, m2, hp G2 vs (e.trans e2) a, fun v G3 M3 H3 e3 m3 r => hd.nx σ G3 M3 H3 (e2.trans e3) m3 (hq G3 v M3 ((e.trans e2).trans e3) r), fun c d G3 M3 H3 e3 m3 r => ?_⟩
    rw [hE]
    exact hd.ex c d G3 M3 H3 (e2.trans e3) m3 (hx c d G3 M3 ((e.trans e2).trans e3) r)
theorem ok_check_alike (T : Txt K mg) : FnOk P w K mg base (L2.CX P w) 4 T.a_check_alike T.fd_check_alike ["one", "other"] (specX (alkPre K T.c_Sheet) alkPost (addExc T.c_NotAlike)) := by
  refine fn_svX T.F_check_alike sc_check_alike (fun x G M vs h => by obtain ⟨rfl, _⟩ := h; rfl) fun cdv A outer s H E hr => ⟨_, (pss_one (ps_if (PW.pt (pw_or (pt_cmpR op_ne (pe_prop (pv 0) T.cl_Sheet T.p_Sheet_base (ok_Sheet_base T) (hr.mono (by decide)) T.b_Sheet_base .nil pass0 rfl) (pe_prop (pv 1) T.cl_Sheet T.p_Sheet_base (ok_Sheet_base T) (hr.mono (by decide)) T.b_Sheet_base .nil pass0 rfl) (nomark _)) (pw_or1 (pt_cmpR op_ne (pe_prop (pv 0) T.cl_Sheet T.p_Sheet_rows (ok_Sheet_rows T) (hr.mono (by decide)) T.b_Sheet_rows .nil pass0 rfl) (pe_prop (pv 1) T.cl_Sheet T.p_Sheet_rows (ok_Sheet_rows T) (hr.mono (by decide)) T.b_Sheet_rows .nil pass0 rfl) (nomark _))))) (pss_one (ps_raise rfl (takes_of rfl rfl rfl rfl) (pmk_own PySem.F.excBase_ValueError T.x_NotAlike T.m_NotAlike T.xk_NotAlike (raises_own T.xb_NotAlike T.xt_NotAlike) rfl))) (pss_nil))), ?_⟩
  rintro ⟨⟨p, b, r, cs⟩, q, b', r', cs'⟩ G M vs ⟨rfl, (hS : ShAt K T.c_Sheet G M p b r cs), (hT : ShAt K T.c_Sheet G M q b' r' cs')⟩
  obtain ⟨dx, _, _, h1, _, _⟩ := id hS
  obtain ⟨dy, _, _, k1, _, _⟩ := id hT
  refine sv_ifs (et_or (a := !decide (b = b')) (b := !decide (r = r')) (et_test (ev_neI (ev_prop (pre := shPre K T.c_Sheet) (post := fun x M => isV (.int x.2.1) M) (p, b, r, cs) (ev_var rfl) h1 fun G1 e1 => ⟨rfl, hS.ex e1⟩) (ev_prop (pre := shPre K T.c_Sheet) (post := fun x M => isV (.int x.2.1) M) (q, b', r', cs') (ev_var rfl) k1 fun G1 e1 => ⟨rfl, hT.ex e1⟩))) fun _ => et_test (ev_neI (ev_prop (pre := shPre K T.c_Sheet) (post := fun x M => isV (.int x.2.2.1) M) (p, b, r, cs) (ev_var rfl) h1 fun G1 e1 => ⟨rfl, hS.ex e1⟩) (ev_prop (pre := shPre K T.c_Sheet) (post := fun x M => isV (.int x.2.2.1) M) (q, b', r', cs') (ev_var rfl) k1 fun G1 e1 => ⟨rfl, hT.ex e1⟩))) (fun G3 e3 hb => sv_raise fun G4 e4 => ?_) fun G3 e3 hb => sv_next fun G4 e4 => ?_
  · refine ⟨fun z => ?_, rfl, rfl, rfl⟩
    have z1 : b = b' := z.1
    have z2 : r = r' := z.2
    simp [z1, z2] at hb
  exact sv_next fun G5 e5 => ⟨by simpa using hb, rfl⟩
theorem ok_Sheet___add__ (T : Txt K mg) : FnOk P w K mg base (L2.CX P w) 7 T.a_Sheet___add__ T.fd_Sheet___add__ ["self", "other"] (specX (addPre K T.c_Sheet) (addPost K T.c_Sheet) (addExc T.c_NotAlike)) := by
  refine fn_svX T.F_Sheet___add__ sc_Sheet___add__ (fun x G M vs h => by obtain ⟨rfl, _⟩ := h; rfl) fun cdv A outer s H E hr => ⟨_, (pss_cons (ps_if (pt_not (pt_val (pe_callB (k_isi (K := K) rfl) (by rfl) T.n_isinstance (by decide +kernel) (pa_cons (pv 1) (pa_cons (pe_glob (v := .ref T.c_Sheet) (by rfl) T.m_Sheet rfl) pa_nil))))) (pss_one (ps_never)) (pss_nil)) (pss_cons (ps_expr (pe_callS (ok_check_alike T) (hr.mono (by decide)) (by rfl) T.m_check_alike T.F_check_alike.kp T.b_check_alike (fun σ => passAt (takes_of rfl rfl rfl rfl) σ) (pa_cons (pv 0) (pa_cons (pv 1) pa_nil)))) (pss_one (ps_ret (pe_make T.k_Sheet (okG_Sheet___init__ T) (hr.mono (by decide)) (by rfl) T.m_Sheet T.b_Sheet___init__ .nil passL (pa_cons (k_fld (K := K) rfl (pv 0) rfl) (pa_cons (k_fld (K := K) rfl (pv 0) rfl) (pa_cons (pe_op (k_cat (K := K) rfl) (k_fld (K := K) rfl (pv 0) rfl) (k_fld (K := K) rfl (pv 1) rfl)) pa_nil)))))))), ?_⟩
  rintro ⟨⟨p, b, r, cs⟩, q, b', r', cs'⟩ G M vs ⟨rfl, ⟨dx, l, xs, h1, h2, h3⟩, ⟨dy, l', ys, k1, k2, k3⟩, (g : GoodSh b r cs), (g' : GoodSh b' r' cs'), (hl : cs.length + cs'.length ≤ 10000)⟩
  refine sv_ifs (a := false) (et_not (a := true) (et_B (ev_isiO T.ic_Sheet T.cl_Sheet T.io_Sheet (ev_var rfl) k1))) (fun G1 e1 hb => by cases hb) fun G1 e1 _ => sv_next fun G2 e2 => ?_
  have e12 := e1.trans e2
  refine sv_seq (N := fun _ σ' M' => σ' = [some (.ref p), some (.ref q)] ∧ M' = M ∧ b = b' ∧ r = r') (sv_dropCS (E := E) (exc := addExc T.c_NotAlike) (pre := alkPre K T.c_Sheet) (post := alkPost) ((p, b, r, cs), q, b', r', cs') rfl (ea_cons (P := fun _ v => v = .ref p) (ev_var rfl) (ea_cons (P := fun _ v => v = .ref q) (ev_var rfl) ea_nil)) (fun G3 vs e3 a => ?_) (fun G3 v M3 e3 z => ⟨rfl, z.2, z.1⟩) (fun c d G3 M3 e3 z => z)) ?_
  · obtain ⟨v1, v2, rfl, z1, z2⟩ := allP2 a
    subst z1 z2
    exact ⟨rfl, ⟨dx, l, xs, h1.ex (e12.trans e3), h2.ex (e12.trans e3), dma h3 (e12.trans e3)⟩, ⟨dy, l', ys, k1.ex (e12.trans e3), k2.ex (e12.trans e3), dma k3 (e12.trans e3)⟩⟩
  rintro G4 _ _ e3 ⟨rfl, rfl, hbr⟩
  obtain ⟨rfl, rfl⟩ := hbr
  have e14 := e12.trans e3
  refine sv_ret (ev_mkSh3 (C := T.c_Sheet) (cs := cs ++ cs') (ev_fld (ev_var rfl) (h1.ex e14) T.cl_Sheet T.na_Sheet__base shF_b) (ev_fld (ev_var rfl) (h1.ex e14) T.cl_Sheet T.na_Sheet__rows shF_r) (Ev.frz ?_) ?_) fun v' G' M' e r => ⟨⟨rfl, rfl⟩, r⟩
  · rw [List.map_append]
    exact ev_catA (ev_fld (ev_var rfl) (h1.ex e14) T.cl_Sheet T.na_Sheet__columns shF_c) (ev_fld (ev_var rfl) (k1.ex e14) T.cl_Sheet T.na_Sheet__columns shF_c) (h2.ex e14) (k2.ex e14) (dma h3 e14) (dma k3 e14) (by rw [List.length_map, List.length_map]; omega)
  · exact ⟨g.b2, g.b12, g.r1, g.r4, by rw [List.length_append]; exact hl, fun c hc => (List.mem_append.mp hc).elim (g.col c) (g'.col c)⟩
theorem opO_Sheet___add__ (T : Txt K mg) {X : Cx} (hP : X.prog = P := by rfl) (hw : X.w = w := by rfl) (hK : X.K = K := by rfl) (hm : X.mg = mg := by rfl) (hr : Room 7 X.A) : OpR X (binaryOp .Add) (rBinO T.c_Sheet (spec (addGPre K T.c_Sheet) (addPost K T.c_Sheet)) E0) := by
  subst hP hw hK hm
  exact op_binO T.me_Sheet___add__.at_ T.me_Sheet___add__.fn T.sf_Sheet (FnOk.calm (ok_Sheet___add__ T) (fun x G M vs h => h.1) (fun x G M vs c d G' M' h z => z.1 ⟨h.2.1, h.2.2⟩)) hr T.b_Sheet___add__ passL
theorem ok_place_value (T : Txt K mg) : FnOk P w K mg base CX0 1 T.a_place_value T.fd_place_value ["base", "figures", "last"] (spec (placePre K) placePost) := by
  refine fn_sv T.F_place_value sc_place_value (fun x G M vs h => by obtain ⟨v, rfl, _⟩ := h; rfl) fun cdv A outer s H E hr => ⟨_, (pss_cons (ps_set (i := 3) sc_place_value.nd rfl (Or.inl rfl) (pv 2)) (pss_cons (ps_for PassesOwn.never rfl (pi_list (pe_revL (pv 1))) (pg_name (i := 4) sc_place_value.nd rfl (Or.inl rfl)) (pss_one (ps_set (i := 3) sc_place_value.nd rfl (Or.inl rfl) (pe_op op_add (pe_op op_mul (pv 3) (pv 0)) (pv 4))))) (pss_one (ps_ret (pv 3))))), ?_⟩
  rintro ⟨b, figs, last⟩ G M vs ⟨v, rfl, (dv : Dp K G v (.list (figs.map PyData.int))), (hb : -(2 ^ 64) < b ∧ b < 2 ^ 64)⟩
  refine sv_let (ev_var rfl) ?_
  rintro _ G1 M1 e1 ⟨rfl, rfl⟩
  refine sv_seq (N := fun G2 σ2 M2 => M2 = M1 ∧ ∃ f, σ2 = [some (.int b), some v, some (.int last), some (.int (horner b figs last)), f]) ?_ ?_
  · refine sv_forD (K := K) (ds := (figs.map PyData.int).reverse) (M1 := M1) (fun i G2 σ2 M2 => M2 = M1 ∧ ∃ f, σ2 = [some (.int b), some v, some (.int last), some (.int (horner b (figs.reverse.take i).reverse last)), f]) (Ev.frz (ev_revL (ev_varP rfl (dm dv e1)))) ?_ ?_ ?_
    · exact fun G' _ => ⟨rfl, none, rfl⟩
    · rintro i d x G2 σ2 M2 e2 hd dx ⟨rfl, f, rfl⟩
      obtain ⟨n, hn, rfl⟩ : ∃ n, figs.reverse[i]? = some n ∧ d = .int n := by
        rw [← List.map_reverse, List.getElem?_map] at hd
        cases q : figs.reverse[i]? with
        | none => rw [q] at hd; cases hd
        | some n => rw [q] at hd; exact ⟨n, rfl, (Option.some.inj hd).symm⟩
      obtain rfl := dp_int dx
      refine sv_tgN (sv_set (ev_I0 (ev_I (ev_var rfl) (ev_var rfl) (.inr hb)) (ev_var rfl)) ?_)
      rintro _ G3 M3 e3 ⟨rfl, rfl⟩
      refine ⟨rfl, some (.int n), ?_⟩
      show _ = [some (.int b), some v, some (.int last), some (.int (horner b (figs.reverse.take (i + 1)).reverse last)), some (.int n)]
      rw [List.take_add_one, hn]
      simp [horner]
    · rintro G2 σ2 M2 e2 ⟨rfl, f, rfl⟩
      refine ⟨rfl, f, ?_⟩
      have hq : (figs.reverse.take figs.length).reverse = figs := by
        rw [List.take_of_length_le (by simp), List.reverse_reverse]
      simp only [List.length_reverse, List.length_map, hq]
  · rintro G2 σ2 M2 e2 ⟨rfl, f, rfl⟩
    exact sv_ret (ev_var rfl) fun v' G' M' e r => r
theorem ok_Sheet_value (T : Txt K mg) : FnOk P w K mg base CX0 2 T.a_Sheet_value T.fd_Sheet_value ["self"] (spec (shGPre K T.c_Sheet) fun x M => isV (.int (valueOf x.2.1 x.2.2.2)) M) := by
  refine fn_sv T.F_Sheet_value sc_Sheet_value (fun x G M vs h => by obtain ⟨⟨rfl, _⟩, _⟩ := h; rfl) fun cdv A outer s H E hr => ⟨_, (pss_one (ps_ret (pe_call (ok_place_value T) (hr.mono (by decide)) (by rfl) T.m_place_value T.F_place_value.kp T.b_place_value .nil pass0 (pa_cons (k_fld (K := K) rfl (pv 0) rfl) (pa_cons (pe_lc (own := [("column", 1)]) (g := gName 1) (tt := tYes) rfl sc_Sheet_value.nd (pi_list (k_fld (K := K) rfl (pv 0) rfl)) (blkOk_by (N := ["self", "column"]) (sc := defScope s_Sheet_value) (by decide +kernel)) (fun _ _ _ _ _ => pg_name (i := 1) sc_Sheet_value.nd rfl (Or.inl rfl)) (fun _ _ _ _ _ => pts_nil) (fun _ _ _ _ _ => pe_callB (k_sumT (K := K) rfl rfl) (by rfl) T.n_sum (by decide +kernel) (pa_cons (pv 1) pa_nil))) (pa_cons (pe_int) pa_nil)))))), ?_⟩
  rintro ⟨p, b, r, cs⟩ G M vs ⟨⟨rfl, dx, l, xs, h1, h2, h3⟩, hl, hb⟩
  refine sv_ret (ev_place (K := K) (b := b) (figs := cs.map List.sum) (last := 0) (ea_cons (ev_fld (ev_var rfl) h1 T.cl_Sheet T.na_Sheet__base shF_b) (ea_cons ?_ (ea_cons ev_c ea_nil))) hb) fun v' G' M' e r => r
  refine Ev.frz (ev_mapA (K := K) (own' := [1]) (p := l) (xs := xs) (ds := cs.map colD) (M1 := M) (fun i => .int (((cs[i]?).getD []).sum)) (ev_fld (ev_var rfl) h1 T.cl_Sheet T.na_Sheet__columns shF_c) h2 h3 (by rw [List.length_map]; exact hl) (fun i d x G' hd e dx => ?_) (fun _ => rfl) ?_)
  · rw [List.getElem?_map] at hd
    cases q : cs[i]? with
    | none => rw [q] at hd; cases hd
    | some c =>
      rw [q] at hd
      cases hd
      exact ev_iD (ev_sumT (K := K) (ns := c) (ev_varP rfl dx))
  · refine kept_ext (by simp) fun i d hd => ?_
    rw [List.map_map, List.getElem?_map] at hd
    cases q : cs[i]? with
    | none => rw [q] at hd; cases hd
    | some z => rw [q] at hd; cases hd; rfl
theorem ok__law_cells (T : Txt K mg) : FnOk P w K mg base CX0 1 T.a__law_cells T.fd__law_cells ["script"] (spec (cellsPre K) (cellsPost K)) := by
  refine fn_sv T.F__law_cells sc__law_cells (fun x G M vs h => by obtain ⟨v, rfl, _⟩ := h; rfl) fun cdv A outer s H E hr => ⟨_, (pss_cons (ps_if (pt_cmpR (k_eqD (K := K) rfl hr.units) (pv 0) (pe_lst pa_nil) (nomark _)) (pss_one (ps_ret (pe_lst (pa_cons (pe_int) pa_nil)))) (pss_nil)) (pss_one (ps_ret (pe_slice (k_slL (K := K) rfl) (pv 0) po_none (po_some (pe_int)))))), ?_⟩
  rintro ns G M vs ⟨v, rfl, dv, hl⟩
  refine sv_ifs (et_test (ev_eqD (K := K) (d := .list (ns.map PyData.int)) (e := .list []) (ev_varP rfl dv) (Ev.frz (ev_lstO (ds := []) ea_nil (by decide))) (sh_ints (n := 0) ns).ok (sh_ints (n := 0) []).ok)) ?_ ?_
  · intro G1 e1 hb
    have hn : ns = [] := by
      have := eqv_lst ns []
      rw [show ([] : List Int).map PyData.int = [] from rfl, hb] at this
      exact of_decide_eq_true this.symm
    subst hn
    exact sv_ret (Ev.frz (ev_lstO (K := K) (ds := [.int 0]) (ea_cons (ev_iD ev_c) ea_nil) (by decide))) fun v' G' M' e r => r
  · intro G1 e1 hb
    refine sv_next fun G2 e2 => ?_
    have hn : ¬ ns = [] := fun z => by
      subst z
      cases hb
    refine sv_ret (Ev.frz (ev_slL (ds := ns.map PyData.int) (lo := none) (hi := some ((63 : Nat) : Int)) (ev_varP rfl (dm dv (e1.trans e2))) eo_none (eo_some ev_c))) fun v' G' M' e r => ?_
    rw [cutD_take, ← List.map_take] at r
    show isD K (.list ((cellsOf ns).map PyData.int)) M G' v' M'
    unfold cellsOf
    rw [if_neg hn]
    exact r
theorem ok__law_draw (T : Txt K mg) : FnOk P w K mg base CX0 1 T.a__law_draw T.fd__law_draw ["deck", "many"] (spec drawPre drawPost) := by
  refine fn_sv T.F__law_draw sc__law_draw (fun x G M vs h => by obtain ⟨rfl, _⟩ := h; rfl) fun cdv A outer s H E hr => ⟨_, (pss_cons (ps_if (pt_cmpR op_gt (pe_ix (k_ixL (K := K) rfl) (pv 0) (pe_int) (fun _ _ => rfl)) (pe_int) (nomark _)) (pss_cons (ps_set (i := 3) sc__law_draw.nd rfl (Or.inl rfl) (pe_op op_mod (pe_callTy c_int (by rfl) T.n_int (by decide +kernel) (pa_cons (pe_ix (k_ixL (K := K) rfl) (pv 0) (pe_int) (fun _ _ => rfl)) pa_nil)) (pv 1))) (pss_cons (ps_asg (pe_op op_fdivW (pe_ix (k_ixL (K := K) rfl) (pv 0) (pe_int) (fun _ _ => rfl)) (pv 1)) (pg_sub (pv 0) (pe_int) set_list)) (pss_one (ps_ret (pv 3))))) (pss_nil)) (pss_cons (ps_asg (pe_op op_add (pe_ix (k_ixL (K := K) rfl) (pv 0) (pe_int) (fun _ _ => rfl)) (pe_int)) (pg_sub (pv 0) (pe_int) set_list)) (pss_cons (ps_set (i := 2) sc__law_draw.nd rfl (Or.inl rfl) (pe_op op_mod (pe_callTy c_int (by rfl) T.n_int (by decide +kernel) (pa_cons (pe_op op_add (pe_op op_mul (pe_ix (k_ixL (K := K) rfl) (pv 0) (pe_int) (fun _ _ => rfl)) (pe_int)) (pe_op op_mul (pe_ix (k_ixL (K := K) rfl) (pv 0) (pe_int) (fun _ _ => rfl)) (pe_int))) pa_nil)) (pe_int))) (pss_cons (ps_set (i := 2) sc__law_draw.nd rfl (Or.inl rfl) (pe_op op_mod (pe_callTy c_int (by rfl) T.n_int (by decide +kernel) (pa_cons (pe_op op_add (pe_op op_mul (pv 2) (pv 2)) (pe_ix (k_ixL (K := K) rfl) (pv 0) (pe_int) (fun _ _ => rfl))) pa_nil)) (pe_int))) (pss_cons (ps_set (i := 2) sc__law_draw.nd rfl (Or.inl rfl) (pe_op op_mod (pe_callTy c_int (by rfl) T.n_int (by decide +kernel) (pa_cons (pe_op op_mul (pv 2) (pe_int)) pa_nil)) (pe_int))) (pss_one (ps_ret (pe_op op_mod (pe_callTy c_int (by rfl) T.n_int (by decide +kernel) (pa_cons (pe_op op_fdivW (pv 2) (pe_int)) pa_nil)) (pv 1))))))))), ?_⟩
  rintro ⟨dk, i, D, n⟩ G M vs ⟨rfl, (h0 : 0 < n), (h1 : n < 2 ^ 200), (hi : M[i]? = some (dk, .lst [.int D.a, .int D.b, .int D.c]))⟩
  obtain ⟨a, b, c⟩ := D
  have hw : CDivW a n := wide_div (b := 200) h0 (by omega) (by decide) (by decide)
  refine sv_ifs (et_test (ev_I0 (i := a) (ev_ixL (K := K) (ev_var rfl) ev_c (AtL.M hi) rfl) ev_c)) ?_ ?_
  · intro G1 e1 hb
    have ha : a > 0 := of_decide_eq_true hb
    refine sv_let (ev_I (ev_int (ev_ixL (K := K) (ev_var rfl) ev_c (AtL.M hi) rfl)) (ev_var rfl) h0) ?_
    rintro _ G2 M2 e2 ⟨rfl, rfl⟩
    refine sv_seq (N := fun G' σ' M' => σ' = [some (.ref dk), some (.int n), none, some (.int (a % n))] ∧ M' = M2.set i (dk, .lst [.int (a / n), .int b, .int c])) (sv_setIx (ev_I (ev_ixL (K := K) (ev_var rfl) ev_c (AtL.M hi) rfl) (ev_var rfl) hw) (ev_var rfl) ev_c hi rfl fun G' e => ⟨rfl, rfl⟩) ?_
    rintro G3 σ3 M3 e3 ⟨rfl, rfl⟩
    refine sv_ret (ev_var rfl) fun v' G' M' e r => ?_
    show v' = .int (dv ⟨a, b, c⟩ n) ∧ M' = M2.set i (dk, (dn ⟨a, b, c⟩ n).ho)
    unfold dv dn
    rw [if_pos ha, if_pos ha]
    exact r
  · intro G1 e1 hb
    have ha : ¬ a > 0 := of_decide_eq_false hb
    refine sv_next fun G2 e2 => ?_
    refine sv_seq (N := fun G' σ' M' => σ' = [some (.ref dk), some (.int n), none, none] ∧ M' = M.set i (dk, .lst [.int a, .int (b + 1), .int c])) (sv_setIx (ev_I0 (ev_ixL (K := K) (ev_var rfl) ev_c (AtL.M hi) rfl) ev_c) (ev_var rfl) ev_c hi rfl fun G' e => ⟨rfl, rfl⟩) ?_
    rintro G3 σ3 M3 e3 ⟨rfl, rfl⟩
    have hi' : (M.set i (dk, HO.lst [.int a, .int (b + 1), .int c]))[i]? = some (dk, .lst [.int a, .int (b + 1), .int c]) := by
      rw [List.getElem?_set_self (List.getElem?_eq_some_iff.mp hi).1]
    refine sv_let (ev_I (ev_int (ev_I0 (ev_I (ev_ixL (K := K) (ev_var rfl) ev_c (AtL.M hi') rfl) ev_c (.inr ⟨by decide, by decide⟩)) (ev_I (ev_ixL (K := K) (ev_var rfl) ev_c (AtL.M hi') rfl) ev_c (.inr ⟨by decide, by decide⟩)))) ev_c (by decide)) ?_
    rintro _ G4 M4 e4 ⟨rfl, rfl⟩
    have q1 : 0 ≤ (c * 48271 + (b + 1) * 69621) % 2147483647 := Int.emod_nonneg _ (by decide)
    have q2 : (c * 48271 + (b + 1) * 69621) % 2147483647 < 2147483647 := Int.emod_lt_of_pos _ (by decide)
    refine sv_let (ev_I (ev_int (ev_I0 (ev_I (ev_var rfl) (ev_var rfl) (.inr ⟨by omega, by omega⟩)) (ev_ixL (K := K) (ev_var rfl) ev_c (AtL.M hi') rfl))) ev_c (by decide)) ?_
    rintro _ G5 M5 e5 ⟨rfl, rfl⟩
    refine sv_let (ev_I (ev_int (ev_I (ev_var rfl) ev_c (.inr ⟨by decide, by decide⟩))) ev_c (by decide)) ?_
    rintro _ G6 M6 e6 ⟨rfl, rfl⟩
    refine sv_ret (ev_I (ev_int (ev_I (ev_var rfl) ev_c (wide_div (b := 200) (by decide) (by decide) (by decide) (by decide)))) (ev_var rfl) h0) fun v' G' M' e r => ?_
    show v' = .int (dv ⟨a, b, c⟩ n) ∧ M' = M.set i (dk, (dn ⟨a, b, c⟩ n).ho)
    unfold dv dn
    rw [if_neg ha, if_neg ha]
    exact r
theorem ok__law_column (T : Txt K mg) : FnOk P w K mg base CX0 2 T.a__law_column T.fd__law_column ["deck", "base", "rows"] (spec lcolPre (lcolPost K)) := by
  refine fn_sv T.F__law_column sc__law_column (fun x G M vs h => by obtain ⟨rfl, _⟩ := h; rfl) fun cdv A outer s H E hr => ⟨_, (pss_cons (ps_set (i := 3) sc__law_column.nd rfl (Or.inl rfl) (pe_call (ok__law_draw T) (hr.mono (by decide)) (by rfl) T.m__law_draw T.F__law_draw.kp T.b__law_draw .nil pass0 (pa_cons (pv 0) (pa_cons (pe_int) pa_nil)))) (pss_cons (ps_setLc (i := 4) (own := [("j", 5)]) (g := gName 5) (tt := tYes) rfl sc__law_column.nd rfl rfl (sw_true rfl rfl rfl (by decide +kernel)) (pi_range1 (by rfl) T.n_range (pa_cons (pv 2) pa_nil)) (blkOk_by (N := ["deck", "base", "rows", "way", "figures", "j"]) (sc := defScope s__law_column) (by decide +kernel)) (fun _ _ _ _ _ => pg_name (i := 5) sc__law_column.nd rfl (Or.inl rfl)) (fun _ _ _ _ _ => pts_nil) (fun _ _ _ _ _ => pe_call (ok__law_draw T) (hr.mono (by decide)) (by rfl) T.m__law_draw T.F__law_draw.kp T.b__law_draw .nil pass0 (pa_cons (pv 0) (pa_cons (pv 1) pa_nil)))) (pss_cons (ps_if (pt_cmpR op_eq (pv 3) (pe_int) (nomark _)) (pss_one (ps_setLc (i := 4) (own := [("j", 5)]) (g := gName 5) (tt := tYes) rfl sc__law_column.nd rfl rfl (sw_true rfl rfl rfl (by decide +kernel)) (pi_range1 (by rfl) T.n_range (pa_cons (pv 2) pa_nil)) (blkOk_by (N := ["deck", "base", "rows", "way", "figures", "j"]) (sc := defScope s__law_column) (by decide +kernel)) (fun _ _ _ _ _ => pg_name (i := 5) sc__law_column.nd rfl (Or.inl rfl)) (fun _ _ _ _ _ => pts_nil) (fun _ _ _ _ _ => pe_int))) (pss_nil)) (pss_cons (ps_if (pt_cmpR op_eq (pv 3) (pe_int) (nomark _)) (pss_one (ps_setLc (i := 4) (own := [("j", 5)]) (g := gName 5) (tt := tYes) rfl sc__law_column.nd rfl rfl (sw_true rfl rfl rfl (by decide +kernel)) (pi_range1 (by rfl) T.n_range (pa_cons (pv 2) pa_nil)) (blkOk_by (N := ["deck", "base", "rows", "way", "figures", "j"]) (sc := defScope s__law_column) (by decide +kernel)) (fun _ _ _ _ _ => pg_name (i := 5) sc__law_column.nd rfl (Or.inl rfl)) (fun _ _ _ _ _ => pts_nil) (fun _ _ _ _ _ => pe_op op_sub (pv 1) (pe_int)))) (pss_nil)) (pss_one (ps_ret (pe_callTy (k_tup (K := K) rfl) (by rfl) T.n_tuple (by decide +kernel) (pa_cons (pv 4) pa_nil)))))))), ?_⟩
  rintro ⟨dk, i, D, b, r⟩ G M vs ⟨rfl, (b0 : 0 < b), (b1 : b < 2 ^ 200), (r0 : 0 ≤ r), (r1 : r ≤ 1000), (hi : M[i]? = some (dk, D.ho))⟩
  have hset : ∀ (o : HO), (M.set i (dk, o))[i]? = some (dk, o) := fun o => by rw [List.getElem?_set_self (List.getElem?_eq_some_iff.mp hi).1]
  refine sv_let (ev_draw i (ea_cons (ev_var rfl) (ea_cons ev_c ea_nil)) hi (by decide) (by decide)) ?_
  rintro _ G1 M1 e1 ⟨rfl, rfl⟩
  refine sv_let (Ev.frz (ev_lcR (K := K) (nn := r) (fun _ => true) (fun j => M.set i (dk, (drawsD (dn D 5) b j).ho)) (fun j => .int (dv (drawsD (dn D 5) b j) b)) (ea_cons (ev_var rfl) ea_nil) (by omega) (by omega) (fun _ _ _ _ => et_yes) (fun j G' hj e _ => ?_) (fun _ z => by cases z) (fun _ => rfl))) ?_
  · have := ev_draw (σ := [some (.ref dk), some (.int b), some (.int r), some (.int (dv D 5)), none, some (.int (0 + (j : Int)))]) (G := G') (E := E0) i (ea_cons (ev_var (k := 0) rfl) (ea_cons (ev_var (k := 1) rfl) ea_nil)) (hset (drawsD (dn D 5) b j).ho) b0 b1
    rw [List.set_set] at this
    exact ev_iD this
  rintro v2 G2 M2 e2 ⟨h2, rfl⟩
  rw [kept_all] at h2
  have h2' : Dp K G2 v2 (.list ((drawsV (dn D 5) b r.toNat).map PyData.int)) := by
    rw [drawsV, List.map_map]
    exact h2
  have hz : ∀ (x : Int), kept r.toNat (fun _ => true) (fun _ => PyData.int x) = (List.replicate r.toNat x).map PyData.int := fun x => by
    rw [kept_all, List.map_replicate]
    apply List.ext_getElem?
    intro k
    rw [List.getElem?_map]
    by_cases hk : k < r.toNat
    · rw [List.getElem?_range hk, List.getElem?_replicate, if_pos hk]
      rfl
    · rw [List.getElem?_eq_none (by simp; omega), List.getElem?_eq_none (by simp; omega)]
      rfl
  -- the first choice
  refine sv_seq (N := fun G' σ' M' => M' = M.set i (dk, (colDk D b r).ho) ∧ ∃ v3, σ' = [some (.ref dk), some (.int b), some (.int r), some (.int (dv D 5)), some v3, none] ∧ Dp K G' v3 (.list ((if dv D 5 = 0 then List.replicate r.toNat 0 else drawsV (dn D 5) b r.toNat).map PyData.int))) (sv_if (et_test (ev_eqI (ev_var rfl) ev_c)) (fun G3 e3 hb => ?_) fun G3 e3 hb => ?_) ?_
  · rw [if_pos (of_decide_eq_true hb)]
    refine sv_set (Ev.frz (ev_lcR (K := K) (nn := r) (fun _ => true) (fun _ => M.set i (dk, (drawsD (dn D 5) b r.toNat).ho)) (fun j => .int 0) (ea_cons (ev_var rfl) ea_nil) (by omega) (by omega) (fun _ _ _ _ => et_yes) (fun j G' hj e _ => ev_iD ev_c) (fun _ _ => rfl) (fun _ => rfl))) ?_
    rintro v3 G4 M4 e4 ⟨h4, rfl⟩
    rw [hz] at h4
    exact ⟨rfl, v3, rfl, h4⟩
  · rw [if_neg (of_decide_eq_false hb)]
    exact sv_next fun G4 e4 => ⟨rfl, v2, rfl, dm h2' (e3.trans e4)⟩
  rintro G5 σ5 M5 e5 ⟨rfl, v5, rfl, h5⟩
  refine sv_seq (N := fun G' σ' M' => M' = M.set i (dk, (colDk D b r).ho) ∧ ∃ v3, σ' = [some (.ref dk), some (.int b), some (.int r), some (.int (dv D 5)), some v3, none] ∧ Dp K G' v3 (.list ((colOf D b r).map PyData.int))) (sv_if (et_test (ev_eqI (ev_var rfl) ev_c)) (fun G3 e3 hb => ?_) fun G3 e3 hb => ?_) ?_
  · unfold colOf
    rw [if_pos (of_decide_eq_true hb)]
    refine sv_set (Ev.frz (ev_lcR (K := K) (nn := r) (fun _ => true) (fun _ => M.set i (dk, (colDk D b r).ho)) (fun j => .int (b - 1)) (ea_cons (ev_var rfl) ea_nil) (by omega) (by omega) (fun _ _ _ _ => et_yes) (fun j G' hj e _ => ev_iD (ev_I0 (ev_var rfl) ev_c)) (fun _ _ => rfl) (fun _ => rfl))) ?_
    rintro v3 G4 M4 e4 ⟨h4, rfl⟩
    rw [hz] at h4
    exact ⟨rfl, v3, rfl, h4⟩
  · unfold colOf
    rw [if_neg (of_decide_eq_false hb)]
    exact sv_next fun G4 e4 => ⟨rfl, v5, rfl, dm h5 (e3.trans e4)⟩
  rintro G6 σ6 M6 e6 ⟨rfl, v6, rfl, h6⟩
  exact sv_ret (ev_tupD (K := K) (ev_varP rfl h6)) fun v' G' M' e r => r
theorem ok__law_columns (T : Txt K mg) : FnOk P w K mg base CX0 3 T.a__law_columns T.fd__law_columns ["deck", "base", "rows", "most"] (spec lcolsPre (lcolsPost K)) := by
  refine fn_sv T.F__law_columns sc__law_columns (fun x G M vs h => by obtain ⟨rfl, _⟩ := h; rfl) fun cdv A outer s H E hr => ⟨_, (pss_cons (ps_set (i := 4) sc__law_columns.nd rfl (Or.inl rfl) (pe_call (ok__law_draw T) (hr.mono (by decide)) (by rfl) T.m__law_draw T.F__law_draw.kp T.b__law_draw .nil pass0 (pa_cons (pv 0) (pa_cons (pe_int) pa_nil)))) (pss_cons (ps_if (pt_cmpR op_eq (pe_call (ok__law_draw T) (hr.mono (by decide)) (by rfl) T.m__law_draw T.F__law_draw.kp T.b__law_draw .nil pass0 (pa_cons (pv 0) (pa_cons (pe_int) pa_nil))) (pe_int) (nomark _)) (pss_one (ps_set (i := 4) sc__law_columns.nd rfl (Or.inl rfl) (pe_call (ok__law_draw T) (hr.mono (by decide)) (by rfl) T.m__law_draw T.F__law_draw.kp T.b__law_draw .nil pass0 (pa_cons (pv 0) (pa_cons (pe_op op_add (pv 3) (pe_int)) pa_nil))))) (pss_nil)) (pss_one (ps_ret (pe_lc (own := [("i", 5)]) (g := gName 5) (tt := tYes) rfl sc__law_columns.nd (pi_range1 (by rfl) T.n_range (pa_cons (pv 4) pa_nil)) (blkOk_by (N := ["deck", "base", "rows", "most", "many", "i"]) (sc := defScope s__law_columns) (by decide +kernel)) (fun _ _ _ _ _ => pg_name (i := 5) sc__law_columns.nd rfl (Or.inl rfl)) (fun _ _ _ _ _ => pts_nil) (fun _ _ _ _ _ => pe_call (ok__law_column T) (hr.mono (by decide)) (by rfl) T.m__law_column T.F__law_column.kp T.b__law_column .nil pass0 (pa_cons (pv 0) (pa_cons (pv 1) (pa_cons (pv 2) pa_nil))))))))), ?_⟩
  rintro ⟨dk, i, D, b, r, most⟩ G M vs ⟨rfl, (b0 : 0 < b), (b1 : b < 2 ^ 200), (r0 : 0 ≤ r), (r1 : r ≤ 1000), (m0 : 0 ≤ most), (m1 : most ≤ 1000), (hi : M[i]? = some (dk, D.ho))⟩
  have hset : ∀ (o : HO), (M.set i (dk, o))[i]? = some (dk, o) := fun o => by rw [List.getElem?_set_self (List.getElem?_eq_some_iff.mp hi).1]
  refine sv_let (ev_draw i (ea_cons (ev_var rfl) (ea_cons ev_c ea_nil)) hi (by decide) (by decide)) ?_
  rintro _ G1 M1 e1 ⟨rfl, rfl⟩
  have hif := ev_draw (σ := [some (.ref dk), some (.int b), some (.int r), some (.int most), some (.int (dv D 7)), none]) (G := G1) (E := E0) i (ea_cons (ev_var (k := 0) rfl) (ea_cons (ev_c (x := .int 3)) ea_nil)) (hset (dn D 7).ho) (by decide) (by decide)
  rw [List.set_set] at hif
  refine sv_seq (N := fun G' σ' M' => σ' = [some (.ref dk), some (.int b), some (.int r), some (.int most), some (.int (manyOf D most)), none] ∧ M' = M.set i (dk, (manyDk D most).ho)) (sv_if (et_test (ev_eqI hif ev_c)) (fun G3 e3 hb => ?_) fun G3 e3 hb => ?_) ?_
  · have hd := of_decide_eq_true hb
    have := ev_draw (σ := [some (.ref dk), some (.int b), some (.int r), some (.int most), some (.int (dv D 7)), none]) (G := G3) (E := E0) i (ea_cons (ev_var (k := 0) rfl) (ea_cons (ev_I0 (g := fun i j => V.int (i + j)) (ev_var (k := 3) (x := .int most) rfl) (ev_c (x := .int 1))) ea_nil)) (hset (dn (dn D 7) 3).ho) (by omega) (by omega)
    rw [List.set_set] at this
    refine sv_set this ?_
    rintro _ G4 M4 e4 ⟨rfl, rfl⟩
    unfold manyOf manyDk
    rw [if_pos hd, if_pos hd]
    exact ⟨rfl, rfl⟩
  · have hd := of_decide_eq_false hb
    refine sv_next fun G4 e4 => ?_
    unfold manyOf manyDk
    rw [if_neg hd, if_neg hd]
    exact ⟨rfl, rfl⟩
  rintro G5 σ5 M5 e5 ⟨rfl, rfl⟩
  have h0 := manyOf_lo (D := D) m0
  have h1 := manyOf_hi (D := D) m0
  refine sv_ret (ev_lcR (K := K) (nn := manyOf D most) (fun _ => true) (fun j => M.set i (dk, (colsDk (manyDk D most) b r j).ho)) (fun j => colD (colOf (colsDk (manyDk D most) b r j) b r)) (ea_cons (ev_var rfl) ea_nil) (by omega) (by omega) (fun _ _ _ _ => et_yes) (fun j G' hj e _ => ?_) (fun _ z => by cases z) (fun _ => rfl)) fun v' G' M' e r' => ?_
  · have := ev_lcol (K := K) (σ := [some (.ref dk), some (.int b), some (.int r), some (.int most), some (.int (manyOf D most)), some (.int (0 + (j : Int)))]) (G := G') (E := E0) i (ea_cons (ev_var (k := 0) rfl) (ea_cons (ev_var (k := 1) rfl) (ea_cons (ev_var (k := 2) rfl) ea_nil))) (hset (colsDk (manyDk D most) b r j).ho) b0 b1 r0 r1
    rw [List.set_set] at this
    exact this
  · rw [kept_all] at r'
    show own K ((colsOf D b r most).map colD) _ G' v' M'
    rw [colsOf, colsV, List.map_map]
    exact r'
theorem ok__law_deck (T : Txt K mg) : FnOk P w K mg base CX0 1 T.a__law_deck T.fd__law_deck ["cell"] (spec deckPre deckPost) := by
  refine fn_sv T.F__law_deck sc__law_deck (fun x G M vs h => by cases h; rfl) fun cdv A outer s H E hr => ⟨_, (pss_cons (ps_if (pt_cmpR op_ge (pv 0) (pe_op op_pow (pe_int) (pe_int)) (nomark _)) (pss_one (ps_ret (pe_lst (pa_cons (pe_op op_sub (pv 0) (pe_op op_pow (pe_int) (pe_int))) (pa_cons (pe_int) (pa_cons (pe_int) pa_nil)))))) (pss_nil)) (pss_one (ps_ret (pe_lst (pa_cons (pe_int) (pa_cons (pe_int) (pa_cons (pe_op op_add (pe_op op_mod (pe_callTy c_int (by rfl) T.n_int (by decide +kernel) (pa_cons (pv 0) pa_nil)) (pe_int)) (pe_int)) pa_nil))))))), ?_⟩
  rintro c G M vs rfl
  have hp : ∀ G' , Ev (tOp (rI CPow fun i j => .int (i ^ j.toNat)) (tC (.int 10)) (tC (.int 18))) (start ["cell"] [.int c]) G' M (isV (.int (10 ^ 18)) M) := fun G' => ev_I ev_c ev_c ⟨by decide, by decide, by decide⟩
  refine sv_ifs (et_test (ev_I0 (ev_var rfl) (hp _))) ?_ ?_
  · intro G1 e1 hb
    have hc : (10 : Int) ^ 18 ≤ c := of_decide_eq_true hb
    refine sv_ret (ev_lstI (xs := [.int (c - 10 ^ 18), .int 0, .int 1]) (ea_cons (ev_I0 (ev_var rfl) (hp _)) (ea_cons ev_c (ea_cons ev_c ea_nil))) (by show 3 ≤ 1000; decide)) fun v' G' M' e r => ?_
    show ∃ dk, v' = .ref dk ∧ M' = M ++ [(dk, (deckOf c).ho)]
    unfold deckOf
    rw [if_pos hc]
    exact r
  · intro G1 e1 hb
    have hc : ¬ (10 : Int) ^ 18 ≤ c := of_decide_eq_false hb
    refine sv_next fun G2 e2 => sv_ret (ev_lstI (xs := [.int 0, .int 0, .int (c % 2147483629 + 2)]) (ea_cons ev_c (ea_cons ev_c (ea_cons (ev_I0 (ev_I (ev_int (ev_var rfl)) ev_c (by decide)) ev_c) ea_nil))) (by show 3 ≤ 1000; decide)) fun v' G' M' e r => ?_
    show ∃ dk, v' = .ref dk ∧ M' = M ++ [(dk, (deckOf c).ho)]
    unfold deckOf
    rw [if_neg hc]
    exact r
theorem ok_Sheet___setitem__ (T : Txt K mg) : FnOk P w K mg base (L2.CX P w) 3 T.a_Sheet___setitem__ T.fd_Sheet___setitem__ ["self", "at", "worth"] (specX (setPre K T.c_Sheet) (setPost K) (setExc T.c_InvalidColumn)) := by
  refine fn_svX T.F_Sheet___setitem__ sc_Sheet___setitem__ (fun x G M vs h => by obtain ⟨rfl, _⟩ := h; rfl) fun cdv A outer s H E hr => ⟨_, (pss_cons (ps_if (pt_not (pt_val (pe_call (ok_is_column T) (hr.mono (by decide)) (by rfl) T.m_is_column T.F_is_column.kp T.b_is_column .nil pass0 (pa_cons (k_fld (K := K) rfl (pv 0) rfl) (pa_cons (k_fld (K := K) rfl (pv 0) rfl) (pa_cons (pv 2) pa_nil)))))) (pss_one (ps_raise rfl (takes_of rfl rfl rfl rfl) (pmk_own PySem.F.excBase_ValueError T.x_InvalidColumn T.m_InvalidColumn T.xk_InvalidColumn (raises_own T.xb_InvalidColumn T.xt_InvalidColumn) rfl))) (pss_nil)) (pss_one (ps_asg (pe_callTy (k_tup (K := K) rfl) (by rfl) T.n_tuple (by decide +kernel) (pa_cons (pv 2) pa_nil)) (pg_sub (k_fld (K := K) rfl (pv 0) rfl) (pv 1) set_list)))), ?_⟩
  rintro ⟨p, dx, l, n, b, r, xs, i, j, v, d⟩ G M vs ⟨rfl, (hp : At G M p _), (hl : M[n]? = some (l, .lst xs)), (hj : ixN xs.length i = some j), (hd : Dp K G v d), (hz : dlen d ≤ 100000)⟩
  refine sv_ifs (et_not (et_B (ev_col (K := K) (f := isCol) (ea_cons (ev_fld (ev_var rfl) hp T.cl_Sheet T.na_Sheet__base shF_b) (ea_cons (ev_fld (ev_var rfl) hp T.cl_Sheet T.na_Sheet__rows shF_r) (ea_cons (ev_varP rfl hd) ea_nil))) hz))) (fun G1 e1 hb => sv_raise fun G2 e2 => ?_) fun G1 e1 hb => sv_next fun G2 e2 => ?_
  · exact ⟨by simpa using hb, rfl, rfl, rfl⟩
  have hc : isCol b r d = true := by simpa using hb
  obtain ⟨c, rfl, _⟩ := isCol_of hc
  have e12 := e1.trans e2
  refine sv_setIxP (n := n) (ev_tupT (K := K) (ev_varP rfl (dm hd e12))) (ev_fld (ev_var rfl) (hp.ex e12) T.cl_Sheet T.na_Sheet__columns shF_c) (ev_var rfl) hl hj fun y G' e hy => ⟨hc, rfl, y, hy, rfl⟩
theorem setO_Sheet___setitem__ (T : Txt K mg) {X : Cx} (hP : X.prog = P := by rfl) (hw : X.w = w := by rfl) (hK : X.K = K := by rfl) (hm : X.mg = mg := by rfl) (hr : Room 3 X.A) : PSet X (rSetO T.c_Sheet (spec (setGPre K T.c_Sheet) (setPost K)) E0) := by
  subst hP hw hK hm
  exact set_own T.me_Sheet___setitem__ T.ns_Sheet (FnOk.calm (ok_Sheet___setitem__ T) (fun x G M vs h => h.1) (fun x G M vs c d G' M' h z => by
    have h1 := h.2
    have z1 := z.1
    rw [h1] at z1
    cases z1)) hr T.b_Sheet___setitem__ passL
theorem ok_Sheet_columns (T : Txt K mg) : FnOk P w K mg base CX0 1 T.a_Sheet_columns T.fd_Sheet_columns ["self"] (spec (shPre K T.c_Sheet) fun x M => own K (x.2.2.2.map colD) M) := by
  refine fn_sv T.F_Sheet_columns sc_Sheet_columns (fun x G M vs h => by obtain ⟨rfl, _⟩ := h; rfl) fun cdv A outer s H E hr => ⟨_, (pss_one (ps_ret (pe_callTy (k_list (K := K) rfl) (by rfl) T.n_list (by decide +kernel) (pa_cons (k_fld (K := K) rfl (pv 0) rfl) pa_nil)))), ?_⟩
  rintro ⟨p, b, r, cs⟩ G M vs ⟨rfl, dx, l, xs, h1, h2, h3⟩
  exact sv_ret (ev_listA (ev_fld (ev_var rfl) h1 T.cl_Sheet T.na_Sheet__columns shF_c) h2 h3) fun v' G' M' e r => r
theorem ok__law_is_integer (T : Txt K mg) : FnOk P w K mg base CX0 1 T.a__law_is_integer T.fd__law_is_integer ["found"] (spec (d1Pre K) (b1Post isInt)) := by
  refine fn_sv T.F__law_is_integer sc__law_is_integer (fun x G M vs h => by obtain ⟨v, rfl, _⟩ := h; rfl) fun cdv A outer s H E hr => ⟨_, (pss_one (ps_ret (pe_and (pe_callB (k_isi (K := K) rfl) (by rfl) T.n_isinstance (by decide +kernel) (pa_cons (pv 0) (pa_cons (pe_bltn (v := .ty "int") (by rfl) T.n_int (by decide +kernel) rfl) pa_nil))) (pe_one (pe_not (pe_callB (k_isi (K := K) rfl) (by rfl) T.n_isinstance (by decide +kernel) (pa_cons (pv 0) (pa_cons (pe_bltn (v := .ty "bool") (by rfl) T.n_bool (by decide +kernel) rfl) pa_nil)))))))), ?_⟩
  rintro d G M vs ⟨v, rfl, dv⟩
  refine sv_ret (ev_andV (ev_isi (.inl rfl) (ev_varP rfl dv)) fun h1 => ev_notV (ev_isi (.inr (.inl rfl)) (ev_varP rfl dv))) fun v' G' M' e r => ?_
  obtain ⟨rfl, rfl⟩ := r
  exact ⟨by rw [isInt_ty], rfl⟩
theorem ok__law_is_column (T : Txt K mg) : FnOk P w K mg base CX0 2 T.a__law_is_column T.fd__law_is_column ["found", "due"] (spec (col2Pre K) (d2Post isCol2)) := by
  refine fn_sv T.F__law_is_column sc__law_is_column (fun x G M vs h => by obtain ⟨v, u, rfl, _⟩ := h; rfl) fun cdv A outer s H E hr => ⟨_, (pss_cons (ps_if (PW.pt (pw_or (pt_not (pt_val (pe_callB (k_isi (K := K) rfl) (by rfl) T.n_isinstance (by decide +kernel) (pa_cons (pv 0) (pa_cons (pe_bltn (v := .ty "tuple") (by rfl) T.n_tuple (by decide +kernel) rfl) pa_nil))))) (pw_or1 (pt_cmpR (k_neD (K := K) rfl hr.units) (pv 0) (pv 1) (nomark _))))) (pss_one (ps_ret (pe_bl))) (pss_nil)) (pss_one (ps_ret (pe_callB (k_all (K := K) rfl rfl) (by rfl) T.n_all (by decide +kernel) (pa_cons (pe_lc (own := [("figure", 2)]) (g := gName 2) (tt := tYes) rfl sc__law_is_column.nd (pi_tup (pv 0)) (blkOk_by (N := ["found", "due", "figure"]) (sc := defScope s__law_is_column) (by decide +kernel)) (fun _ _ _ _ _ => pg_name (i := 2) sc__law_is_column.nd rfl (Or.inl rfl)) (fun _ _ _ _ _ => pts_nil) (fun _ _ _ _ _ => pe_call (ok__law_is_integer T) (hr.mono (by decide)) (by rfl) T.m__law_is_integer T.F__law_is_integer.kp T.b__law_is_integer .nil pass0 (pa_cons (pv 2) pa_nil))) pa_nil))))), ?_⟩
  rintro ⟨d, e⟩ G M vs ⟨v, u, rfl, (dv : Dp K G v d), (du : Dp K G u e), s1, s2, hz⟩
  refine sv_ifs (et_or (b := !PyData.eqv d e) (et_not (et_B (ev_isi (.inr (.inr (.inl rfl))) (ev_varP rfl dv)))) fun h => et_test (ev_neD (ev_varP rfl dv) (ev_varP rfl du) s1 s2)) ?_ ?_
  · intro G1 e1 hb
    refine sv_ret ev_c fun v' G' M' e' r => ?_
    obtain ⟨rfl, rfl⟩ := r
    refine ⟨?_, rfl⟩
    show V.bl false = V.bl (isCol2 d e)
    cases d with
    | tuple ds =>
      rw [isTy_tup] at hb
      have : PyData.eqv (.tuple ds) e = false := by simpa using hb
      simp [isCol2, this]
    | _ => rfl
  · intro G1 e1 hb
    refine sv_next fun G2 e2 => ?_
    have hb' : isTy d "tuple" = true ∧ PyData.eqv d e = true := by simpa using hb
    obtain ⟨ds, rfl⟩ := tup_of hb'.1
    refine sv_ret (ev_allT (K := K) (f := isInt) (ev_varP rfl (dm dv (e1.trans e2))) hz (fun i d x G' hd e dx => ev_d1 (K := K) (ev_varP rfl dx)) (fun _ => rfl)) fun v' G' M' e r' => ?_
    obtain ⟨rfl, rfl⟩ := r'
    refine ⟨?_, rfl⟩
    show V.bl _ = V.bl (isCol2 (.tuple ds) _)
    simp [isCol2, hb'.2]
theorem ok__law_are_columns (T : Txt K mg) : FnOk P w K mg base CX0 3 T.a__law_are_columns T.fd__law_are_columns ["found", "due"] (spec (arePre K) arePost) := by
  refine fn_sv T.F__law_are_columns sc__law_are_columns (fun x G M vs h => by obtain ⟨rfl, _⟩ := h; rfl) fun cdv A outer s H E hr => ⟨_, (pss_cons (ps_if (PW.pt (pw_or (pt_not (pt_val (pe_callB (k_isi (K := K) rfl) (by rfl) T.n_isinstance (by decide +kernel) (pa_cons (pv 0) (pa_cons (pe_bltn (v := .ty "list") (by rfl) T.n_list (by decide +kernel) rfl) pa_nil))))) (pw_or1 (pt_cmpR op_ne (pe_callB (k_len (K := K) rfl) (by rfl) T.n_len (by decide +kernel) (pa_cons (pv 0) pa_nil)) (pe_callB (k_len (K := K) rfl) (by rfl) T.n_len (by decide +kernel) (pa_cons (pv 1) pa_nil)) (nomark _))))) (pss_one (ps_ret (pe_bl))) (pss_nil)) (pss_one (ps_ret (pe_callB (k_all (K := K) rfl rfl) (by rfl) T.n_all (by decide +kernel) (pa_cons (pe_lc (own := [("i", 2)]) (g := gName 2) (tt := tYes) rfl sc__law_are_columns.nd (pi_range1 (by rfl) T.n_range (pa_cons (pe_callB (k_len (K := K) rfl) (by rfl) T.n_len (by decide +kernel) (pa_cons (pv 1) pa_nil)) pa_nil)) (blkOk_by (N := ["found", "due", "i"]) (sc := defScope s__law_are_columns) (by decide +kernel)) (fun _ _ _ _ _ => pg_name (i := 2) sc__law_are_columns.nd rfl (Or.inl rfl)) (fun _ _ _ _ _ => pts_nil) (fun _ _ _ _ _ => pe_call (ok__law_is_column T) (hr.mono (by decide)) (by rfl) T.m__law_is_column T.F__law_is_column.kp T.b__law_is_column .nil pass0 (pa_cons (pe_ix (k_ixL (K := K) rfl) (pv 0) (pv 2) (fun _ _ => rfl)) (pa_cons (pe_ix (k_ixL (K := K) rfl) (pv 1) (pv 2) (fun _ _ => rfl)) pa_nil)))) pa_nil))))), ?_⟩
  rintro ⟨a, b, fs, cs⟩ G M vs ⟨rfl, (h1 : ColsAt K G M a fs), (h2 : ColsAt K G M b cs), (l1 : fs.length ≤ 100000), (l2 : cs.length ≤ 100000), (l3 : ∀ c ∈ fs, c.length ≤ 100000)⟩
  obtain ⟨xs, ax, dx⟩ := h1.ex
  obtain ⟨ys, ay, dy⟩ := h2.ex
  refine sv_ifs (et_or (b := !decide ((xs.length : Int) = (ys.length : Int))) (et_not (et_B (ev_isiA (.inr (.inr (.inr (.inl rfl)))) (ev_var rfl) h1.da))) fun h => et_test (ev_neI (ev_lenA (ev_var rfl) ax) (ev_lenA (ev_var rfl) ay))) ?_ ?_
  · intro G1 e1 hb
    refine sv_ret ev_c fun v' G' M' e r => ?_
    obtain ⟨rfl, rfl⟩ := r
    refine ⟨?_, rfl⟩
    show V.bl false = V.bl (decide (fs = cs))
    rw [decide_eq_false]
    intro z
    subst z
    rw [isTy_lst, dpa_len dx, dpa_len dy] at hb
    simp at hb
  · intro G1 e1 hb
    refine sv_next fun G2 e2 => ?_
    have hl : fs.length = cs.length := by
      rw [isTy_lst, dpa_len dx, dpa_len dy] at hb
      have : (fs.length : Int) = cs.length := by simpa using hb
      omega
    have e12 := e1.trans e2
    have hly : ys.length = cs.length := by rw [dpa_len dy, List.length_map]
    refine sv_ret (ev_allR (K := K) (n := (ys.length : Int)) (f := fun i => isCol2 (colD ((fs[i]?).getD [])) (colD ((cs[i]?).getD []))) (ea_cons (ev_lenA (ev_var rfl) (ay.ex e12)) ea_nil) (by omega) (by omega) (fun i G' hi e => ?_) (fun _ => rfl)) fun v' G' M' e r => ?_
    · have hic : i < cs.length := by omega
      have hif : i < fs.length := by omega
      rw [List.getElem?_eq_getElem hic, List.getElem?_eq_getElem hif]
      obtain ⟨v, hv, dv⟩ := dpa_at (i := i) (d := colD fs[i]) dx (by rw [List.getElem?_map, List.getElem?_eq_getElem hif]; rfl)
      obtain ⟨u, hu, du⟩ := dpa_at (i := i) (d := colD cs[i]) dy (by rw [List.getElem?_map, List.getElem?_eq_getElem hic]; rfl)
      have ee := e12.trans e
      refine ev_col2 (K := K) (f := isCol2) (ea_cons (Ev.toDp (ev_ixL (x := v) (ev_var rfl) (ev_var rfl) (ax.ex ee) ?_) (dm dv ee)) (ea_cons (Ev.toDp (ev_ixL (x := u) (ev_var rfl) (ev_var rfl) (ay.ex ee) ?_) (dm du ee)) ea_nil)) (sh_col (n := 0) _).ok (sh_col (n := 0) _).ok ?_
      · rw [Int.zero_add]
        exact atI_nat hv
      · rw [Int.zero_add]
        exact atI_nat hu
      · rw [dlen_colD]
        exact l3 _ (List.getElem_mem hif)
    · obtain ⟨rfl, rfl⟩ := r
      refine ⟨?_, rfl⟩
      show _ = V.bl (decide (fs = cs))
      rw [Int.toNat_natCast, hly, all_are hl]
theorem ok__law_right (T : Txt K mg) : FnOk P w K mg base CX0 4 T.a__law_right T.fd__law_right ["sheet", "base", "rows", "columns"] (spec (rightGPre K T.c_Sheet) rightGPost) := by
  refine fn_sv T.F__law_right sc__law_right (fun x G M vs h => by obtain ⟨cv, rfl, _⟩ := h; rfl) fun cdv A outer s H E hr => ⟨_, (pss_one (ps_ret (pe_and (pe_cmpR op_eq (pe_prop (pv 0) T.cl_Sheet T.p_Sheet_base (ok_Sheet_base T) (hr.mono (by decide)) T.b_Sheet_base .nil pass0 rfl) (pv 1) (nomark _)) (pe_and (pe_cmpR op_eq (pe_prop (pv 0) T.cl_Sheet T.p_Sheet_rows (ok_Sheet_rows T) (hr.mono (by decide)) T.b_Sheet_rows .nil pass0 rfl) (pv 2) (nomark _)) (pe_one (pe_call (ok__law_are_columns T) (hr.mono (by decide)) (by rfl) T.m__law_are_columns T.F__law_are_columns.kp T.b__law_are_columns .nil pass0 (pa_cons (pe_prop (pv 0) T.cl_Sheet T.p_Sheet_columns (ok_Sheet_columns T) (hr.mono (by decide)) T.b_Sheet_columns .nil pass0 rfl) (pa_cons (pv 3) pa_nil)))))))), ?_⟩
  rintro ⟨p, b, r, cs⟩ G M vs ⟨cv, rfl, (hS : ShAt K T.c_Sheet G M p b r cs), (hC : Dp K G cv (.list (cs.map colD))), (g : GoodSh b r cs)⟩
  obtain ⟨dx, l, xs, h1, h2, h3⟩ := hS
  have hS : ShAt K T.c_Sheet G M p b r cs := ⟨dx, l, xs, h1, h2, h3⟩
  have gl := g.len
  refine sv_ret (ev_andV (a := true) (b := true) ?_ fun _ => ev_andV (a := true) (b := true) ?_ fun _ => ?_) fun v' G' M' e r => r
  · have := ev_eqI (ev_prop (pre := shPre K T.c_Sheet) (post := fun x M => isV (.int x.2.1) M) (E := E0) (p, b, r, cs) (ev_var (σ := start ["sheet", "base", "rows", "columns"] [.ref p, .int b, .int r, cv]) (k := 0) rfl) h1 fun G1 e1 => ⟨rfl, hS.ex e1⟩) (ev_var (k := 1) (x := .int b) rfl)
    rw [decide_eq_true rfl] at this
    exact this
  · have := ev_eqI (ev_prop (pre := shPre K T.c_Sheet) (post := fun x M => isV (.int x.2.2.1) M) (E := E0) (p, b, r, cs) (ev_var (σ := start ["sheet", "base", "rows", "columns"] [.ref p, .int b, .int r, cv]) (k := 0) rfl) h1 fun G1 e1 => ⟨rfl, hS.ex e1⟩) (ev_var (k := 2) (x := .int r) rfl)
    rw [decide_eq_true rfl] at this
    exact this
  · have := ev_areD (K := K) (E' := E0) (fs := cs) (cs := cs) (ea_cons (Ev.frz (ev_prop (pre := shPre K T.c_Sheet) (post := fun x M => own K (x.2.2.2.map colD) M) (E := E0) (p, b, r, cs) (ev_var (σ := start ["sheet", "base", "rows", "columns"] [.ref p, .int b, .int r, cv]) (k := 0) rfl) h1 fun G1 e1 => ⟨rfl, hS.ex e1⟩)) (ea_cons (ev_varP (k := 3) rfl hC) ea_nil)) (by omega) (by omega) fun c hc => by have := g.clen hc; omega
    rw [decide_eq_true rfl] at this
    exact this
theorem ok__law_own (T : Txt K mg) : FnOk P w K mg base CX0 5 T.a__law_own T.fd__law_own ["sheet", "base", "rows", "columns", "others"] (spec (ownPre K T.c_Sheet) ownPost) := by
  refine fn_sv T.F__law_own sc__law_own (fun x G M vs h => by obtain ⟨cv, ov, rfl, _⟩ := h; rfl) fun cdv A outer s H E hr => ⟨_, (pss_cons (ps_if (pt_cmpR (k_neD (K := K) rfl hr.units) (pv 3) (pe_lst pa_nil) (nomark _)) (pss_cons (ps_asg (pe_callTy (k_tup (K := K) rfl) (by rfl) T.n_tuple (by decide +kernel) (pa_cons (pe_lc (own := [("figure", 7)]) (g := gName 7) (tt := tYes) rfl sc__law_own.nd (pi_tup (pe_ix (k_ixL (K := K) rfl) (pv 3) (pe_int) (fun _ _ => rfl))) (blkOk_by (N := ["sheet", "base", "rows", "columns", "others", "other", "due", "figure", "j"]) (sc := defScope s__law_own) (by decide +kernel)) (fun _ _ _ _ _ => pg_name (i := 7) sc__law_own.nd rfl (Or.inl rfl)) (fun _ _ _ _ _ => pts_nil) (fun _ _ _ _ _ => pe_op op_sub (pe_op op_sub (pv 1) (pe_int)) (pv 7))) pa_nil)) (pg_sub (pv 0) (pe_int) (setO_Sheet___setitem__ T (hr := hr.mono (by decide))))) (pss_one (ps_asg (pe_callTy (k_tup (K := K) rfl) (by rfl) T.n_tuple (by decide +kernel) (pa_cons (pe_lc (own := [("j", 8)]) (g := gName 8) (tt := tYes) rfl sc__law_own.nd (pi_range1 (by rfl) T.n_range (pa_cons (pv 2) pa_nil)) (blkOk_by (N := ["sheet", "base", "rows", "columns", "others", "other", "due", "figure", "j"]) (sc := defScope s__law_own) (by decide +kernel)) (fun _ _ _ _ _ => pg_name (i := 8) sc__law_own.nd rfl (Or.inl rfl)) (fun _ _ _ _ _ => pts_nil) (fun _ _ _ _ _ => pe_int)) pa_nil)) (pg_sub (pv 0) (pe_op op_sub (pe_callB (k_len (K := K) rfl) (by rfl) T.n_len (by decide +kernel) (pa_cons (pv 3) pa_nil)) (pe_int)) (setO_Sheet___setitem__ T (hr := hr.mono (by decide))))))) (pss_nil)) (pss_one (ps_ret (pe_callB (k_all (K := K) rfl rfl) (by rfl) T.n_all (by decide +kernel) (pa_cons (pe_lc (own := [("other", 5), ("due", 6)]) (g := gTup K 2 (gCons (gName 5) (gCons (gName 6) (gNil)))) (tt := tYes) rfl sc__law_own.nd (pi_list (pv 4)) (blkOk_by (N := ["sheet", "base", "rows", "columns", "others", "other", "due", "figure", "j"]) (sc := defScope s__law_own) (by decide +kernel)) (fun _ _ _ _ _ => k_gtup (K := K) rfl rfl (pgs_cons (pg_name (i := 5) sc__law_own.nd rfl (Or.inl rfl)) (pgs_cons (pg_name (i := 6) sc__law_own.nd rfl (Or.inl rfl)) pgs_nil))) (fun _ _ _ _ _ => pts_nil) (fun _ _ _ _ _ => pe_call (ok__law_right T) (hr.mono (by decide)) (by rfl) T.m__law_right T.F__law_right.kp T.b__law_right .nil pass0 (pa_cons (pv 5) (pa_cons (pv 1) (pa_cons (pv 2) (pa_cons (pv 6) pa_nil)))))) pa_nil))))), ?_⟩
  rintro ⟨p, dx, l, n, b, r, xs, cs, os⟩ G M vs ⟨cv, ov, rfl, (hp : At G M p _), (hl : M[n]? = some (l, .lst xs)), (hxl : xs.length = cs.length), (g : GoodSh b r cs), (hcv : Dp K G cv (.list (cs.map colD))), (hov : OthF K os G ov), (hpG : G p = some _), (hos : ∀ q cs', (q, cs') ∈ os → GoodSh b r cs' ∧ ∀ ys, ShAt K T.c_Sheet G (M.set n (l, .lst ys)) q b r cs')⟩
  have hnl : n < M.length := (List.getElem?_eq_some_iff.mp hl).1
  have gb := g.b2
  have gb' := g.b12
  have gr := g.r1
  have gr' := g.r4
  refine sv_seq (N := fun G' σ' M' => σ' = [some (.ref p), some (.int b), some (.int r), some cv, some ov, none, none, none, none] ∧ ∃ ys, M' = M.set n (l, .lst ys)) (sv_if (a := !decide (cs = [])) (M1 := M) ?_ (fun G1 e1 hb => ?_) fun G1 e1 hb => sv_next fun G2 e2 => ⟨rfl, xs, ?_⟩) ?_
  · have := ev_neD (K := K) (d := .list (cs.map colD)) (e := .list (([] : List (List Int)).map colD)) (ev_varP (σ := start ["sheet", "base", "rows", "columns", "others", "figure", "j", "other", "due"] [.ref p, .int b, .int r, cv, ov]) (G := G) (M := M) (k := 3) rfl hcv) (Ev.frz (ev_lstO (K := K) (ds := []) ea_nil (by decide))) (sh_cols (n := 0) cs).ok (sh_cols (n := 0) []).ok
    rw [eqv_cols] at this
    exact et_test this
  · have hne : cs ≠ [] := by simpa using hb
    obtain ⟨c, cs1, rfl⟩ := List.exists_cons_of_ne_nil hne
    have hcv1 := dm hcv e1
    have hc : GoodCol b r c := g.col c List.mem_cons_self
    have hcl : c.length ≤ 4 := g.clen List.mem_cons_self
    have k1 : kept (c.map PyData.int).length (fun _ => true) (fun i => .int (b - 1 - ((c[i]?).getD 0))) = (c.map fun f => b - 1 - f).map .int := by
      refine kept_ext (by simp) fun i d hd => ?_
      rw [List.getElem?_map, List.getElem?_map] at hd
      cases q : c[i]? with
      | none => rw [q] at hd; cases hd
      | some z => rw [q] at hd; cases hd; rfl
    have g1 : GoodCol b r (c.map fun f => b - 1 - f) := ⟨by rw [List.length_map]; exact hc.1, fun f hf => by
      obtain ⟨z, hz, rfl⟩ := List.mem_map.mp hf
      have := hc.2 z hz
      omega⟩
    have g2 : GoodCol b r (List.replicate r.toNat 0) := ⟨by rw [List.length_replicate]; omega, fun f hf => by rw [List.eq_of_mem_replicate hf]; omega⟩
    have hx0 : ixN xs.length 0 = some 0 := by
      rw [hxl]
      simp [ixN]
    refine sv_seq (N := fun G' σ' M' => σ' = [some (.ref p), some (.int b), some (.int r), some cv, some ov, none, none, none, none] ∧ ∃ y, M' = M.set n (l, .lst (xs.set 0 y))) (sv_setG (pre := setGPre K T.c_Sheet) (post := setPost K) (p := p) (y := .int 0) (fun v => ⟨p, dx, l, n, b, r, xs, 0, 0, v, colD (c.map fun f => b - 1 - f)⟩) (Pp := fun G v => Dp K G v (colD (c.map fun f => b - 1 - f))) (M1 := M) ?_ (ev_var rfl) ev_c (hp.ex e1) (fun v G2 e2 hv => ⟨⟨rfl, hp.ex (e1.trans e2), hl, hx0, hv, ?_⟩, isCol_good g1⟩) fun v w' G2 M2 e2 z => ?_) ?_
    · refine ev_tupD (K := K) (Ev.frz ?_)
      rw [← k1]
      refine ev_lcT (K := K) (fun _ => true) (fun _ => M) _ ?_ (by rw [List.length_map]; omega) (fun _ _ _ _ _ _ _ => et_yes) (fun i d x G' hd e dx _ => ?_) (fun _ _ => rfl) (fun _ => rfl)
      · exact ev_ixDL (K := K) (ev_varP rfl hcv1) ev_c (atI_int (by decide) rfl)
      · rw [List.getElem?_map] at hd
        cases q : c[i]? with
        | none => rw [q] at hd; cases hd
        | some z =>
          rw [q] at hd
          cases hd
          obtain rfl := dp_int dx
          exact ev_iD (ev_I0 (ev_I0 (ev_var rfl) ev_c) (ev_var rfl))
    · rw [dlen_colD, List.length_map]
      omega
    · obtain ⟨_, _, y, _, rfl⟩ := z
      exact ⟨rfl, y, rfl⟩
    rintro G3 σ3 M3 e3 ⟨rfl, y, rfl⟩
    have e13 := e1.trans e3
    have hx1 : ixN (xs.set 0 y).length (((((c :: cs1).map colD).length : Int)) - 1) = some cs1.length := by
      rw [List.length_set, hxl]
      simp [ixN]
      omega
    refine sv_setG (pre := setGPre K T.c_Sheet) (post := setPost K) (p := p) (y := .int ((((c :: cs1).map colD).length : Int) - 1)) (fun v => ⟨p, dx, l, n, b, r, xs.set 0 y, (((c :: cs1).map colD).length : Int) - 1, cs1.length, v, colD (List.replicate r.toNat 0)⟩) (Pp := fun G v => Dp K G v (colD (List.replicate r.toNat 0))) (M1 := M.set n (l, .lst (xs.set 0 y))) ?_ (ev_var rfl) (ev_I0 (ev_lenL (K := K) (ev_varP rfl (dm hcv e13))) ev_c) (At.G (e13 _ _ hpG)) (fun v G2 e2 hv => ⟨⟨rfl, At.G ((e13.trans e2) _ _ hpG), by rw [List.getElem?_set_self hnl], hx1, hv, ?_⟩, isCol_good g2⟩) fun v w' G2 M2 e2 z => ?_
    · refine ev_tupD (K := K) (Ev.frz ?_)
      rw [← kept_const]
      exact ev_lcR (K := K) (nn := r) (fun _ => true) (fun _ => M.set n (l, .lst (xs.set 0 y))) (fun j => .int 0) (ea_cons (ev_var rfl) ea_nil) (by omega) (by omega) (fun _ _ _ _ => et_yes) (fun j G' hj e _ => ev_iD ev_c) (fun _ _ => rfl) (fun _ => rfl)
    · rw [dlen_colD, List.length_replicate]
      omega
    · obtain ⟨_, _, y', _, rfl⟩ := z
      exact ⟨rfl, _, by rw [List.set_set]⟩
  · apply List.ext_getElem?
    intro i
    rw [List.getElem?_set]
    split
    · rename_i h
      subst h
      exact hl
    · rfl
  rintro G3 σ3 M3 e3 ⟨rfl, ys, rfl⟩
  refine sv_ret (ev_allP2 (K := K) (P1 := OthF K os) (ev_varP rfl (Mono.mono _ _ _ e3 hov)) (fun G4 v e4 hv => ?_) (fun _ _ => rfl)) fun v' G' M' e z => ⟨z.1, ys, z.2⟩
  obtain ⟨oa, ws, rfl, h2, h3, h4⟩ := hv
  refine ⟨oa, ws, rfl, by omega, h3, fun i x hx => ?_⟩
  obtain ⟨t, q, c, cs', k1, k2, k3, k4⟩ := h4 i x hx
  obtain ⟨gq, hq⟩ := hos q cs' k4
  exact ⟨t, .ref q, c, k1, k2, fun G5 e5 => ev_rightG (ea_cons (ev_var rfl) (ea_cons (ev_var rfl) (ea_cons (ev_var rfl) (ea_cons (ev_varP rfl (dm k3 e5)) ea_nil)))) ((hq ys).ex ((e3.trans e4).trans e5)) gq⟩
theorem ok_Sheet___len__ (T : Txt K mg) : FnOk P w K mg base CX0 1 T.a_Sheet___len__ T.fd_Sheet___len__ ["self"] (spec (shPre K T.c_Sheet) fun x M => isV (.int (x.2.2.2.length : Int)) M) := by
  refine fn_sv T.F_Sheet___len__ sc_Sheet___len__ (fun x G M vs h => by obtain ⟨rfl, _⟩ := h; rfl) fun cdv A outer s H E hr => ⟨_, (pss_one (ps_ret (pe_callB (k_len (K := K) rfl) (by rfl) T.n_len (by decide +kernel) (pa_cons (k_fld (K := K) rfl (pv 0) rfl) pa_nil)))), ?_⟩
  rintro ⟨p, b, r, cs⟩ G M vs ⟨rfl, dx, l, xs, h1, h2, h3⟩
  refine sv_ret (ev_lenA (ev_fld (ev_var rfl) h1 T.cl_Sheet T.na_Sheet__columns shF_c) h2) fun v' G' M' e r => ?_
  rw [dpa_len h3, List.length_map] at r
  exact r
theorem len_Sheet___len__ (T : Txt K mg) {X : Cx} (hP : X.prog = P := by rfl) (hw : X.w = w := by rfl) (hK : X.K = K := by rfl) (hm : X.mg = mg := by rfl) (hr : Room (1 + 1) X.A) : CallR X (.builtin "len") (rLenO T.c_Sheet (spec (shPre K T.c_Sheet) fun x M => isV (.int (x.2.2.2.length : Int)) M) E0) := by
  subst hP hw hK hm
  exact call_lenO T.me_Sheet___len__ (ok_Sheet___len__ T) hr T.b_Sheet___len__ pass0
theorem ok_Sheet_cut (T : Txt K mg) : FnOk P w K mg base CX0 7 T.a_Sheet_cut T.fd_Sheet_cut ["self", "low", "high"] (spec (cutPre K T.c_Sheet) (cutPost K T.c_Sheet)) := by
  refine fn_sv T.F_Sheet_cut sc_Sheet_cut (fun x G M vs h => by obtain ⟨rfl, _⟩ := h; rfl) fun cdv A outer s H E hr => ⟨_, (pss_one (ps_ret (pe_make T.k_Sheet (okG_Sheet___init__ T) (hr.mono (by decide)) (by rfl) T.m_Sheet T.b_Sheet___init__ .nil passL (pa_cons (k_fld (K := K) rfl (pv 0) rfl) (pa_cons (k_fld (K := K) rfl (pv 0) rfl) (pa_cons (pe_slice (k_slL (K := K) rfl) (k_fld (K := K) rfl (pv 0) rfl) (po_some (pv 1)) (po_some (pv 2))) pa_nil)))))), ?_⟩
  rintro ⟨⟨p, b, r, cs⟩, lo, hi⟩ G M vs ⟨rfl, ⟨dx, l, xs, h1, h2, h3⟩, (g : GoodSh b r cs), (h0 : 0 ≤ lo), (h0' : 0 ≤ hi)⟩
  refine sv_ret (ev_mkSh3 (C := T.c_Sheet) (cs := cutL cs lo hi) (ev_fld (ev_var rfl) h1 T.cl_Sheet T.na_Sheet__base shF_b) (ev_fld (ev_var rfl) h1 T.cl_Sheet T.na_Sheet__rows shF_r) (Ev.frz ?_) (g.cut lo hi)) fun v' G' M' e r => r
  have := ev_slLA (K := K) (lo := some lo) (hi := some hi) (σ := start ["self", "low", "high"] [.ref p, .int lo, .int hi]) (ev_fld (ev_var (k := 0) (x := .ref p) rfl) h1 T.cl_Sheet T.na_Sheet__columns shF_c) h2 h3 (eo_some (ev_var (k := 1) rfl)) (eo_some (ev_var (k := 2) rfl))
  rw [cutD_cols h0 h0'] at this
  exact this
theorem ok__law_parts (T : Txt K mg) : FnOk P w K mg base CX0 8 T.a__law_parts T.fd__law_parts ["deck", "one", "first", "base", "rows"] (spec (partPre K T.c_Sheet) partPost) := by
  refine fn_sv T.F__law_parts sc__law_parts (fun x G M vs h => by obtain ⟨cv, rfl, _⟩ := h; rfl) fun cdv A outer s H E hr => ⟨_, (pss_cons (ps_set (i := 5) sc__law_parts.nd rfl (Or.inl rfl) (pe_call (ok__law_draw T) (hr.mono (by decide)) (by rfl) T.m__law_draw T.F__law_draw.kp T.b__law_draw .nil pass0 (pa_cons (pv 0) (pa_cons (pe_op op_add (pe_callB (k_len (K := K) rfl) (by rfl) T.n_len (by decide +kernel) (pa_cons (pv 2) pa_nil)) (pe_int)) pa_nil)))) (pss_cons (ps_set (i := 6) sc__law_parts.nd rfl (Or.inl rfl) (pe_op op_add (pv 5) (pe_call (ok__law_draw T) (hr.mono (by decide)) (by rfl) T.m__law_draw T.F__law_draw.kp T.b__law_draw .nil pass0 (pa_cons (pv 0) (pa_cons (pe_op op_sub (pe_op op_add (pe_callB (k_len (K := K) rfl) (by rfl) T.n_len (by decide +kernel) (pa_cons (pv 2) pa_nil)) (pe_int)) (pv 5)) pa_nil))))) (pss_cons (ps_set (i := 7) sc__law_parts.nd rfl (Or.inl rfl) (pe_meth (pv 1) T.cl_Sheet T.me_Sheet_cut (ok_Sheet_cut T) (hr.mono (by decide)) T.b_Sheet_cut .nil pass0 (pa_cons (pv 5) (pa_cons (pv 6) pa_nil)))) (pss_cons (ps_if (PW.pt (pw_or (pt_not (pt_val (pe_call (ok__law_right T) (hr.mono (by decide)) (by rfl) T.m__law_right T.F__law_right.kp T.b__law_right .nil pass0 (pa_cons (pv 7) (pa_cons (pv 3) (pa_cons (pv 4) (pa_cons (pe_slice (k_slL (K := K) rfl) (pv 2) (po_some (pv 5)) (po_some (pv 6))) pa_nil))))))) (pw_or1 (pt_cmpR op_ne (pe_callB (len_Sheet___len__ T (hr := hr.mono (by decide))) (by rfl) T.n_len (by decide +kernel) (pa_cons (pv 7) pa_nil)) (pe_op op_sub (pv 6) (pv 5)) (nomark _))))) (pss_one (ps_ret (pe_bl))) (pss_nil)) (pss_cons (ps_set (i := 8) sc__law_parts.nd rfl (Or.inl rfl) (pe_op (opO_Sheet___add__ T (hr := hr.mono (by decide))) (pe_op (opO_Sheet___add__ T (hr := hr.mono (by decide))) (pe_meth (pv 1) T.cl_Sheet T.me_Sheet_cut (ok_Sheet_cut T) (hr.mono (by decide)) T.b_Sheet_cut .nil pass0 (pa_cons (pe_int) (pa_cons (pv 5) pa_nil))) (pv 7)) (pe_meth (pv 1) T.cl_Sheet T.me_Sheet_cut (ok_Sheet_cut T) (hr.mono (by decide)) T.b_Sheet_cut .nil pass0 (pa_cons (pv 6) (pa_cons (pe_callB (k_len (K := K) rfl) (by rfl) T.n_len (by decide +kernel) (pa_cons (pv 2) pa_nil)) pa_nil))))) (pss_cons (ps_if (pt_not (pt_val (pe_call (ok__law_right T) (hr.mono (by decide)) (by rfl) T.m__law_right T.F__law_right.kp T.b__law_right .nil pass0 (pa_cons (pv 8) (pa_cons (pv 3) (pa_cons (pv 4) (pa_cons (pv 2) pa_nil))))))) (pss_one (ps_ret (pe_bl))) (pss_nil)) (pss_one (ps_ret (pe_call (ok__law_own T) (hr.mono (by decide)) (by rfl) T.m__law_own T.F__law_own.kp T.b__law_own .nil pass0 (pa_cons (pv 7) (pa_cons (pv 3) (pa_cons (pv 4) (pa_cons (pe_slice (k_slL (K := K) rfl) (pv 2) (po_some (pv 5)) (po_some (pv 6))) (pa_cons (pe_lst (pa_cons (pe_tup (pa_cons (pv 1) (pa_cons (pv 2) pa_nil))) (pa_cons (pe_tup (pa_cons (pv 8) (pa_cons (pv 2) pa_nil))) pa_nil))) pa_nil)))))))))))))), ?_⟩
  rintro ⟨dk, i, D, p, b, r, cs⟩ G M vs ⟨cv, rfl, (hi : M[i]? = some (dk, D.ho)), (hS : ∀ o, ShAt K T.c_Sheet G (M.set i (dk, o)) p b r cs), (hcv : Dp K G cv (.list (cs.map colD))), (g : GoodSh b r cs), (hn : cs.length ≤ 1000)⟩
  have hset : ∀ (o : HO), (M.set i (dk, o))[i]? = some (dk, o) := fun o => by rw [List.getElem?_set_self (List.getElem?_eq_some_iff.mp hi).1]
  have hlen : ∀ (G' : Hp) (M' : Mem) (σ : L2.St), Ex G G' → σ[2]? = some (some cv) → Ev (tCB (rLenS K) (tCons (tVar 2) tNil)) σ G' M' (isV (.int (cs.length : Int)) M') := fun G' M' σ e h2 => by
    have := ev_lenL (K := K) (ev_varP (M := M') h2 (dm hcv e))
    rw [List.length_map] at this
    exact this
  refine sv_let (ev_draw (D := D) i (ea_cons (ev_var rfl) (ea_cons (ev_I0 (g := fun i j => V.int (i + j)) (hlen _ _ _ (Ex.refl _) rfl) ev_c) ea_nil)) hi (by omega) (by omega)) ?_
  rintro _ G1 M1 e1 ⟨rfl, rfl⟩
  have q0 : 0 ≤ dv D ((cs.length : Int) + 1) := dv_lo (by omega)
  have q1 : dv D ((cs.length : Int) + 1) < (cs.length : Int) + 1 := dv_hi (by omega)
  generalize hlo : dv D ((cs.length : Int) + 1) = lo at q0 q1
  generalize hD1 : dn D ((cs.length : Int) + 1) = D1
  show Sv E _ [some (.ref dk), some (.ref p), some cv, some (.int b), some (.int r), some (.int lo), none, none, none] G1 (M.set i (dk, D1.ho)) _
  refine sv_let (ev_I0 (g := fun i j => V.int (i + j)) (ev_var rfl) (ev_draw (D := D1) i (ea_cons (ev_var rfl) (ea_cons (ev_I0 (g := fun i j => V.int (i - j)) (ev_I0 (g := fun i j => V.int (i + j)) (hlen _ _ _ e1 rfl) ev_c) (ev_var rfl)) ea_nil)) (hset _) (by omega) (by omega))) ?_
  rintro _ G2 M2 e2 ⟨rfl, rfl⟩
  rw [List.set_set]
  have q2 : 0 ≤ dv D1 ((cs.length : Int) + 1 - lo) := dv_lo (by omega)
  have q3 : dv D1 ((cs.length : Int) + 1 - lo) < (cs.length : Int) + 1 - lo := dv_hi (by omega)
  generalize hhi : lo + dv D1 ((cs.length : Int) + 1 - lo) = hi'
  have hD : (partDk D cs.length) = dn D1 ((cs.length : Int) + 1 - lo) := by
    unfold partDk
    rw [hlo, hD1]
  show Sv E _ [some (.ref dk), some (.ref p), some cv, some (.int b), some (.int r), some (.int lo), some (.int hi'), none, none] G2 (M.set i (dk, (dn D1 ((cs.length : Int) + 1 - lo)).ho)) { nx := _, rt := isV (.bl true) (M.set i (dk, (partDk D cs.length).ho)) }
  rw [hD]
  generalize hM : M.set i (dk, (dn D1 ((cs.length : Int) + 1 - lo)).ho) = N
  have hSN : ShAt K T.c_Sheet G N p b r cs := hM ▸ hS _
  have e12 := e1.trans e2
  have hl1 : lo ≤ hi' := by omega
  have hl2 : hi' ≤ cs.length := by omega
  refine sv_let (ev_cut (C := T.c_Sheet) (ev_var rfl) (hSN.ex e12) g (ea_cons (ev_var rfl) (ea_cons (ev_var rfl) ea_nil)) q0 (by omega)) ?_
  rintro _ G3 M3 e3 ⟨pp, dx, lp, ysp, rfl, hpp, rfl, hdp⟩
  have gp : GoodSh b r (cutL cs lo hi') := g.cut lo hi'
  have hyl : ysp.length = (cutL cs lo hi').length := by rw [dpa_len hdp, List.length_map]
  have hcl := cutL_len (cs := cs) q0 hl1 hl2
  have hpl : (N ++ [(lp, HO.lst ysp)])[N.length]? = some (lp, .lst ysp) := by simp
  have hP : ShAt K T.c_Sheet G3 (N ++ [(lp, HO.lst ysp)]) pp b r (cutL cs lo hi') := ⟨dx, lp, ysp, .G hpp, .M hpl, hdp⟩
  have e13 := e12.trans e3
  have hcut : ∀ (lo hi : Int) (G' : Hp) (M' : Mem) (σ : L2.St) (ta tb : TE), Ex G G' → 0 ≤ lo → 0 ≤ hi → σ[2]? = some (some cv) → Ev ta σ G' M' (isV (.int lo) M') → Ev tb σ G' M' (isV (.int hi) M') → Ev (tSl (rSlL K) (tVar 2) (tPart ta) (tPart tb)) σ G' M' (isD K (.list ((cutL cs lo hi).map colD)) M') := fun lo hi G' M' σ ta tb e h0 h1 h2 ha hb => by
    have := Ev.frz (ev_slL (K := K) (ev_varP (M := M') h2 (dm hcv e)) (eo_some ha) (eo_some hb))
    rw [cutD_cols h0 h1] at this
    exact this
  refine sv_ifs (a := false) (M1 := N ++ [(lp, HO.lst ysp)]) (et_orM (et_not (a := true) (et_B (ev_rightG (ea_cons (ev_var rfl) (ea_cons (ev_var rfl) (ea_cons (ev_var rfl) (ea_cons (hcut lo hi' _ _ _ _ _ e13 q0 (by omega) rfl (ev_var rfl) (ev_var rfl)) ea_nil)))) hP gp))) ?_) (fun G' _ hb => by cases hb) fun G4 e4 _ => sv_next fun G5 e5 => ?_
  · have := ev_neI (ev_lenO (n := ((cutL cs lo hi').length : Int)) (pp, b, r, cutL cs lo hi') (ev_var (σ := [some (.ref dk), some (.ref p), some cv, some (.int b), some (.int r), some (.int lo), some (.int hi'), some (.ref pp), none]) (M := N ++ [(lp, HO.lst ysp)]) (k := 7) (x := .ref pp) rfl) (.G hpp) (pre := shPre K T.c_Sheet) (post := fun x M => isV (.int (x.2.2.2.length : Int)) M) (E := E0) (fun G1 e => ⟨rfl, hP.ex e⟩) (fun _ _ _ r => r) (by omega)) (ev_I0 (g := fun i j => V.int (i - j)) (ev_var (k := 6) (x := .int hi') rfl) (ev_var (k := 5) (x := .int lo) rfl))
    rw [show (!decide (((cutL cs lo hi').length : Int) = hi' - lo)) = false by rw [hcl]; simp] at this
    exact et_test this
  have e35 := e4.trans e5
  have e15 := e13.trans e35
  have hSP : ShAt K T.c_Sheet G5 (N ++ [(lp, HO.lst ysp)]) p b r cs := (hSN.ex e15).more
  have hPP := hP.ex e35
  have c0 : cutL cs 0 lo ++ cutL cs lo hi' = cutL cs 0 hi' := cutL_cat q0 hl1
  have c1 : cutL cs 0 hi' ++ cutL cs hi' cs.length = cs := cutL_all (by omega)
  have g0 := g.cut 0 lo
  have g1 := g.cut 0 hi'
  have g2 := g.cut hi' cs.length
  have hL0 := cutL_len (cs := cs) (lo := 0) (hi := lo) (by omega) (by omega) (by omega)
  have hL1 := cutL_len (cs := cs) (lo := 0) (hi := hi') (by omega) (by omega) (by omega)
  have hL2 := cutL_len (cs := cs) (lo := hi') (hi := cs.length) (by omega) (by omega) (by omega)
  have hagain : Ev (tOp (rBinO T.c_Sheet (spec (addGPre K T.c_Sheet) (addPost K T.c_Sheet)) E0) (tOp (rBinO T.c_Sheet (spec (addGPre K T.c_Sheet) (addPost K T.c_Sheet)) E0) (tMeth T.c_Sheet "cut" (spec (cutPre K T.c_Sheet) (cutPost K T.c_Sheet)) [] E0 (tVar 1) (tCons (tC (.int 0)) (tCons (tVar 5) tNil))) (tVar 7)) (tMeth T.c_Sheet "cut" (spec (cutPre K T.c_Sheet) (cutPost K T.c_Sheet)) [] E0 (tVar 1) (tCons (tVar 6) (tCons (tCB (rLenS K) (tCons (tVar 2) tNil)) tNil)))) [some (.ref dk), some (.ref p), some cv, some (.int b), some (.int r), some (.int lo), some (.int hi'), some (.ref pp), none] G5 (N ++ [(lp, HO.lst ysp)]) (isP (ShFz K T.c_Sheet b r cs) (N ++ [(lp, HO.lst ysp)])) := by
    have z1 := Ev.frzSh (ev_cut (C := T.c_Sheet) (E' := E0) (ev_var (σ := [some (.ref dk), some (.ref p), some cv, some (.int b), some (.int r), some (.int lo), some (.int hi'), some (.ref pp), none]) (k := 1) rfl) hSP g (ea_cons (ev_c (x := .int 0)) (ea_cons (ev_var (k := 5) (x := .int lo) rfl) ea_nil)) (by omega) q0)
    have z2 := Ev.frzSh (ev_addO (E' := E0) z1 (ev_var (k := 7) (x := .ref pp) rfl) (fun G' v e h => by obtain ⟨a, h1, h2⟩ := h.at_; exact ⟨a, h1, h2 _⟩) (fun G' v e h => ⟨pp, h, hPP.ex e⟩) g0 gp (by omega))
    rw [c0] at z2
    have z3 := Ev.frzSh (ev_cut (C := T.c_Sheet) (E' := E0) (ev_var (σ := [some (.ref dk), some (.ref p), some cv, some (.int b), some (.int r), some (.int lo), some (.int hi'), some (.ref pp), none]) (k := 1) rfl) hSP g (ea_cons (ev_var (k := 6) (x := .int hi') rfl) (ea_cons (hlen _ _ _ e15 rfl) ea_nil)) (by omega) (by omega))
    have z4 := Ev.frzSh (ev_addO (E' := E0) z2 z3 (fun G' v e h => by obtain ⟨a, h1, h2⟩ := h.at_; exact ⟨a, h1, h2 _⟩) (fun G' v e h => by obtain ⟨a, h1, h2⟩ := h.at_; exact ⟨a, h1, h2 _⟩) g1 g2 (by omega))
    rw [c1] at z4
    exact z4
  refine sv_let hagain ?_
  rintro va G6 M6 e6 ⟨hva, rfl⟩
  obtain ⟨pa, rfl, hA⟩ := ShFz.at_ hva
  have e16 := e15.trans e6
  refine sv_ifs (a := false) (et_not (a := true) (et_B (ev_rightG (ea_cons (ev_var rfl) (ea_cons (ev_var rfl) (ea_cons (ev_var rfl) (ea_cons (ev_varP rfl (dm hcv e16)) ea_nil)))) (hA _) g))) (fun G' _ hb => by cases hb) fun G7 e7 _ => sv_next fun G8 e8 => ?_
  have e68 := e7.trans e8
  have e18 := e16.trans e68
  have e38 := (e35.trans e6).trans e68
  refine sv_retL (M' := []) (ev_own (C := T.c_Sheet) ⟨pp, dx, lp, N.length, b, r, ysp, cutL cs lo hi', [(p, cs), (pa, cs)]⟩ (ea_cons (ev_var rfl) (ea_cons (ev_var rfl) (ea_cons (ev_var rfl) (ea_cons (hcut lo hi' _ _ _ _ _ e18 q0 (by omega) rfl (ev_var rfl) (ev_var rfl)) (ea_cons (ev_oth2 (K := K) (ev_var rfl) (ev_varP rfl (dm hcv e18)) (ev_var rfl) (ev_varP rfl (dm hcv e18))) ea_nil))))) (e38 _ _ hpp) hpl hyl gp ?_) fun v' G' M' e z => ?_
  · intro q cs' hq
    rcases List.mem_cons.mp hq with h | h
    · cases h
      refine ⟨g, fun ys => ?_⟩
      rw [List.set_append_right _ _ (Nat.le_refl _), Nat.sub_self]
      exact (hSN.ex e18).more
    · cases List.mem_singleton.mp h
      exact ⟨g, fun ys => (hA _).ex e68⟩
  · obtain ⟨rfl, ys, rfl⟩ := z
    exact ⟨N, [(lp, .lst ys)], by rw [List.set_append_right _ _ (Nat.le_refl _), Nat.sub_self]; rfl, rfl, rfl⟩
theorem ok__law_power (T : Txt K mg) : FnOk P w K mg base CX0 1 T.a__law_power T.fd__law_power ["base", "many"] (spec powPre powPost) := by
  refine fn_sv T.F__law_power sc__law_power (fun x G M vs h => by obtain ⟨rfl, _⟩ := h; rfl) fun cdv A outer s H E hr => ⟨_, (pss_cons (ps_set (i := 2) sc__law_power.nd rfl (Or.inl rfl) (pe_int)) (pss_cons (ps_for PassesOwn.never rfl (pi_range1 (by rfl) T.n_range (pa_cons (pv 1) pa_nil)) (pg_name (i := 3) sc__law_power.nd rfl (Or.inl rfl)) (pss_one (ps_set (i := 2) sc__law_power.nd rfl (Or.inl rfl) (pe_op op_mul (pv 2) (pv 0))))) (pss_one (ps_ret (pv 2))))), ?_⟩
  rintro ⟨b, n⟩ G M vs ⟨rfl, (hb : -(2 ^ 64) < b ∧ b < 2 ^ 64), (hn : n ≤ 100000)⟩
  refine sv_let ev_c ?_
  rintro _ G1 M1 e1 ⟨rfl, rfl⟩
  refine sv_seq (N := fun G' σ' M' => M' = M1 ∧ ∃ f, σ' = [some (.int b), some (.int n), some (.int (b ^ n)), f]) ?_ ?_
  · refine sv_forR (n := (n : Int)) (M1 := M1) (fun i G' σ' M' => M' = M1 ∧ ∃ f, σ' = [some (.int b), some (.int n), some (.int (b ^ i)), f]) (ea_cons (ev_var rfl) ea_nil) (fun G' e => ⟨rfl, none, by rw [Int.pow_zero]; rfl⟩) (by omega) ?_ ?_
    · rintro i G' σ' M' e hi ⟨rfl, f, rfl⟩
      refine sv_tgN (sv_set (ev_I (ev_var rfl) (ev_var rfl) (.inr hb)) ?_)
      rintro _ G4 M4 e4 ⟨rfl, rfl⟩
      exact ⟨rfl, _, by rw [Int.pow_succ]; rfl⟩
    · rintro G' σ' M' e ⟨rfl, f, rfl⟩
      exact ⟨rfl, f, by rw [Int.toNat_natCast]⟩
  · rintro G3 σ3 M3 e3 ⟨rfl, f, rfl⟩
    exact sv_ret (ev_var rfl) fun v' G' M' e r => r
theorem ok__law_joined (T : Txt K mg) : FnOk P w K mg base CX0 8 T.a__law_joined T.fd__law_joined ["one", "other"] (spec (joinPre K T.c_Sheet) (joinPost K)) := by
  refine fn_sv T.F__law_joined sc__law_joined (fun x G M vs h => by obtain ⟨⟨rfl, _⟩, _⟩ := h; rfl) fun cdv A outer s H E hr => ⟨_, (pss_cons (ps_set (i := 2) sc__law_joined.nd rfl (Or.inl rfl) (pe_lst pa_nil)) (pss_cons (ps_try_as (i := 3) rfl rfl sc__law_joined.nd rfl rfl ⟨by rfl, by decide, .inl T.m_SlipError⟩ takes0 (fun W pn xe tk _ => pss_one (ps_set (i := 2) sc__law_joined.nd rfl (Or.inl rfl) (pe_lst (pa_cons (pe_callB (len_Sheet___len__ T (hr := hr.mono (by decide))) (by rfl) T.n_len (by decide +kernel) (pa_cons (pe_binOS T.me_Sheet___add__.at_ T.me_Sheet___add__.fn T.sf_Sheet (ok_Sheet___add__ T) (hr.mono (by decide)) T.b_Sheet___add__ (fun σ => passAt tk σ) (pv 0) (pv 1)) pa_nil)) pa_nil)))) (fun a oe cls d pn hz hf => pss_cons (ps_set (i := 4) sc__law_joined.nd rfl (Or.inl rfl) (pe_callB (k_isCT (K := K) rfl hz hf) (by rfl) T.n_isinstance (by decide +kernel) (pa_cons (pv 3) (pa_cons (pe_tup (pa_cons (pe_glob (v := .ref T.c_InvalidSheet) (by rfl) T.m_InvalidSheet rfl) (pa_cons (pe_glob (v := .ref T.c_InvalidCommand) (by rfl) T.m_InvalidCommand rfl) (pa_cons (pe_glob (v := .ref T.c_InvalidKind) (by rfl) T.m_InvalidKind rfl) (pa_cons (pe_glob (v := .ref T.c_InvalidLot) (by rfl) T.m_InvalidLot rfl) (pa_cons (pe_glob (v := .ref T.c_InvalidSlips) (by rfl) T.m_InvalidSlips rfl) (pa_cons (pe_glob (v := .ref T.c_InvalidText) (by rfl) T.m_InvalidText rfl) pa_nil))))))) pa_nil)))) (pss_cons (ps_set (i := 4) sc__law_joined.nd rfl (Or.inl rfl) (pe_or (pv 4) (pe_one (pe_callB (k_isCT (K := K) rfl hz hf) (by rfl) T.n_isinstance (by decide +kernel) (pa_cons (pv 3) (pa_cons (pe_tup (pa_cons (pe_glob (v := .ref T.c_InvalidColumn) (by rfl) T.m_InvalidColumn rfl) (pa_cons (pe_glob (v := .ref T.c_NotPossible) (by rfl) T.m_NotPossible rfl) (pa_cons (pe_glob (v := .ref T.c_NotReady) (by rfl) T.m_NotReady rfl) (pa_cons (pe_glob (v := .ref T.c_NothingToUndo) (by rfl) T.m_NothingToUndo rfl) (pa_cons (pe_glob (v := .ref T.c_TooMany) (by rfl) T.m_TooMany rfl) (pa_cons (pe_glob (v := .ref T.c_Waits) (by rfl) T.m_Waits rfl) pa_nil))))))) pa_nil)))))) (pss_one (ps_set (i := 2) sc__law_joined.nd rfl (Or.inl rfl) (pe_lst (pa_cons (pe_callB (k_isC (K := K) rfl hz hf) (by rfl) T.n_isinstance (by decide +kernel) (pa_cons (pv 3) (pa_cons (pe_glob (v := .ref T.c_NotAlike) (by rfl) T.m_NotAlike rfl) pa_nil))) (pa_cons (pe_callB (k_isC (K := K) rfl hz hf) (by rfl) T.n_isinstance (by decide +kernel) (pa_cons (pv 3) (pa_cons (pe_bltn (v := .ty "ValueError") (by rfl) T.n_ValueError (by decide +kernel) rfl) pa_nil))) (pa_cons (pv 4) pa_nil))))))))) (pss_one (ps_ret (pv 2))))), ?_⟩
  rintro ⟨⟨p, b, r, cs⟩, q, b', r', cs'⟩ G M vs ⟨⟨rfl, (hS : ShAt K T.c_Sheet G M p b r cs), (hT : ShAt K T.c_Sheet G M q b' r' cs'), (g : GoodSh b r cs), (g' : GoodSh b' r' cs'), (hl : cs.length + cs'.length ≤ 10000)⟩, (hn : ¬ (b = b' ∧ r = r'))⟩
  obtain ⟨dx, l, xs, h1, h2, h3⟩ := hS
  obtain ⟨dy, l', ys, k1, k2, k3⟩ := hT
  refine sv_let (Ev.frz (ev_lstO (K := K) (ds := []) ea_nil (by decide))) ?_
  rintro v0 G1 M1 e1 ⟨hv0, rfl⟩
  refine sv_seq (N := fun G' σ' M' => M' = M1 ∧ ∃ v o, σ' = [some (.ref p), some (.ref q), some v, none, o] ∧ Dp K G' v (.list [.bool true, .bool true, .bool false])) ?_ ?_
  · refine sv_tryAs (K := K) (i := 3) (c := .ref T.c_SlipError) (tw := fun W => tAsg (tLst (tCons (tCB (rLenO T.c_Sheet (spec (shPre K T.c_Sheet) fun x M => isV (V.int (x.2.2.2.length : Int)) M) E0) (tCons (tBinOS T.c_Sheet (specX (addPre K T.c_Sheet) (addPost K T.c_Sheet) (addExc T.c_NotAlike)) (WE W) (tVar 0) (tVar 1)) tNil)) tNil)) (gName 2)) (fun c d G2 M2 => c = .ref T.c_NotAlike ∧ d = none ∧ M2 = M1) (fun W => ?_) ?_
    · refine sv_setR (er_lst (er_one (er_CB (er_one (er_binO (pre := addPre K T.c_Sheet) (post := addPost K T.c_Sheet) (exc := addExc T.c_NotAlike) ((p, b, r, cs), q, b', r', cs') rfl (ev_var rfl) (ev_var rfl) (h1.ex e1) (k1.ex e1) (fun G2 e2 => ⟨rfl, ⟨dx, l, xs, h1.ex (e1.trans e2), h2.ex (e1.trans e2), dma h3 (e1.trans e2)⟩, ⟨dy, l', ys, k1.ex (e1.trans e2), k2.ex (e1.trans e2), dma k3 (e1.trans e2)⟩, g, g', hl⟩) (fun G2 v M2 z => hn z.1) fun c d G2 M2 e2 z => ⟨z.2.1, z.2.2.1, z.2.2.2⟩)))))
    · rintro _ _ a G2 M2 e2 ⟨rfl, rfl, rfl⟩
      refine ⟨T.em_NotAlike_SlipError, ?_⟩
      refine sv_let (ev_isCT (K := K) T.e_NotAlike (ev_var rfl) (cs := [.ref T.c_InvalidSheet, .ref T.c_InvalidCommand, .ref T.c_InvalidKind, .ref T.c_InvalidLot, .ref T.c_InvalidSlips, .ref T.c_InvalidText]) (ea_cons ev_c (ea_cons ev_c (ea_cons ev_c (ea_cons ev_c (ea_cons ev_c (ea_cons ev_c ea_nil)))))) (by show 6 ≤ 1000; decide) (cls_paired [_, _, _, _, _, _]) T.qa_NotAlike_1) ?_
      rintro _ G3 M3 e3 ⟨rfl, rfl⟩
      refine sv_let (ev_orV (b := false) (ev_var (x := .bl false) rfl) fun _ => ev_isCT (K := K) T.e_NotAlike (ev_var rfl) (cs := [.ref T.c_InvalidColumn, .ref T.c_NotPossible, .ref T.c_NotReady, .ref T.c_NothingToUndo, .ref T.c_TooMany, .ref T.c_Waits]) (ea_cons ev_c (ea_cons ev_c (ea_cons ev_c (ea_cons ev_c (ea_cons ev_c (ea_cons ev_c ea_nil)))))) (by show 6 ≤ 1000; decide) (cls_paired [_, _, _, _, _, _]) T.qa_NotAlike_2) ?_
      rintro _ G4 M4 e4 ⟨rfl, rfl⟩
      refine sv_set (Ev.frz (ev_lstO (K := K) (ds := [.bool true, .bool true, .bool false]) (ea_cons (ev_bD (ev_isC (K := K) T.e_NotAlike (ev_var rfl) own_rel T.q_NotAlike_NotAlike)) (ea_cons (ev_bD (ev_isC (K := K) T.e_NotAlike (ev_var rfl) ty_rel T.q_NotAlike_ValueError)) (ea_cons (ev_bD (ev_var rfl)) ea_nil))) (by show 3 ≤ 1000; decide))) ?_
      rintro v G5 M5 e5 ⟨hv, rfl⟩
      exact ⟨rfl, v, _, rfl, hv⟩
  · rintro G2 σ2 M2 e2 ⟨rfl, v, o, rfl, hv⟩
    exact sv_ret (ev_varP rfl hv) fun v' G' M' e r => r
theorem ok__law_strange (T : Txt K mg) : FnOk P w K mg base CX0 9 T.a__law_strange T.fd__law_strange ["deck", "one", "first", "base", "rows"] (spec (partPre K T.c_Sheet) strPost) := by
  refine fn_sv T.F__law_strange sc__law_strange (fun x G M vs h => by obtain ⟨cv, rfl, _⟩ := h; rfl) fun cdv A outer s H E hr => ⟨_, (pss_cons (ps_set (i := 5) sc__law_strange.nd rfl (Or.inl rfl) (pe_call (ok__law_draw T) (hr.mono (by decide)) (by rfl) T.m__law_draw T.F__law_draw.kp T.b__law_draw .nil pass0 (pa_cons (pv 0) (pa_cons (pe_int) pa_nil)))) (pss_cons (ps_set (i := 6) sc__law_strange.nd rfl (Or.inl rfl) (pv 3)) (pss_cons (ps_set (i := 7) sc__law_strange.nd rfl (Or.inr rfl) (pv 4)) (pss_cons (ps_if (pt_cmpR op_ne (pv 5) (pe_int) (nomark _)) (pss_one (ps_set (i := 6) sc__law_strange.nd rfl (Or.inl rfl) (pe_op op_add (pe_int) (pe_op op_mod (pe_callTy c_int (by rfl) T.n_int (by decide +kernel) (pa_cons (pe_op op_add (pe_op op_add (pe_op op_sub (pv 3) (pe_int)) (pe_int)) (pe_call (ok__law_draw T) (hr.mono (by decide)) (by rfl) T.m__law_draw T.F__law_draw.kp T.b__law_draw .nil pass0 (pa_cons (pv 0) (pa_cons (pe_int) pa_nil)))) pa_nil)) (pe_int))))) (pss_nil)) (pss_cons (ps_if (pt_cmpR op_ne (pv 5) (pe_int) (nomark _)) (pss_one (ps_set (i := 7) sc__law_strange.nd rfl (Or.inr rfl) (pe_op op_add (pe_int) (pe_op op_mod (pe_callTy c_int (by rfl) T.n_int (by decide +kernel) (pa_cons (pe_op op_add (pe_op op_add (pe_op op_sub (pv 4) (pe_int)) (pe_int)) (pe_call (ok__law_draw T) (hr.mono (by decide)) (by rfl) T.m__law_draw T.F__law_draw.kp T.b__law_draw .nil pass0 (pa_cons (pv 0) (pa_cons (pe_int) pa_nil)))) pa_nil)) (pe_int))))) (pss_nil)) (pss_cons (ps_setLc (i := 8) (own := [("i", 10)]) (g := gName 10) (tt := tYes) rfl sc__law_strange.nd rfl rfl (sw_true rfl rfl rfl (by decide +kernel)) (pi_range1 (by rfl) T.n_range (pa_cons (pe_call (ok__law_draw T) (hr.mono (by decide)) (by rfl) T.m__law_draw T.F__law_draw.kp T.b__law_draw .nil pass0 (pa_cons (pv 0) (pa_cons (pe_int) pa_nil))) pa_nil)) (blkOk_by (N := ["deck", "one", "first", "base", "rows", "way", "other_base", "other_rows", "columns", "third", "i", "j"]) (sc := defScope s__law_strange) (by decide +kernel)) (fun _ _ _ _ _ => pg_name (i := 10) sc__law_strange.nd rfl (Or.inl rfl)) (fun _ _ _ _ _ => pts_nil) (fun _ _ _ _ _ => pe_callTy (k_tup (K := K) rfl) (by rfl) T.n_tuple (by decide +kernel) (pa_cons (pe_lc (own := [("j", 11)]) (g := gName 11) (tt := tYes) rfl sc__law_strange.nd (pi_range1 (by rfl) T.n_range (pa_cons (pv 7) pa_nil)) (by refine blkOk_by (N := ["deck", "one", "first", "base", "rows", "way", "other_base", "other_rows", "columns", "third", "i", "j"]) ?_; rfl) (fun _ _ _ _ _ => pg_name (i := 11) sc__law_strange.nd rfl (Or.inl rfl)) (fun _ _ _ _ _ => pts_nil) (fun _ _ _ _ _ => pe_int)) pa_nil))) (pss_cons (ps_set (i := 9) sc__law_strange.nd rfl (Or.inl rfl) (pe_make T.k_Sheet (okG_Sheet___init__ T) (hr.mono (by decide)) (by rfl) T.m_Sheet T.b_Sheet___init__ .nil passL (pa_cons (pv 6) (pa_cons (pv 7) (pa_cons (pv 8) pa_nil))))) (pss_cons (ps_if (PW.pt (pw_or (pt_cmpR (k_neD (K := K) rfl hr.units) (pe_call (ok__law_joined T) (hr.mono (by decide)) (by rfl) T.m__law_joined T.F__law_joined.kp T.b__law_joined .nil pass0 (pa_cons (pv 1) (pa_cons (pv 9) pa_nil))) (pe_lst (pa_cons (pe_bl) (pa_cons (pe_bl) (pa_cons (pe_bl) pa_nil)))) (nomark _)) (pw_or1 (pt_cmpR (k_neD (K := K) rfl hr.units) (pe_call (ok__law_joined T) (hr.mono (by decide)) (by rfl) T.m__law_joined T.F__law_joined.kp T.b__law_joined .nil pass0 (pa_cons (pv 9) (pa_cons (pv 1) pa_nil))) (pe_lst (pa_cons (pe_bl) (pa_cons (pe_bl) (pa_cons (pe_bl) pa_nil)))) (nomark _))))) (pss_one (ps_ret (pe_bl))) (pss_nil)) (pss_one (ps_ret (pe_and (pe_call (ok__law_right T) (hr.mono (by decide)) (by rfl) T.m__law_right T.F__law_right.kp T.b__law_right .nil pass0 (pa_cons (pv 9) (pa_cons (pv 6) (pa_cons (pv 7) (pa_cons (pv 8) pa_nil))))) (pe_one (pe_call (ok__law_right T) (hr.mono (by decide)) (by rfl) T.m__law_right T.F__law_right.kp T.b__law_right .nil pass0 (pa_cons (pv 1) (pa_cons (pv 3) (pa_cons (pv 4) (pa_cons (pv 2) pa_nil))))))))))))))))), ?_⟩
  rintro ⟨dk, i, D, p, b, r, cs⟩ G M vs ⟨cv, rfl, (hi : M[i]? = some (dk, D.ho)), (hS : ∀ o, ShAt K T.c_Sheet G (M.set i (dk, o)) p b r cs), (hcv : Dp K G cv (.list (cs.map colD))), (g : GoodSh b r cs), (hn : cs.length ≤ 1000)⟩
  have hset : ∀ (o : HO), (M.set i (dk, o))[i]? = some (dk, o) := fun o => by rw [List.getElem?_set_self (List.getElem?_eq_some_iff.mp hi).1]
  have gb := g.b2
  have gb' := g.b12
  have gr := g.r1
  have gr' := g.r4
  refine sv_let (ev_draw (D := D) i (ea_cons (ev_var rfl) (ea_cons ev_c ea_nil)) hi (by decide) (by decide)) ?_
  rintro _ G1 M1 e1 ⟨rfl, rfl⟩
  have w0 : 0 ≤ dv D 3 := dv_lo (by decide)
  have w1 : dv D 3 < 3 := dv_hi (by decide)
  refine sv_let (ev_var rfl) ?_
  rintro _ G2 M2 e2 ⟨rfl, rfl⟩
  refine sv_let (ev_var rfl) ?_
  rintro _ G3 M3 e3 ⟨rfl, rfl⟩
  generalize hD1 : dn D 3 = D1
  generalize hD2 : (if dv D 3 ≠ 1 then dn D1 10 else D1) = D2
  generalize hD3 : (if dv D 3 ≠ 0 then dn D2 3 else D2) = D3
  have hDk : strDk D = dn D3 3 := by
    unfold strDk
    rw [hD1, hD2, hD3]
  generalize hob : (if dv D 3 ≠ 1 then 2 + (b - 2 + 1 + dv D1 10) % 11 else b) = ob
  generalize hor : (if dv D 3 ≠ 0 then 1 + (r - 1 + 1 + dv D2 3) % 4 else r) = orr
  have d10 : 0 ≤ dv D1 10 := dv_lo (by decide)
  have d10' : dv D1 10 < 10 := dv_hi (by decide)
  have d3 : 0 ≤ dv D2 3 := dv_lo (by decide)
  have d3' : dv D2 3 < 3 := dv_hi (by decide)
  have ob2 : 2 ≤ ob ∧ ob ≤ 12 := by
    rw [← hob]
    split <;> omega
  have or1 : 1 ≤ orr ∧ orr ≤ 4 := by
    rw [← hor]
    split <;> omega
  have hna : ¬ (b = ob ∧ r = orr) := by
    rw [← hob, ← hor]
    split <;> split <;> omega
  refine sv_seq (N := fun G' σ' M' => σ' = [some (.ref dk), some (.ref p), some cv, some (.int b), some (.int r), some (.int (dv D 3)), some (.int ob), some (.int r), none, none, none, none] ∧ M' = M.set i (dk, D2.ho)) (sv_if (a := !decide (dv D 3 = 1)) (M1 := M.set i (dk, D1.ho)) (by rw [← hD1]; exact et_test (ev_neI (ev_var rfl) ev_c)) (fun G4 e4 hb => ?_) fun G4 e4 hb => ?_) ?_
  · have hw : dv D 3 ≠ 1 := by simpa using hb
    rw [if_pos hw] at hD2 hob
    refine sv_set (ev_I0 (g := fun i j => V.int (i + j)) ev_c (ev_I (ev_int (ev_I0 (g := fun i j => V.int (i + j)) (ev_I0 (g := fun i j => V.int (i + j)) (ev_I0 (g := fun i j => V.int (i - j)) (ev_var rfl) ev_c) ev_c) (ev_draw (D := D1) i (ea_cons (ev_var rfl) (ea_cons ev_c ea_nil)) (hset _) (by decide) (by decide)))) ev_c (by decide))) ?_
    rintro _ G5 M5 e5 ⟨rfl, rfl⟩
    subst hD2 hob
    exact ⟨rfl, by rw [List.set_set]⟩
  · have hw : ¬ dv D 3 ≠ 1 := by simpa using hb
    rw [if_neg hw] at hD2 hob
    subst hD2 hob
    exact sv_next fun G5 e5 => ⟨rfl, rfl⟩
  rintro G5 σ5 M5 e5 ⟨rfl, rfl⟩
  refine sv_seq (N := fun G' σ' M' => σ' = [some (.ref dk), some (.ref p), some cv, some (.int b), some (.int r), some (.int (dv D 3)), some (.int ob), some (.int orr), none, none, none, none] ∧ M' = M.set i (dk, D3.ho)) (sv_if (a := !decide (dv D 3 = 0)) (M1 := M.set i (dk, D2.ho)) (et_test (ev_neI (ev_var rfl) ev_c)) (fun G4 e4 hb => ?_) fun G4 e4 hb => ?_) ?_
  · have hw : dv D 3 ≠ 0 := by simpa using hb
    rw [if_pos hw] at hD3 hor
    refine sv_set (ev_I0 (g := fun i j => V.int (i + j)) ev_c (ev_I (ev_int (ev_I0 (g := fun i j => V.int (i + j)) (ev_I0 (g := fun i j => V.int (i + j)) (ev_I0 (g := fun i j => V.int (i - j)) (ev_var rfl) ev_c) ev_c) (ev_draw (D := D2) i (ea_cons (ev_var rfl) (ea_cons ev_c ea_nil)) (hset _) (by decide) (by decide)))) ev_c (by decide))) ?_
    rintro _ G5 M5 e5 ⟨rfl, rfl⟩
    subst hD3 hor
    exact ⟨rfl, by rw [List.set_set]⟩
  · have hw : ¬ dv D 3 ≠ 0 := by simpa using hb
    rw [if_neg hw] at hD3 hor
    subst hD3 hor
    exact sv_next fun G5 e5 => ⟨rfl, rfl⟩
  rintro G6 σ6 M6 e6 ⟨rfl, rfl⟩
  have c0 : 0 ≤ dv D3 3 := dv_lo (by decide)
  have c1 : dv D3 3 < 3 := dv_hi (by decide)
  generalize hN : M.set i (dk, (dn D3 3).ho) = N
  have hSN : ShAt K T.c_Sheet G N p b r cs := hN ▸ hS _
  have gc : GoodCol ob orr (List.replicate orr.toNat 0) := ⟨by rw [List.length_replicate]; omega, fun f hf => by rw [List.eq_of_mem_replicate hf]; omega⟩
  have g3 : GoodSh ob orr (List.replicate (dv D3 3).toNat (List.replicate orr.toNat 0)) := ⟨ob2.1, ob2.2, or1.1, or1.2, by rw [List.length_replicate]; omega, fun c hc => by rw [List.eq_of_mem_replicate hc]; exact gc⟩
  refine sv_let (R := isD K (.list ((List.replicate (dv D3 3).toNat (List.replicate orr.toNat (0 : Int))).map colD)) N) (Ev.frz ?_) ?_
  · rw [List.map_replicate, ← kept_same]
    refine ev_lcR (K := K) (nn := dv D3 3) (fun _ => true) (fun _ => N) (fun j => colD (List.replicate orr.toNat (0 : Int))) ?_ (by omega) (by omega) (fun _ _ _ _ => et_yes) (fun j G' hj e _ => ?_) (fun _ _ => rfl) (fun _ => rfl)
    · have := ev_draw (D := D3) (n := 3) (σ := [some (.ref dk), some (.ref p), some cv, some (.int b), some (.int r), some (.int (dv D 3)), some (.int ob), some (.int orr), none, none, none, none]) (G := G6) (E := E0) i (ea_cons (ev_var (k := 0) rfl) (ea_cons (ev_c (x := .int 3)) ea_nil)) (hset D3.ho) (by decide) (by decide)
      rw [List.set_set, hN] at this
      exact ea_cons this ea_nil
    · refine ev_tupD (K := K) (Ev.frz ?_)
      rw [← kept_const]
      exact ev_lcR (K := K) (nn := orr) (fun _ => true) (fun _ => N) (fun j => .int 0) (ea_cons (ev_var rfl) ea_nil) (by omega) (by omega) (fun _ _ _ _ => et_yes) (fun j G' hj e _ => ev_iD ev_c) (fun _ _ => rfl) (fun _ => rfl)
  rintro v7 G7 M7 e7 ⟨hv7, eM⟩
  obtain rfl := eM.symm
  generalize hcs3 : List.replicate (dv D3 3).toNat (List.replicate orr.toNat (0 : Int)) = cs3 at g3 hv7
  have hl3 : cs3.length ≤ 3 := by rw [← hcs3, List.length_replicate]; omega
  refine sv_let (Ev.frzSh (ev_mkSh3 (K := K) (C := T.c_Sheet) (cs := cs3) (ev_var rfl) (ev_var rfl) (ev_varP rfl hv7) g3)) ?_
  rintro v8 G8 M8 e8 ⟨hv8, eM⟩
  obtain rfl := eM.symm
  obtain ⟨pt, rfl, hT⟩ := hv8.at_
  have e18 : Ex G G8 := ((((((e1.trans e2).trans e3).trans e5).trans e6).trans e7).trans e8)
  have hS8 := hSN.ex e18
  have hna' : ¬ (ob = b ∧ orr = r) := fun z => hna ⟨z.1.symm, z.2.symm⟩
  refine sv_ifs (a := false) (M1 := N) (et_or (a := false) (b := false) ?_ fun _ => ?_) (fun G' _ hb => by cases hb) fun G9 e9 _ => sv_next fun G10 e10 => ?_
  · have := ev_neD (K := K) (ev_join (C := T.c_Sheet) (E := E0) (ea_cons (ev_var (σ := [some (.ref dk), some (.ref p), some cv, some (.int b), some (.int r), some (.int (dv D 3)), some (.int ob), some (.int orr), some v7, some (.ref pt), none, none]) (k := 1) rfl) (ea_cons (ev_var (k := 9) rfl) ea_nil)) hS8 (hT N) g g3 (by omega) hna) (Ev.frz (ev_lstO (K := K) (ds := [.bool true, .bool true, .bool false]) (ea_cons (ev_bD ev_c) (ea_cons (ev_bD ev_c) (ea_cons (ev_bD ev_c) ea_nil))) (by show 3 ≤ 1000; decide))) sh_ttf sh_ttf
    rw [eqv_ttf] at this
    exact et_test this
  · have := ev_neD (K := K) (ev_join (C := T.c_Sheet) (E := E0) (ea_cons (ev_var (σ := [some (.ref dk), some (.ref p), some cv, some (.int b), some (.int r), some (.int (dv D 3)), some (.int ob), some (.int orr), some v7, some (.ref pt), none, none]) (k := 9) rfl) (ea_cons (ev_var (k := 1) rfl) ea_nil)) (hT N) hS8 g3 g (by omega) hna') (Ev.frz (ev_lstO (K := K) (ds := [.bool true, .bool true, .bool false]) (ea_cons (ev_bD ev_c) (ea_cons (ev_bD ev_c) (ea_cons (ev_bD ev_c) ea_nil))) (by show 3 ≤ 1000; decide))) sh_ttf sh_ttf
    rw [eqv_ttf] at this
    exact et_test this
  have e810 := e9.trans e10
  refine sv_ret (ev_andV (a := true) (b := true) (ev_rightG (ea_cons (ev_var rfl) (ea_cons (ev_var rfl) (ea_cons (ev_var rfl) (ea_cons (ev_varP rfl (dm hv7 (e8.trans e810))) ea_nil)))) ((hT N).ex e810) g3) fun _ => ev_rightG (ea_cons (ev_var rfl) (ea_cons (ev_var rfl) (ea_cons (ev_var rfl) (ea_cons (ev_varP rfl (dm hcv (e18.trans e810))) ea_nil)))) (hS8.ex e810) g) fun v' G' M' e z => ?_
  show v' = .bl true ∧ M' = M.set i (dk, (strDk D).ho)
  rw [hDk, hN]
  exact z
theorem ok_law (T : Txt K mg) : FnOk P w K mg base CX0 10 T.a_law T.fd_law ["script"] (spec (lawPre K) lawPost) := by
  refine fn_sv T.F_law sc_law (fun x G M vs h => by obtain ⟨v, rfl, _⟩ := h; rfl) fun cdv A outer s H E hr => ⟨_, (pss_cons (ps_for PassesOwn.never rfl (pi_list (pe_call (ok__law_cells T) (hr.mono (by decide)) (by rfl) T.m__law_cells T.F__law_cells.kp T.b__law_cells .nil pass0 (pa_cons (pv 0) pa_nil))) (pg_name (i := 1) sc_law.nd rfl (Or.inl rfl)) (pss_cons (ps_set (i := 2) sc_law.nd rfl (Or.inl rfl) (pe_call (ok__law_deck T) (hr.mono (by decide)) (by rfl) T.m__law_deck T.F__law_deck.kp T.b__law_deck .nil pass0 (pa_cons (pv 1) pa_nil))) (pss_cons (ps_set (i := 3) sc_law.nd rfl (Or.inl rfl) (pe_op op_add (pe_int) (pe_call (ok__law_draw T) (hr.mono (by decide)) (by rfl) T.m__law_draw T.F__law_draw.kp T.b__law_draw .nil pass0 (pa_cons (pv 2) (pa_cons (pe_int) pa_nil))))) (pss_cons (ps_set (i := 4) sc_law.nd rfl (Or.inl rfl) (pe_op op_add (pe_int) (pe_call (ok__law_draw T) (hr.mono (by decide)) (by rfl) T.m__law_draw T.F__law_draw.kp T.b__law_draw .nil pass0 (pa_cons (pv 2) (pa_cons (pe_int) pa_nil))))) (pss_cons (ps_set (i := 5) sc_law.nd rfl (Or.inl rfl) (pe_call (ok__law_columns T) (hr.mono (by decide)) (by rfl) T.m__law_columns T.F__law_columns.kp T.b__law_columns .nil pass0 (pa_cons (pv 2) (pa_cons (pv 3) (pa_cons (pv 4) (pa_cons (pe_int) pa_nil)))))) (pss_cons (ps_set (i := 6) sc_law.nd rfl (Or.inl rfl) (pe_call (ok__law_columns T) (hr.mono (by decide)) (by rfl) T.m__law_columns T.F__law_columns.kp T.b__law_columns .nil pass0 (pa_cons (pv 2) (pa_cons (pv 3) (pa_cons (pv 4) (pa_cons (pe_int) pa_nil)))))) (pss_cons (ps_set (i := 7) sc_law.nd rfl (Or.inl rfl) (pe_make T.k_Sheet (okG_Sheet___init__ T) (hr.mono (by decide)) (by rfl) T.m_Sheet T.b_Sheet___init__ .nil passL (pa_cons (pv 3) (pa_cons (pv 4) (pa_cons (pv 5) pa_nil))))) (pss_cons (ps_set (i := 8) sc_law.nd rfl (Or.inl rfl) (pe_make T.k_Sheet (okG_Sheet___init__ T) (hr.mono (by decide)) (by rfl) T.m_Sheet T.b_Sheet___init__ .nil passL (pa_cons (pv 3) (pa_cons (pv 4) (pa_cons (pv 6) pa_nil))))) (pss_cons (ps_if (PW.pt (pw_or (pt_not (pt_val (pe_call (ok__law_parts T) (hr.mono (by decide)) (by rfl) T.m__law_parts T.F__law_parts.kp T.b__law_parts .nil pass0 (pa_cons (pv 2) (pa_cons (pv 7) (pa_cons (pv 5) (pa_cons (pv 3) (pa_cons (pv 4) pa_nil)))))))) (pw_or1 (pt_not (pt_val (pe_call (ok__law_strange T) (hr.mono (by decide)) (by rfl) T.m__law_strange T.F__law_strange.kp T.b__law_strange .nil pass0 (pa_cons (pv 2) (pa_cons (pv 7) (pa_cons (pv 5) (pa_cons (pv 3) (pa_cons (pv 4) pa_nil))))))))))) (pss_one (ps_ret (pe_bl))) (pss_nil)) (pss_cons (ps_set (i := 9) sc_law.nd rfl (Or.inl rfl) (pe_op (opO_Sheet___add__ T (hr := hr.mono (by decide))) (pv 7) (pv 8))) (pss_cons (ps_set (i := 10) sc_law.nd rfl (Or.inl rfl) (pe_op (opO_Sheet___add__ T (hr := hr.mono (by decide))) (pv 8) (pv 7))) (pss_cons (ps_if (PW.pt (pw_or (pt_not (pt_val (pe_call (ok__law_right T) (hr.mono (by decide)) (by rfl) T.m__law_right T.F__law_right.kp T.b__law_right .nil pass0 (pa_cons (pv 9) (pa_cons (pv 3) (pa_cons (pv 4) (pa_cons (pe_op (k_cat (K := K) rfl) (pv 5) (pv 6)) pa_nil))))))) (pw_or1 (pt_not (pt_val (pe_call (ok__law_right T) (hr.mono (by decide)) (by rfl) T.m__law_right T.F__law_right.kp T.b__law_right .nil pass0 (pa_cons (pv 10) (pa_cons (pv 3) (pa_cons (pv 4) (pa_cons (pe_op (k_cat (K := K) rfl) (pv 6) (pv 5)) pa_nil)))))))))) (pss_one (ps_ret (pe_bl))) (pss_nil)) (pss_cons (ps_if (pt_cmpR op_ne (pe_prop (pv 9) T.cl_Sheet T.p_Sheet_value (ok_Sheet_value T) (hr.mono (by decide)) T.b_Sheet_value .nil pass0 rfl) (pe_op op_add (pe_prop (pv 7) T.cl_Sheet T.p_Sheet_value (ok_Sheet_value T) (hr.mono (by decide)) T.b_Sheet_value .nil pass0 rfl) (pe_op op_mulW (pe_call (ok__law_power T) (hr.mono (by decide)) (by rfl) T.m__law_power T.F__law_power.kp T.b__law_power .nil pass0 (pa_cons (pv 3) (pa_cons (pe_callB (k_len (K := K) rfl) (by rfl) T.n_len (by decide +kernel) (pa_cons (pv 5) pa_nil)) pa_nil))) (pe_prop (pv 8) T.cl_Sheet T.p_Sheet_value (ok_Sheet_value T) (hr.mono (by decide)) T.b_Sheet_value .nil pass0 rfl))) (nomark _)) (pss_one (ps_ret (pe_bl))) (pss_nil)) (pss_cons (ps_set (i := 11) sc_law.nd rfl (Or.inl rfl) (pe_lst (pa_cons (pe_tup (pa_cons (pv 7) (pa_cons (pv 5) pa_nil))) (pa_cons (pe_tup (pa_cons (pv 8) (pa_cons (pv 6) pa_nil))) (pa_cons (pe_tup (pa_cons (pv 10) (pa_cons (pe_op (k_cat (K := K) rfl) (pv 6) (pv 5)) pa_nil))) pa_nil))))) (pss_cons (ps_if (pt_not (pt_val (pe_call (ok__law_own T) (hr.mono (by decide)) (by rfl) T.m__law_own T.F__law_own.kp T.b__law_own .nil pass0 (pa_cons (pv 9) (pa_cons (pv 3) (pa_cons (pv 4) (pa_cons (pe_op (k_cat (K := K) rfl) (pv 5) (pv 6)) (pa_cons (pv 11) pa_nil)))))))) (pss_one (ps_ret (pe_bl))) (pss_nil)) (pss_one (ps_if (pt_not (pt_val (pe_call (ok__law_own T) (hr.mono (by decide)) (by rfl) T.m__law_own T.F__law_own.kp T.b__law_own .nil pass0 (pa_cons (pv 7) (pa_cons (pv 3) (pa_cons (pv 4) (pa_cons (pv 5) (pa_cons (pe_lst (pa_cons (pe_tup (pa_cons (pv 8) (pa_cons (pv 6) pa_nil))) (pa_cons (pe_tup (pa_cons (pv 10) (pa_cons (pe_op (k_cat (K := K) rfl) (pv 6) (pv 5)) pa_nil))) pa_nil))) pa_nil)))))))) (pss_one (ps_ret (pe_bl))) (pss_nil)))))))))))))))))) (pss_one (ps_ret (pe_bl)))), ?_⟩
  rintro ns G M vs ⟨v, rfl, dvs, hl, rfl⟩
  refine sv_seq (N := fun _ _ _ => True) (sv_forD (K := K) (ds := (cellsOf ns).map PyData.int) (fun i G' σ' M' => M' = [] ∧ ∃ y1 y2 y3 y4 y5 y6 y7 y8 y9 y10 y11, σ' = [some v, y1, y2, y3, y4, y5, y6, y7, y8, y9, y10, y11]) (ev_cells (ea_cons (ev_varP rfl dvs) ea_nil) hl) ?_ ?_ ?_) ?_
  · exact fun G' _ => ⟨rfl, none, none, none, none, none, none, none, none, none, none, none, rfl⟩
  · rintro i d x G2 σ2 M2 e2 hd dx ⟨rfl, y1, y2, y3, y4, y5, y6, y7, y8, y9, y10, y11, rfl⟩
    obtain ⟨c, hc, rfl⟩ : ∃ c, (cellsOf ns)[i]? = some c ∧ d = .int c := by
      rw [List.getElem?_map] at hd
      cases q : (cellsOf ns)[i]? with
      | none => rw [q] at hd; cases hd
      | some n => rw [q] at hd; exact ⟨n, rfl, (Option.some.inj hd).symm⟩
    obtain rfl := dp_int dx
    refine sv_tgN (sv_let (ev_deck (ea_cons (ev_var rfl) ea_nil)) ?_)
    rintro _ G3 M3 e3 ⟨dk, rfl, rfl⟩
    refine sv_let (ev_I0 ev_c (ev_draw 0 (ea_cons (ev_var rfl) (ea_cons ev_c ea_nil)) rfl (by decide) (by decide))) ?_
    rintro _ G5 M5 e5 ⟨rfl, rfl⟩
    refine sv_let (ev_I0 ev_c (ev_draw 0 (ea_cons (ev_var rfl) (ea_cons ev_c ea_nil)) rfl (by decide) (by decide))) ?_
    rintro _ G6 M6 e6 ⟨rfl, rfl⟩
    have hb0 : 0 ≤ dv (deckOf c) 11 := dv_lo (by decide)
    have hb1 : dv (deckOf c) 11 < 11 := dv_hi (by decide)
    have hr0 : 0 ≤ dv (dn (deckOf c) 11) 4 := dv_lo (by decide)
    have hr1 : dv (dn (deckOf c) 11) 4 < 4 := dv_hi (by decide)
    generalize hb : (2 : Int) + dv (deckOf c) 11 = b
    generalize hr' : (1 : Int) + dv (dn (deckOf c) 11) 4 = r
    generalize hD : dn (dn (deckOf c) 11) 4 = D
    show Sv E _ [some v, some (.int c), some (.ref dk), some (.int b), some (.int r), y5, y6, y7, y8, y9, y10, y11] G6 [(dk, D.ho)] _
    have b2 : 2 ≤ b := by omega
    have b12 : b ≤ 12 := by omega
    have r1 : 1 ≤ r := by omega
    have r4 : r ≤ 4 := by omega
    have hbb : -(2 ^ 64) < b ∧ b < 2 ^ 64 := ⟨by omega, by omega⟩
    clear hb hr' hD hb0 hb1 hr0 hr1
    have gg : ∀ D, GoodSh b r (colsOf D b r 20) ∧ (colsOf D b r 20).length ≤ 20 := fun D => by
      have := colsOf_len (D := D) (b := b) (r := r) (most := 20) (by decide)
      exact ⟨⟨by omega, by omega, by omega, by omega, by omega, colsOf_good (by omega) (by omega)⟩, by omega⟩
    refine sv_let (Ev.frz (ev_lcols (K := K) 0 (ea_cons (ev_var rfl) (ea_cons (ev_var rfl) (ea_cons (ev_var rfl) (ea_cons ev_c ea_nil)))) rfl (by omega) (by omega) (by omega) (by omega) (by decide) (by decide))) ?_
    rintro cv G7 M7 e7 ⟨hcv, rfl⟩
    obtain ⟨g, hl1⟩ := gg D
    generalize colsOf D b r 20 = cs at g hcv hl1
    generalize colsEnd D b r 20 = D2
    show Sv E _ [some v, some (.int c), some (.ref dk), some (.int b), some (.int r), some cv, y6, y7, y8, y9, y10, y11] G7 [(dk, D2.ho)] _
    refine sv_let (Ev.frz (ev_lcols (K := K) 0 (ea_cons (ev_var rfl) (ea_cons (ev_var rfl) (ea_cons (ev_var rfl) (ea_cons ev_c ea_nil)))) rfl (by omega) (by omega) (by omega) (by omega) (by decide) (by decide))) ?_
    rintro du G8 M8 e8 ⟨hdu, rfl⟩
    obtain ⟨g', hl2⟩ := gg D2
    generalize colsOf D2 b r 20 = ds at g' hdu hl2
    generalize colsEnd D2 b r 20 = D3
    show Sv E _ [some v, some (.int c), some (.ref dk), some (.int b), some (.int r), some cv, some du, y7, y8, y9, y10, y11] G8 [(dk, D3.ho)] _
    have hcv := dm hcv e8
    refine sv_let (ev_mkSh3 (K := K) (C := T.c_Sheet) (cs := cs) (ev_var rfl) (ev_var rfl) (ev_varP rfl hcv) g) ?_
    rintro _ G9 M9 e9 ⟨p1, dx1, l1, ys1, rfl, hp1, rfl, hd1⟩
    refine sv_let (Ev.frzSh (ev_mkSh3 (K := K) (C := T.c_Sheet) (cs := ds) (ev_var rfl) (ev_var rfl) (ev_varP rfl (dm hdu e9)) g')) ?_
    rintro _ G10 M10 e10 ⟨hw2, rfl⟩
    obtain ⟨p2, rfl, hS2⟩ := hw2.at_
    show Sv E _ [some v, some (.int c), some (.ref dk), some (.int b), some (.int r), some cv, some du, some (.ref p1), some (.ref p2), y9, y10, y11] G10 [(dk, D3.ho), (l1, .lst ys1)] _
    have hp1 := e10 _ _ hp1
    have hd1 := dma hd1 e10
    have hcv := dm hcv (e9.trans e10)
    have hdu := dm hdu (e9.trans e10)
    have hS1 : ∀ G' (A : Addr × HO) Mx, Ex G10 G' → ShAt K T.c_Sheet G' (A :: (l1, .lst ys1) :: Mx) p1 b r cs := fun G' A Mx e => ⟨dx1, l1, ys1, .G (e _ _ hp1), .M (i := 1) rfl, dma hd1 e⟩
    have hy1 : ys1.length = cs.length := by rw [dpa_len hd1, List.length_map]
    refine sv_ifs (a := false) (M1 := [(dk, (strDk (partDk D3 cs.length)).ho), (l1, .lst ys1)]) (et_orM (M1 := [(dk, (partDk D3 cs.length).ho), (l1, .lst ys1)]) (et_not (a := true) (et_B ?_)) (et_not (a := true) (et_B ?_))) (fun G' _ hb => by cases hb) fun G11 e11 _ => sv_next fun G12 e12 => ?_
    · exact ev_part (post := partPost) (C := T.c_Sheet) ⟨dk, 0, D3, p1, b, r, cs⟩ (ea_cons (ev_var rfl) (ea_cons (ev_var rfl) (ea_cons (ev_varP rfl hcv) (ea_cons (ev_var rfl) (ea_cons (ev_var rfl) ea_nil))))) rfl (fun o => hS1 _ _ _ (Ex.refl _)) g (by show cs.length ≤ 1000; omega)
    · exact ev_part (post := strPost) (C := T.c_Sheet) ⟨dk, 0, partDk D3 cs.length, p1, b, r, cs⟩ (ea_cons (ev_var rfl) (ea_cons (ev_var rfl) (ea_cons (ev_varP rfl hcv) (ea_cons (ev_var rfl) (ea_cons (ev_var rfl) ea_nil))))) rfl (fun o => hS1 _ _ _ (Ex.refl _)) g (by show cs.length ≤ 1000; omega)
    generalize strDk (partDk D3 cs.length) = D4
    have e1012 := e11.trans e12
    refine sv_let (ev_addO (K := K) (P1 := fun _ v => v = .ref p1) (P2 := fun _ v => v = .ref p2) (M1 := [(dk, D4.ho), (l1, .lst ys1)]) (cs := cs) (cs' := ds) (ev_var rfl) (ev_var rfl) (fun G' v e h => ⟨p1, h, hS1 _ _ _ (e1012.trans e)⟩) (fun G' v e h => ⟨p2, h, (hS2 _).ex (e1012.trans e)⟩) g g' (by omega)) ?_
    rintro _ G13 M13 e13 ⟨p3, dx3, l3, ys3, rfl, hp3, rfl, hd3⟩
    have e1013 := e1012.trans e13
    have gj : GoodSh b r (cs ++ ds) := ⟨g.b2, g.b12, g.r1, g.r4, by rw [List.length_append]; omega, fun c hc => (List.mem_append.mp hc).elim (g.col c) (g'.col c)⟩
    have gt : GoodSh b r (ds ++ cs) := ⟨g.b2, g.b12, g.r1, g.r4, by rw [List.length_append]; omega, fun c hc => (List.mem_append.mp hc).elim (g'.col c) (g.col c)⟩
    refine sv_let (Ev.frzSh (ev_addO (K := K) (P1 := fun _ v => v = .ref p2) (P2 := fun _ v => v = .ref p1) (M1 := [(dk, D4.ho), (l1, .lst ys1)] ++ [(l3, .lst ys3)]) (cs := ds) (cs' := cs) (ev_var rfl) (ev_var rfl) (fun G' v e h => ⟨p2, h, (hS2 _).ex (e1013.trans e)⟩) (fun G' v e h => ⟨p1, h, hS1 _ _ _ (e1013.trans e)⟩) g' g (by omega))) ?_
    rintro _ G14 M14 e14 ⟨hw4, rfl⟩
    obtain ⟨p4, rfl, hS4⟩ := hw4.at_
    show Sv E _ [some v, some (.int c), some (.ref dk), some (.int b), some (.int r), some cv, some du, some (.ref p1), some (.ref p2), some (.ref p3), some (.ref p4), y11] G14 [(dk, D4.ho), (l1, .lst ys1), (l3, .lst ys3)] _
    have e1014 := e1013.trans e14
    have hp1 := e1014 _ _ hp1
    have hcv := dm hcv e1014
    have hdu := dm hdu e1014
    have hS1 : ∀ G' (A : Addr × HO) Mx, Ex G14 G' → ShAt K T.c_Sheet G' (A :: (l1, .lst ys1) :: Mx) p1 b r cs := fun G' A Mx e => hS1 G' A Mx (e1014.trans e)
    have hS2 : ∀ G' M, Ex G14 G' → ShAt K T.c_Sheet G' M p2 b r ds := fun G' M e => (hS2 M).ex (e1014.trans e)
    have hS4 : ∀ G' M, Ex G14 G' → ShAt K T.c_Sheet G' M p4 b r (ds ++ cs) := fun G' M e => (hS4 M).ex e
    have hp3 := e14 _ _ hp3
    have hd3 := dma hd3 e14
    have hy3 : ys3.length = (cs ++ ds).length := by rw [dpa_len hd3, List.length_map]
    have hS3 : ∀ G', Ex G14 G' → ShAt K T.c_Sheet G' [(dk, D4.ho), (l1, .lst ys1), (l3, .lst ys3)] p3 b r (cs ++ ds) := fun G' e => ⟨dx3, l3, ys3, .G (e _ _ hp3), .M (i := 2) rfl, dma hd3 e⟩
    have hcat : ∀ (σ : L2.St) (G' : Hp) (M' : Mem), Ex G14 G' → σ[5]? = some (some cv) → σ[6]? = some (some du) → Ev (tOp (rCatS K) (tVar 5) (tVar 6)) σ G' M' (isD K (.list ((cs ++ ds).map colD)) M') := fun σ G' M' e h1 h2 => by
      rw [List.map_append]
      exact Ev.frz (ev_catD (ev_varP h1 (dm hcv e)) (ev_varP h2 (dm hdu e)) (by rw [List.length_map, List.length_map]; omega))
    have hcat' : ∀ (σ : L2.St) (G' : Hp) (M' : Mem), Ex G14 G' → σ[5]? = some (some cv) → σ[6]? = some (some du) → Ev (tOp (rCatS K) (tVar 6) (tVar 5)) σ G' M' (isD K (.list ((ds ++ cs).map colD)) M') := fun σ G' M' e h1 h2 => by
      rw [List.map_append]
      exact Ev.frz (ev_catD (ev_varP h2 (dm hdu e)) (ev_varP h1 (dm hcv e)) (by rw [List.length_map, List.length_map]; omega))
    refine sv_ifs (a := false) (M1 := [(dk, D4.ho), (l1, .lst ys1), (l3, .lst ys3)]) (et_orM (et_not (a := true) (et_B (ev_rightG (ea_cons (ev_var rfl) (ea_cons (ev_var rfl) (ea_cons (ev_var rfl) (ea_cons (hcat _ _ _ (Ex.refl _) rfl rfl) ea_nil)))) (hS3 _ (Ex.refl _)) gj))) (et_not (a := true) (et_B (ev_rightG (ea_cons (ev_var rfl) (ea_cons (ev_var rfl) (ea_cons (ev_var rfl) (ea_cons (hcat' _ _ _ (Ex.refl _) rfl rfl) ea_nil)))) (hS4 _ _ (Ex.refl _)) gt)))) (fun G' _ hb => by cases hb) fun G15 e15 _ => sv_next fun G16 e16 => ?_
    have e1416 := e15.trans e16
    refine sv_ifs (a := false) (M1 := [(dk, D4.ho), (l1, .lst ys1), (l3, .lst ys3)]) ?_ (fun G' _ hb => by cases hb) fun G17 e17 _ => sv_next fun G18 e18 => ?_
    · have hv : ∀ (k : Nat) (p : Addr) (cs : List (List Int)), [some v, some (.int c), some (.ref dk), some (.int b), some (.int r), some cv, some du, some (.ref p1), some (.ref p2), some (.ref p3), some (.ref p4), y11][k]? = some (some (.ref p)) → (∀ G', Ex G14 G' → ShAt K T.c_Sheet G' [(dk, D4.ho), (l1, .lst ys1), (l3, .lst ys3)] p b r cs) → cs.length ≤ 100000 →
          Ev (tProp T.c_Sheet (spec (shGPre K T.c_Sheet) fun x M => isV (.int (valueOf x.2.1 x.2.2.2)) M) [] E0 (tVar k)) [some v, some (.int c), some (.ref dk), some (.int b), some (.int r), some cv, some du, some (.ref p1), some (.ref p2), some (.ref p3), some (.ref p4), y11] G16 [(dk, D4.ho), (l1, .lst ys1), (l3, .lst ys3)] (isV (.int (valueOf b cs)) [(dk, D4.ho), (l1, .lst ys1), (l3, .lst ys3)]) := fun k p cs hk hS hn => by
        obtain ⟨dx, l, xs, k1, k2, k3⟩ := hS G16 e1416
        exact ev_prop (pre := shGPre K T.c_Sheet) (post := fun x M => isV (.int (valueOf x.2.1 x.2.2.2)) M) (p, b, r, cs) (ev_var hk) k1 fun G1 e1 => ⟨⟨rfl, hS _ (e1416.trans e1)⟩, hn, hbb⟩
      have hlen : Ev (tCB (rLenS K) (tCons (tVar 5) tNil)) [some v, some (.int c), some (.ref dk), some (.int b), some (.int r), some cv, some du, some (.ref p1), some (.ref p2), some (.ref p3), some (.ref p4), y11] G16 [(dk, D4.ho), (l1, .lst ys1), (l3, .lst ys3)] (isV (.int (cs.length : Int)) [(dk, D4.ho), (l1, .lst ys1), (l3, .lst ys3)]) := by
        have := ev_lenL (K := K) (ev_varP (σ := [some v, some (.int c), some (.ref dk), some (.int b), some (.int r), some cv, some du, some (.ref p1), some (.ref p2), some (.ref p3), some (.ref p4), y11]) (M := [(dk, D4.ho), (l1, .lst ys1), (l3, .lst ys3)]) (k := 5) rfl (dm hcv e1416))
        rw [List.length_map] at this
        exact this
      have hcond : CMulW (b ^ cs.length) (valueOf b ds) := wide_mul (a := 4 * cs.length + 1) (b := 4 * ds.length + 6) (pow_wide (by omega) b12) (value_wide g') (by omega) (by omega) (by omega)
      have := ev_neI (hv 9 p3 (cs ++ ds) rfl hS3 (by rw [List.length_append]; omega)) (ev_I0 (g := fun i j => V.int (i + j)) (hv 7 p1 cs rfl (fun G' e => hS1 _ _ _ e) (by omega)) (ev_I (C := CMulW) (g := fun i j => V.int (i * j)) (ev_pow (E := E0) (ea_cons (ev_var (k := 3) (x := .int b) rfl) (ea_cons hlen ea_nil)) hbb (by omega)) (hv 8 p2 ds rfl (fun G' e => hS2 _ _ e) (by omega)) hcond))
      rw [valueOf_app, show (!decide (valueOf b cs + b ^ cs.length * valueOf b ds = valueOf b cs + b ^ cs.length * valueOf b ds)) = false by simp] at this
      exact et_test this
    have e1418 := (e1416.trans e17).trans e18
    refine sv_let (ev_oth3 (K := K) (M3 := [(dk, D4.ho), (l1, .lst ys1), (l3, .lst ys3)]) (cs := cs) (cs' := ds) (cs'' := ds ++ cs) (ev_var rfl) (ev_varP rfl (dm hcv e1418)) (ev_var rfl) (ev_varP rfl (dm hdu e1418)) (ev_var rfl) (hcat' _ _ _ e1418 rfl rfl)) ?_
    rintro ov G19 M19 e19 ⟨hov, rfl⟩
    have e1419 := e1418.trans e19
    refine sv_seq (N := fun G' σ' M' => σ' = [some v, some (.int c), some (.ref dk), some (.int b), some (.int r), some cv, some du, some (.ref p1), some (.ref p2), some (.ref p3), some (.ref p4), some ov] ∧ ∃ zs, M' = [(dk, D4.ho), (l1, .lst ys1), (l3, .lst zs)]) (sv_ifN (ev_own (C := T.c_Sheet) ⟨p3, dx3, l3, 2, b, r, ys3, cs ++ ds, [(p1, cs), (p2, ds), (p4, ds ++ cs)]⟩ (ea_cons (ev_var rfl) (ea_cons (ev_var rfl) (ea_cons (ev_var rfl) (ea_cons (hcat _ _ _ e1419 rfl rfl) (ea_cons (ev_varP rfl hov) ea_nil))))) (e1419 _ _ hp3) rfl hy3 gj ?_) fun G' M' e z => sv_next fun G2' e' => ⟨rfl, by obtain ⟨ys, rfl⟩ := z; exact ⟨ys, rfl⟩⟩) ?_
    · intro q cs' hq
      rcases List.mem_cons.mp hq with h | hq
      · cases h
        exact ⟨g, fun ys => hS1 _ _ _ e1419⟩
      · rcases List.mem_cons.mp hq with h | hq
        · cases h
          exact ⟨g', fun ys => hS2 _ _ e1419⟩
        · cases List.mem_singleton.mp hq
          exact ⟨gt, fun ys => hS4 _ _ e1419⟩
    rintro G20 σ20 M20 e20 ⟨rfl, zs, rfl⟩
    have e1420 := e1419.trans e20
    refine sv_ifN (ev_own (C := T.c_Sheet) ⟨p1, dx1, l1, 1, b, r, ys1, cs, [(p2, ds), (p4, ds ++ cs)]⟩ (ea_cons (ev_var rfl) (ea_cons (ev_var rfl) (ea_cons (ev_var rfl) (ea_cons (ev_varP rfl (dm hcv e1420)) (ea_cons (ev_oth2 (K := K) (cs := ds) (cs' := ds ++ cs) (ev_var rfl) (ev_varP rfl (dm hdu e1420)) (ev_var rfl) (hcat' _ _ _ e1420 rfl rfl)) ea_nil))))) (e1420 _ _ hp1) rfl hy1 g ?_) fun G' M' e z => ?_
    · intro q cs' hq
      rcases List.mem_cons.mp hq with h | hq
      · cases h
        exact ⟨g', fun ys => hS2 _ _ e1420⟩
      · cases List.mem_singleton.mp hq
        exact ⟨gt, fun ys => hS4 _ _ e1420⟩
    · exact sv_less (M := []) (sv_next fun G2' e' => ⟨rfl, _, _, _, _, _, _, _, _, _, _, _, rfl⟩)
  · exact fun _ _ _ _ _ => trivial
  · rintro G2 σ2 M2 e2 _
    refine sv_ret ev_c fun v' G' M' e r => r.1
end
def txt_mk {K : PySem.W.Frag} {h : Heap} {mg : Str → Option Value} (X : K.In h) (G : h.Ns mainGlobals mg) {c_Sheet : Addr} {c_SlipError : Addr} {c_InvalidSheet : Addr} {c_InvalidColumn : Addr} {c_InvalidKind : Addr} {c_InvalidLot : Addr} {c_NotAlike : Addr} {c_NotPossible : Addr} {c_TooMany : Addr} {c_Waits : Addr} {c_InvalidText : Addr} {c_InvalidCommand : Addr} {c_NothingToUndo : Addr} {c_NotReady : Addr} {c_InvalidSlips : Addr} {a_is_whole : Addr} {oc_is_whole kV_is_whole dc_is_whole pm_is_whole cd_is_whole ct_is_whole : Value} {od_is_whole an_is_whole : Option Addr} {sl_is_whole : Array (Option Value)} {a_is_column : Addr} {oc_is_column kV_is_column dc_is_column pm_is_column cd_is_column ct_is_column : Value} {od_is_column an_is_column : Option Addr} {sl_is_column : Array (Option Value)} {a__are_columns : Addr} {oc__are_columns kV__are_columns dc__are_columns pm__are_columns cd__are_columns ct__are_columns : Value} {od__are_columns an__are_columns : Option Addr} {sl__are_columns : Array (Option Value)} {a_is_base : Addr} {oc_is_base kV_is_base dc_is_base pm_is_base cd_is_base ct_is_base : Value} {od_is_base an_is_base : Option Addr} {sl_is_base : Array (Option Value)} {a_is_rows : Addr} {oc_is_rows kV_is_rows dc_is_rows pm_is_rows cd_is_rows ct_is_rows : Value} {od_is_rows an_is_rows : Option Addr} {sl_is_rows : Array (Option Value)} {a_Sheet___init__ : Addr} {oc_Sheet___init__ kV_Sheet___init__ dc_Sheet___init__ pm_Sheet___init__ cd_Sheet___init__ ct_Sheet___init__ : Value} {od_Sheet___init__ an_Sheet___init__ : Option Addr} {sl_Sheet___init__ : Array (Option Value)} {a_Sheet_base : Addr} {oc_Sheet_base kV_Sheet_base dc_Sheet_base pm_Sheet_base cd_Sheet_base ct_Sheet_base : Value} {od_Sheet_base an_Sheet_base : Option Addr} {sl_Sheet_base : Array (Option Value)} {pa_Sheet_base : Addr} {re_Sheet_base : List Value} {a_Sheet_rows : Addr} {oc_Sheet_rows kV_Sheet_rows dc_Sheet_rows pm_Sheet_rows cd_Sheet_rows ct_Sheet_rows : Value} {od_Sheet_rows an_Sheet_rows : Option Addr} {sl_Sheet_rows : Array (Option Value)} {pa_Sheet_rows : Addr} {re_Sheet_rows : List Value} {a_check_alike : Addr} {oc_check_alike kV_check_alike dc_check_alike pm_check_alike cd_check_alike ct_check_alike : Value} {od_check_alike an_check_alike : Option Addr} {sl_check_alike : Array (Option Value)} {a_Sheet___add__ : Addr} {oc_Sheet___add__ kV_Sheet___add__ dc_Sheet___add__ pm_Sheet___add__ cd_Sheet___add__ ct_Sheet___add__ : Value} {od_Sheet___add__ an_Sheet___add__ : Option Addr} {sl_Sheet___add__ : Array (Option Value)} {a_place_value : Addr} {oc_place_value kV_place_value dc_place_value pm_place_value cd_place_value ct_place_value : Value} {od_place_value an_place_value : Option Addr} {sl_place_value : Array (Option Value)} {a_Sheet_value : Addr} {oc_Sheet_value kV_Sheet_value dc_Sheet_value pm_Sheet_value cd_Sheet_value ct_Sheet_value : Value} {od_Sheet_value an_Sheet_value : Option Addr} {sl_Sheet_value : Array (Option Value)} {pa_Sheet_value : Addr} {re_Sheet_value : List Value} {a__law_cells : Addr} {oc__law_cells kV__law_cells dc__law_cells pm__law_cells cd__law_cells ct__law_cells : Value} {od__law_cells an__law_cells : Option Addr} {sl__law_cells : Array (Option Value)} {a__law_draw : Addr} {oc__law_draw kV__law_draw dc__law_draw pm__law_draw cd__law_draw ct__law_draw : Value} {od__law_draw an__law_draw : Option Addr} {sl__law_draw : Array (Option Value)} {a__law_column : Addr} {oc__law_column kV__law_column dc__law_column pm__law_column cd__law_column ct__law_column : Value} {od__law_column an__law_column : Option Addr} {sl__law_column : Array (Option Value)} {a__law_columns : Addr} {oc__law_columns kV__law_columns dc__law_columns pm__law_columns cd__law_columns ct__law_columns : Value} {od__law_columns an__law_columns : Option Addr} {sl__law_columns : Array (Option Value)} {a__law_deck : Addr} {oc__law_deck kV__law_deck dc__law_deck pm__law_deck cd__law_deck ct__law_deck : Value} {od__law_deck an__law_deck : Option Addr} {sl__law_deck : Array (Option Value)} {a_Sheet___setitem__ : Addr} {oc_Sheet___setitem__ kV_Sheet___setitem__ dc_Sheet___setitem__ pm_Sheet___setitem__ cd_Sheet___setitem__ ct_Sheet___setitem__ : Value} {od_Sheet___setitem__ an_Sheet___setitem__ : Option Addr} {sl_Sheet___setitem__ : Array (Option Value)} {a_Sheet_columns : Addr} {oc_Sheet_columns kV_Sheet_columns dc_Sheet_columns pm_Sheet_columns cd_Sheet_columns ct_Sheet_columns : Value} {od_Sheet_columns an_Sheet_columns : Option Addr} {sl_Sheet_columns : Array (Option Value)} {pa_Sheet_columns : Addr} {re_Sheet_columns : List Value} {a__law_is_integer : Addr} {oc__law_is_integer kV__law_is_integer dc__law_is_integer pm__law_is_integer cd__law_is_integer ct__law_is_integer : Value} {od__law_is_integer an__law_is_integer : Option Addr} {sl__law_is_integer : Array (Option Value)} {a__law_is_column : Addr} {oc__law_is_column kV__law_is_column dc__law_is_column pm__law_is_column cd__law_is_column ct__law_is_column : Value} {od__law_is_column an__law_is_column : Option Addr} {sl__law_is_column : Array (Option Value)} {a__law_are_columns : Addr} {oc__law_are_columns kV__law_are_columns dc__law_are_columns pm__law_are_columns cd__law_are_columns ct__law_are_columns : Value} {od__law_are_columns an__law_are_columns : Option Addr} {sl__law_are_columns : Array (Option Value)} {a__law_right : Addr} {oc__law_right kV__law_right dc__law_right pm__law_right cd__law_right ct__law_right : Value} {od__law_right an__law_right : Option Addr} {sl__law_right : Array (Option Value)} {a__law_own : Addr} {oc__law_own kV__law_own dc__law_own pm__law_own cd__law_own ct__law_own : Value} {od__law_own an__law_own : Option Addr} {sl__law_own : Array (Option Value)} {a_Sheet___len__ : Addr} {oc_Sheet___len__ kV_Sheet___len__ dc_Sheet___len__ pm_Sheet___len__ cd_Sheet___len__ ct_Sheet___len__ : Value} {od_Sheet___len__ an_Sheet___len__ : Option Addr} {sl_Sheet___len__ : Array (Option Value)} {a_Sheet_cut : Addr} {oc_Sheet_cut kV_Sheet_cut dc_Sheet_cut pm_Sheet_cut cd_Sheet_cut ct_Sheet_cut : Value} {od_Sheet_cut an_Sheet_cut : Option Addr} {sl_Sheet_cut : Array (Option Value)} {a__law_parts : Addr} {oc__law_parts kV__law_parts dc__law_parts pm__law_parts cd__law_parts ct__law_parts : Value} {od__law_parts an__law_parts : Option Addr} {sl__law_parts : Array (Option Value)} {a__law_power : Addr} {oc__law_power kV__law_power dc__law_power pm__law_power cd__law_power ct__law_power : Value} {od__law_power an__law_power : Option Addr} {sl__law_power : Array (Option Value)} {a__law_joined : Addr} {oc__law_joined kV__law_joined dc__law_joined pm__law_joined cd__law_joined ct__law_joined : Value} {od__law_joined an__law_joined : Option Addr} {sl__law_joined : Array (Option Value)} {a__law_strange : Addr} {oc__law_strange kV__law_strange dc__law_strange pm__law_strange cd__law_strange ct__law_strange : Value} {od__law_strange an__law_strange : Option Addr} {sl__law_strange : Array (Option Value)} {a_law : Addr} {oc_law kV_law dc_law pm_law cd_law ct_law : Value} {od_law an_law : Option Addr} {sl_law : Array (Option Value)} {tk_MOST_BASE : Tok} {tk_MOST_ROWS : Tok}
    (ac_Sheet : PySem.W.nsIn K mainGlobals "Sheet" = some (some (.ref c_Sheet)))
    (ac_SlipError : PySem.W.nsIn K mainGlobals "SlipError" = some (some (.ref c_SlipError)))
    (ac_InvalidSheet : PySem.W.nsIn K mainGlobals "InvalidSheet" = some (some (.ref c_InvalidSheet)))
    (ac_InvalidColumn : PySem.W.nsIn K mainGlobals "InvalidColumn" = some (some (.ref c_InvalidColumn)))
    (ac_InvalidKind : PySem.W.nsIn K mainGlobals "InvalidKind" = some (some (.ref c_InvalidKind)))
    (ac_InvalidLot : PySem.W.nsIn K mainGlobals "InvalidLot" = some (some (.ref c_InvalidLot)))
    (ac_NotAlike : PySem.W.nsIn K mainGlobals "NotAlike" = some (some (.ref c_NotAlike)))
    (ac_NotPossible : PySem.W.nsIn K mainGlobals "NotPossible" = some (some (.ref c_NotPossible)))
    (ac_TooMany : PySem.W.nsIn K mainGlobals "TooMany" = some (some (.ref c_TooMany)))
    (ac_Waits : PySem.W.nsIn K mainGlobals "Waits" = some (some (.ref c_Waits)))
    (ac_InvalidText : PySem.W.nsIn K mainGlobals "InvalidText" = some (some (.ref c_InvalidText)))
    (ac_InvalidCommand : PySem.W.nsIn K mainGlobals "InvalidCommand" = some (some (.ref c_InvalidCommand)))
    (ac_NothingToUndo : PySem.W.nsIn K mainGlobals "NothingToUndo" = some (some (.ref c_NothingToUndo)))
    (ac_NotReady : PySem.W.nsIn K mainGlobals "NotReady" = some (some (.ref c_NotReady)))
    (ac_InvalidSlips : PySem.W.nsIn K mainGlobals "InvalidSlips" = some (some (.ref c_InvalidSlips)))
    (af_is_whole : PySem.W.nsIn K mainGlobals "is_whole" = some (some (.ref a_is_whole)))
    (lf_is_whole : K.lookup a_is_whole = some ⟨oc_is_whole, od_is_whole, .func (PySem.W.fnOf "is_whole" "is_whole" (defArgs s_is_whole) (defBody s_is_whole) (defScope s_is_whole) .none kV_is_whole dc_is_whole pm_is_whole an_is_whole cd_is_whole ct_is_whole), sl_is_whole⟩)
    (cf_is_whole : PySem.W.codeIn K cd_is_whole "is_whole" = true)
    (kf_is_whole : PySem.W.keepIn K (.ref a_is_whole) = true)
    (af_is_column : PySem.W.nsIn K mainGlobals "is_column" = some (some (.ref a_is_column)))
    (lf_is_column : K.lookup a_is_column = some ⟨oc_is_column, od_is_column, .func (PySem.W.fnOf "is_column" "is_column" (defArgs s_is_column) (defBody s_is_column) (defScope s_is_column) .none kV_is_column dc_is_column pm_is_column an_is_column cd_is_column ct_is_column), sl_is_column⟩)
    (cf_is_column : PySem.W.codeIn K cd_is_column "is_column" = true)
    (kf_is_column : PySem.W.keepIn K (.ref a_is_column) = true)
    (af__are_columns : PySem.W.nsIn K mainGlobals "_are_columns" = some (some (.ref a__are_columns)))
    (lf__are_columns : K.lookup a__are_columns = some ⟨oc__are_columns, od__are_columns, .func (PySem.W.fnOf "_are_columns" "_are_columns" (defArgs s__are_columns) (defBody s__are_columns) (defScope s__are_columns) .none kV__are_columns dc__are_columns pm__are_columns an__are_columns cd__are_columns ct__are_columns), sl__are_columns⟩)
    (cf__are_columns : PySem.W.codeIn K cd__are_columns "_are_columns" = true)
    (kf__are_columns : PySem.W.keepIn K (.ref a__are_columns) = true)
    (af_is_base : PySem.W.nsIn K mainGlobals "is_base" = some (some (.ref a_is_base)))
    (lf_is_base : K.lookup a_is_base = some ⟨oc_is_base, od_is_base, .func (PySem.W.fnOf "is_base" "is_base" (defArgs s_is_base) (defBody s_is_base) (defScope s_is_base) .none kV_is_base dc_is_base pm_is_base an_is_base cd_is_base ct_is_base), sl_is_base⟩)
    (cf_is_base : PySem.W.codeIn K cd_is_base "is_base" = true)
    (kf_is_base : PySem.W.keepIn K (.ref a_is_base) = true)
    (af_is_rows : PySem.W.nsIn K mainGlobals "is_rows" = some (some (.ref a_is_rows)))
    (lf_is_rows : K.lookup a_is_rows = some ⟨oc_is_rows, od_is_rows, .func (PySem.W.fnOf "is_rows" "is_rows" (defArgs s_is_rows) (defBody s_is_rows) (defScope s_is_rows) .none kV_is_rows dc_is_rows pm_is_rows an_is_rows cd_is_rows ct_is_rows), sl_is_rows⟩)
    (cf_is_rows : PySem.W.codeIn K cd_is_rows "is_rows" = true)
    (kf_is_rows : PySem.W.keepIn K (.ref a_is_rows) = true)
    (af_Sheet___init__ : PySem.W.findIn K (.ref c_Sheet) "__init__" = some (some (.ref a_Sheet___init__)))
    (if_Sheet___init__ : PySem.W.isFn K (.ref a_Sheet___init__) = true)
    (lf_Sheet___init__ : K.lookup a_Sheet___init__ = some ⟨oc_Sheet___init__, od_Sheet___init__, .func (PySem.W.fnOf "__init__" "Sheet.__init__" (defArgs s_Sheet___init__) (defBody s_Sheet___init__) (defScope s_Sheet___init__) .none kV_Sheet___init__ dc_Sheet___init__ pm_Sheet___init__ an_Sheet___init__ cd_Sheet___init__ ct_Sheet___init__), sl_Sheet___init__⟩)
    (cf_Sheet___init__ : PySem.W.codeIn K cd_Sheet___init__ "Sheet.__init__" = true)
    (kf_Sheet___init__ : PySem.W.keepIn K (.ref a_Sheet___init__) = true)
    (pf_Sheet_base : PySem.W.findIn K (.ref c_Sheet) "base" = some (some (.ref pa_Sheet_base)))
    (pg_Sheet_base : PySem.W.specialIn K (.ref pa_Sheet_base) "__get__" = some (some (.builtin "property.__get__")))
    (pt_Sheet_base : PySem.W.takesIn K (.ref pa_Sheet_base) = some true)
    (pr_Sheet_base : PySem.W.recIn K pa_Sheet_base "property" = some (.ref a_Sheet_base :: re_Sheet_base))
    (lf_Sheet_base : K.lookup a_Sheet_base = some ⟨oc_Sheet_base, od_Sheet_base, .func (PySem.W.fnOf "base" "Sheet.base" (defArgs s_Sheet_base) (defBody s_Sheet_base) (defScope s_Sheet_base) .none kV_Sheet_base dc_Sheet_base pm_Sheet_base an_Sheet_base cd_Sheet_base ct_Sheet_base), sl_Sheet_base⟩)
    (cf_Sheet_base : PySem.W.codeIn K cd_Sheet_base "Sheet.base" = true)
    (kf_Sheet_base : PySem.W.keepIn K (.ref a_Sheet_base) = true)
    (pf_Sheet_rows : PySem.W.findIn K (.ref c_Sheet) "rows" = some (some (.ref pa_Sheet_rows)))
    (pg_Sheet_rows : PySem.W.specialIn K (.ref pa_Sheet_rows) "__get__" = some (some (.builtin "property.__get__")))
    (pt_Sheet_rows : PySem.W.takesIn K (.ref pa_Sheet_rows) = some true)
    (pr_Sheet_rows : PySem.W.recIn K pa_Sheet_rows "property" = some (.ref a_Sheet_rows :: re_Sheet_rows))
    (lf_Sheet_rows : K.lookup a_Sheet_rows = some ⟨oc_Sheet_rows, od_Sheet_rows, .func (PySem.W.fnOf "rows" "Sheet.rows" (defArgs s_Sheet_rows) (defBody s_Sheet_rows) (defScope s_Sheet_rows) .none kV_Sheet_rows dc_Sheet_rows pm_Sheet_rows an_Sheet_rows cd_Sheet_rows ct_Sheet_rows), sl_Sheet_rows⟩)
    (cf_Sheet_rows : PySem.W.codeIn K cd_Sheet_rows "Sheet.rows" = true)
    (kf_Sheet_rows : PySem.W.keepIn K (.ref a_Sheet_rows) = true)
    (af_check_alike : PySem.W.nsIn K mainGlobals "check_alike" = some (some (.ref a_check_alike)))
    (lf_check_alike : K.lookup a_check_alike = some ⟨oc_check_alike, od_check_alike, .func (PySem.W.fnOf "check_alike" "check_alike" (defArgs s_check_alike) (defBody s_check_alike) (defScope s_check_alike) .none kV_check_alike dc_check_alike pm_check_alike an_check_alike cd_check_alike ct_check_alike), sl_check_alike⟩)
    (cf_check_alike : PySem.W.codeIn K cd_check_alike "check_alike" = true)
    (kf_check_alike : PySem.W.keepIn K (.ref a_check_alike) = true)
    (af_Sheet___add__ : PySem.W.findIn K (.ref c_Sheet) "__add__" = some (some (.ref a_Sheet___add__)))
    (if_Sheet___add__ : PySem.W.isFn K (.ref a_Sheet___add__) = true)
    (lf_Sheet___add__ : K.lookup a_Sheet___add__ = some ⟨oc_Sheet___add__, od_Sheet___add__, .func (PySem.W.fnOf "__add__" "Sheet.__add__" (defArgs s_Sheet___add__) (defBody s_Sheet___add__) (defScope s_Sheet___add__) .none kV_Sheet___add__ dc_Sheet___add__ pm_Sheet___add__ an_Sheet___add__ cd_Sheet___add__ ct_Sheet___add__), sl_Sheet___add__⟩)
    (cf_Sheet___add__ : PySem.W.codeIn K cd_Sheet___add__ "Sheet.__add__" = true)
    (kf_Sheet___add__ : PySem.W.keepIn K (.ref a_Sheet___add__) = true)
    (af_place_value : PySem.W.nsIn K mainGlobals "place_value" = some (some (.ref a_place_value)))
    (lf_place_value : K.lookup a_place_value = some ⟨oc_place_value, od_place_value, .func (PySem.W.fnOf "place_value" "place_value" (defArgs s_place_value) (defBody s_place_value) (defScope s_place_value) .none kV_place_value dc_place_value pm_place_value an_place_value cd_place_value ct_place_value), sl_place_value⟩)
    (cf_place_value : PySem.W.codeIn K cd_place_value "place_value" = true)
    (kf_place_value : PySem.W.keepIn K (.ref a_place_value) = true)
    (pf_Sheet_value : PySem.W.findIn K (.ref c_Sheet) "value" = some (some (.ref pa_Sheet_value)))
    (pg_Sheet_value : PySem.W.specialIn K (.ref pa_Sheet_value) "__get__" = some (some (.builtin "property.__get__")))
    (pt_Sheet_value : PySem.W.takesIn K (.ref pa_Sheet_value) = some true)
    (pr_Sheet_value : PySem.W.recIn K pa_Sheet_value "property" = some (.ref a_Sheet_value :: re_Sheet_value))
    (lf_Sheet_value : K.lookup a_Sheet_value = some ⟨oc_Sheet_value, od_Sheet_value, .func (PySem.W.fnOf "value" "Sheet.value" (defArgs s_Sheet_value) (defBody s_Sheet_value) (defScope s_Sheet_value) .none kV_Sheet_value dc_Sheet_value pm_Sheet_value an_Sheet_value cd_Sheet_value ct_Sheet_value), sl_Sheet_value⟩)
    (cf_Sheet_value : PySem.W.codeIn K cd_Sheet_value "Sheet.value" = true)
    (kf_Sheet_value : PySem.W.keepIn K (.ref a_Sheet_value) = true)
    (af__law_cells : PySem.W.nsIn K mainGlobals "_law_cells" = some (some (.ref a__law_cells)))
    (lf__law_cells : K.lookup a__law_cells = some ⟨oc__law_cells, od__law_cells, .func (PySem.W.fnOf "_law_cells" "_law_cells" (defArgs s__law_cells) (defBody s__law_cells) (defScope s__law_cells) .none kV__law_cells dc__law_cells pm__law_cells an__law_cells cd__law_cells ct__law_cells), sl__law_cells⟩)
    (cf__law_cells : PySem.W.codeIn K cd__law_cells "_law_cells" = true)
    (kf__law_cells : PySem.W.keepIn K (.ref a__law_cells) = true)
    (af__law_draw : PySem.W.nsIn K mainGlobals "_law_draw" = some (some (.ref a__law_draw)))
    (lf__law_draw : K.lookup a__law_draw = some ⟨oc__law_draw, od__law_draw, .func (PySem.W.fnOf "_law_draw" "_law_draw" (defArgs s__law_draw) (defBody s__law_draw) (defScope s__law_draw) .none kV__law_draw dc__law_draw pm__law_draw an__law_draw cd__law_draw ct__law_draw), sl__law_draw⟩)
    (cf__law_draw : PySem.W.codeIn K cd__law_draw "_law_draw" = true)
    (kf__law_draw : PySem.W.keepIn K (.ref a__law_draw) = true)
    (af__law_column : PySem.W.nsIn K mainGlobals "_law_column" = some (some (.ref a__law_column)))
    (lf__law_column : K.lookup a__law_column = some ⟨oc__law_column, od__law_column, .func (PySem.W.fnOf "_law_column" "_law_column" (defArgs s__law_column) (defBody s__law_column) (defScope s__law_column) .none kV__law_column dc__law_column pm__law_column an__law_column cd__law_column ct__law_column), sl__law_column⟩)
    (cf__law_column : PySem.W.codeIn K cd__law_column "_law_column" = true)
    (kf__law_column : PySem.W.keepIn K (.ref a__law_column) = true)
    (af__law_columns : PySem.W.nsIn K mainGlobals "_law_columns" = some (some (.ref a__law_columns)))
    (lf__law_columns : K.lookup a__law_columns = some ⟨oc__law_columns, od__law_columns, .func (PySem.W.fnOf "_law_columns" "_law_columns" (defArgs s__law_columns) (defBody s__law_columns) (defScope s__law_columns) .none kV__law_columns dc__law_columns pm__law_columns an__law_columns cd__law_columns ct__law_columns), sl__law_columns⟩)
    (cf__law_columns : PySem.W.codeIn K cd__law_columns "_law_columns" = true)
    (kf__law_columns : PySem.W.keepIn K (.ref a__law_columns) = true)
    (af__law_deck : PySem.W.nsIn K mainGlobals "_law_deck" = some (some (.ref a__law_deck)))
    (lf__law_deck : K.lookup a__law_deck = some ⟨oc__law_deck, od__law_deck, .func (PySem.W.fnOf "_law_deck" "_law_deck" (defArgs s__law_deck) (defBody s__law_deck) (defScope s__law_deck) .none kV__law_deck dc__law_deck pm__law_deck an__law_deck cd__law_deck ct__law_deck), sl__law_deck⟩)
    (cf__law_deck : PySem.W.codeIn K cd__law_deck "_law_deck" = true)
    (kf__law_deck : PySem.W.keepIn K (.ref a__law_deck) = true)
    (af_Sheet___setitem__ : PySem.W.findIn K (.ref c_Sheet) "__setitem__" = some (some (.ref a_Sheet___setitem__)))
    (if_Sheet___setitem__ : PySem.W.isFn K (.ref a_Sheet___setitem__) = true)
    (lf_Sheet___setitem__ : K.lookup a_Sheet___setitem__ = some ⟨oc_Sheet___setitem__, od_Sheet___setitem__, .func (PySem.W.fnOf "__setitem__" "Sheet.__setitem__" (defArgs s_Sheet___setitem__) (defBody s_Sheet___setitem__) (defScope s_Sheet___setitem__) .none kV_Sheet___setitem__ dc_Sheet___setitem__ pm_Sheet___setitem__ an_Sheet___setitem__ cd_Sheet___setitem__ ct_Sheet___setitem__), sl_Sheet___setitem__⟩)
    (cf_Sheet___setitem__ : PySem.W.codeIn K cd_Sheet___setitem__ "Sheet.__setitem__" = true)
    (kf_Sheet___setitem__ : PySem.W.keepIn K (.ref a_Sheet___setitem__) = true)
    (pf_Sheet_columns : PySem.W.findIn K (.ref c_Sheet) "columns" = some (some (.ref pa_Sheet_columns)))
    (pg_Sheet_columns : PySem.W.specialIn K (.ref pa_Sheet_columns) "__get__" = some (some (.builtin "property.__get__")))
    (pt_Sheet_columns : PySem.W.takesIn K (.ref pa_Sheet_columns) = some true)
    (pr_Sheet_columns : PySem.W.recIn K pa_Sheet_columns "property" = some (.ref a_Sheet_columns :: re_Sheet_columns))
    (lf_Sheet_columns : K.lookup a_Sheet_columns = some ⟨oc_Sheet_columns, od_Sheet_columns, .func (PySem.W.fnOf "columns" "Sheet.columns" (defArgs s_Sheet_columns) (defBody s_Sheet_columns) (defScope s_Sheet_columns) .none kV_Sheet_columns dc_Sheet_columns pm_Sheet_columns an_Sheet_columns cd_Sheet_columns ct_Sheet_columns), sl_Sheet_columns⟩)
    (cf_Sheet_columns : PySem.W.codeIn K cd_Sheet_columns "Sheet.columns" = true)
    (kf_Sheet_columns : PySem.W.keepIn K (.ref a_Sheet_columns) = true)
    (af__law_is_integer : PySem.W.nsIn K mainGlobals "_law_is_integer" = some (some (.ref a__law_is_integer)))
    (lf__law_is_integer : K.lookup a__law_is_integer = some ⟨oc__law_is_integer, od__law_is_integer, .func (PySem.W.fnOf "_law_is_integer" "_law_is_integer" (defArgs s__law_is_integer) (defBody s__law_is_integer) (defScope s__law_is_integer) .none kV__law_is_integer dc__law_is_integer pm__law_is_integer an__law_is_integer cd__law_is_integer ct__law_is_integer), sl__law_is_integer⟩)
    (cf__law_is_integer : PySem.W.codeIn K cd__law_is_integer "_law_is_integer" = true)
    (kf__law_is_integer : PySem.W.keepIn K (.ref a__law_is_integer) = true)
    (af__law_is_column : PySem.W.nsIn K mainGlobals "_law_is_column" = some (some (.ref a__law_is_column)))
    (lf__law_is_column : K.lookup a__law_is_column = some ⟨oc__law_is_column, od__law_is_column, .func (PySem.W.fnOf "_law_is_column" "_law_is_column" (defArgs s__law_is_column) (defBody s__law_is_column) (defScope s__law_is_column) .none kV__law_is_column dc__law_is_column pm__law_is_column an__law_is_column cd__law_is_column ct__law_is_column), sl__law_is_column⟩)
    (cf__law_is_column : PySem.W.codeIn K cd__law_is_column "_law_is_column" = true)
    (kf__law_is_column : PySem.W.keepIn K (.ref a__law_is_column) = true)
    (af__law_are_columns : PySem.W.nsIn K mainGlobals "_law_are_columns" = some (some (.ref a__law_are_columns)))
    (lf__law_are_columns : K.lookup a__law_are_columns = some ⟨oc__law_are_columns, od__law_are_columns, .func (PySem.W.fnOf "_law_are_columns" "_law_are_columns" (defArgs s__law_are_columns) (defBody s__law_are_columns) (defScope s__law_are_columns) .none kV__law_are_columns dc__law_are_columns pm__law_are_columns an__law_are_columns cd__law_are_columns ct__law_are_columns), sl__law_are_columns⟩)
    (cf__law_are_columns : PySem.W.codeIn K cd__law_are_columns "_law_are_columns" = true)
    (kf__law_are_columns : PySem.W.keepIn K (.ref a__law_are_columns) = true)
    (af__law_right : PySem.W.nsIn K mainGlobals "_law_right" = some (some (.ref a__law_right)))
    (lf__law_right : K.lookup a__law_right = some ⟨oc__law_right, od__law_right, .func (PySem.W.fnOf "_law_right" "_law_right" (defArgs s__law_right) (defBody s__law_right) (defScope s__law_right) .none kV__law_right dc__law_right pm__law_right an__law_right cd__law_right ct__law_right), sl__law_right⟩)
    (cf__law_right : PySem.W.codeIn K cd__law_right "_law_right" = true)
    (kf__law_right : PySem.W.keepIn K (.ref a__law_right) = true)
    (af__law_own : PySem.W.nsIn K mainGlobals "_law_own" = some (some (.ref a__law_own)))
    (lf__law_own : K.lookup a__law_own = some ⟨oc__law_own, od__law_own, .func (PySem.W.fnOf "_law_own" "_law_own" (defArgs s__law_own) (defBody s__law_own) (defScope s__law_own) .none kV__law_own dc__law_own pm__law_own an__law_own cd__law_own ct__law_own), sl__law_own⟩)
    (cf__law_own : PySem.W.codeIn K cd__law_own "_law_own" = true)
    (kf__law_own : PySem.W.keepIn K (.ref a__law_own) = true)
    (af_Sheet___len__ : PySem.W.findIn K (.ref c_Sheet) "__len__" = some (some (.ref a_Sheet___len__)))
    (if_Sheet___len__ : PySem.W.isFn K (.ref a_Sheet___len__) = true)
    (lf_Sheet___len__ : K.lookup a_Sheet___len__ = some ⟨oc_Sheet___len__, od_Sheet___len__, .func (PySem.W.fnOf "__len__" "Sheet.__len__" (defArgs s_Sheet___len__) (defBody s_Sheet___len__) (defScope s_Sheet___len__) .none kV_Sheet___len__ dc_Sheet___len__ pm_Sheet___len__ an_Sheet___len__ cd_Sheet___len__ ct_Sheet___len__), sl_Sheet___len__⟩)
    (cf_Sheet___len__ : PySem.W.codeIn K cd_Sheet___len__ "Sheet.__len__" = true)
    (kf_Sheet___len__ : PySem.W.keepIn K (.ref a_Sheet___len__) = true)
    (af_Sheet_cut : PySem.W.findIn K (.ref c_Sheet) "cut" = some (some (.ref a_Sheet_cut)))
    (if_Sheet_cut : PySem.W.isFn K (.ref a_Sheet_cut) = true)
    (lf_Sheet_cut : K.lookup a_Sheet_cut = some ⟨oc_Sheet_cut, od_Sheet_cut, .func (PySem.W.fnOf "cut" "Sheet.cut" (defArgs s_Sheet_cut) (defBody s_Sheet_cut) (defScope s_Sheet_cut) .none kV_Sheet_cut dc_Sheet_cut pm_Sheet_cut an_Sheet_cut cd_Sheet_cut ct_Sheet_cut), sl_Sheet_cut⟩)
    (cf_Sheet_cut : PySem.W.codeIn K cd_Sheet_cut "Sheet.cut" = true)
    (kf_Sheet_cut : PySem.W.keepIn K (.ref a_Sheet_cut) = true)
    (af__law_parts : PySem.W.nsIn K mainGlobals "_law_parts" = some (some (.ref a__law_parts)))
    (lf__law_parts : K.lookup a__law_parts = some ⟨oc__law_parts, od__law_parts, .func (PySem.W.fnOf "_law_parts" "_law_parts" (defArgs s__law_parts) (defBody s__law_parts) (defScope s__law_parts) .none kV__law_parts dc__law_parts pm__law_parts an__law_parts cd__law_parts ct__law_parts), sl__law_parts⟩)
    (cf__law_parts : PySem.W.codeIn K cd__law_parts "_law_parts" = true)
    (kf__law_parts : PySem.W.keepIn K (.ref a__law_parts) = true)
    (af__law_power : PySem.W.nsIn K mainGlobals "_law_power" = some (some (.ref a__law_power)))
    (lf__law_power : K.lookup a__law_power = some ⟨oc__law_power, od__law_power, .func (PySem.W.fnOf "_law_power" "_law_power" (defArgs s__law_power) (defBody s__law_power) (defScope s__law_power) .none kV__law_power dc__law_power pm__law_power an__law_power cd__law_power ct__law_power), sl__law_power⟩)
    (cf__law_power : PySem.W.codeIn K cd__law_power "_law_power" = true)
    (kf__law_power : PySem.W.keepIn K (.ref a__law_power) = true)
    (af__law_joined : PySem.W.nsIn K mainGlobals "_law_joined" = some (some (.ref a__law_joined)))
    (lf__law_joined : K.lookup a__law_joined = some ⟨oc__law_joined, od__law_joined, .func (PySem.W.fnOf "_law_joined" "_law_joined" (defArgs s__law_joined) (defBody s__law_joined) (defScope s__law_joined) .none kV__law_joined dc__law_joined pm__law_joined an__law_joined cd__law_joined ct__law_joined), sl__law_joined⟩)
    (cf__law_joined : PySem.W.codeIn K cd__law_joined "_law_joined" = true)
    (kf__law_joined : PySem.W.keepIn K (.ref a__law_joined) = true)
    (af__law_strange : PySem.W.nsIn K mainGlobals "_law_strange" = some (some (.ref a__law_strange)))
    (lf__law_strange : K.lookup a__law_strange = some ⟨oc__law_strange, od__law_strange, .func (PySem.W.fnOf "_law_strange" "_law_strange" (defArgs s__law_strange) (defBody s__law_strange) (defScope s__law_strange) .none kV__law_strange dc__law_strange pm__law_strange an__law_strange cd__law_strange ct__law_strange), sl__law_strange⟩)
    (cf__law_strange : PySem.W.codeIn K cd__law_strange "_law_strange" = true)
    (kf__law_strange : PySem.W.keepIn K (.ref a__law_strange) = true)
    (af_law : PySem.W.nsIn K mainGlobals "law" = some (some (.ref a_law)))
    (lf_law : K.lookup a_law = some ⟨oc_law, od_law, .func (PySem.W.fnOf "law" "law" (defArgs s_law) (defBody s_law) (defScope s_law) .none kV_law dc_law pm_law an_law cd_law ct_law), sl_law⟩)
    (cf_law : PySem.W.codeIn K cd_law "law" = true)
    (kf_law : PySem.W.keepIn K (.ref a_law) = true)
    (pg_Sheet : PySem.W.plainGet K c_Sheet Str.empty = true)
    (hd_Sheet : PySem.W.hasDictIn K c_Sheet = true)
    (po_Sheet : PySem.W.plainOver K c_Sheet = true)
    (sa_Sheet : PySem.W.findIn K (.ref c_Sheet) "__setattr__" = some (some (.builtin "object.__setattr__")))
    (mk_Sheet : PySem.W.makesIn K c_Sheet = true)
    (kc_Sheet : PySem.W.keepIn K (.ref c_Sheet) = true)
    (na_Sheet__base : PySem.W.findIn K (.ref c_Sheet) "_base" = some none)
    (na_Sheet__columns : PySem.W.findIn K (.ref c_Sheet) "_columns" = some none)
    (na_Sheet__rows : PySem.W.findIn K (.ref c_Sheet) "_rows" = some none)
    (ns_Sheet : PySem.W.noSeq K c_Sheet = true)
    (sf_Sheet : PySem.W.selfFirst K c_Sheet = true)
    (ic1_Sheet : PySem.W.findIn K (.ref c_Sheet) "__class__" = some (some (.builtin "object.__class__")))
    (ic4_Sheet : PySem.W.mroIn K c_Sheet (.type "object") = some true)
    (icn : PySem.W.specialIn K (.builtin "object.__class__") "__get__" = some (some (.builtin "getset_descriptor.__get__")))
    (ict : PySem.W.takesIn K (.builtin "object.__class__") = some true)
    (io_Sheet : PySem.W.kitOne K (.ref c_Sheet) (.ref c_Sheet) = some true)
    (x_InvalidColumn : PySem.W.excIn K c_InvalidColumn [.type "ValueError", .type "Exception", .type "BaseException", .type "object"] "ValueError.__new__" = true)
    (xk_InvalidColumn : PySem.W.keepIn K (.ref c_InvalidColumn) = true)
    (xb_InvalidColumn : PySem.W.subIn K (.ref c_InvalidColumn) (.type "BaseException") = some true)
    (xt_InvalidColumn : PySem.W.typeIn K (.ref c_InvalidColumn) = some (.type "type"))
    (x_InvalidSheet : PySem.W.excIn K c_InvalidSheet [.type "ValueError", .type "Exception", .type "BaseException", .type "object"] "ValueError.__new__" = true)
    (xk_InvalidSheet : PySem.W.keepIn K (.ref c_InvalidSheet) = true)
    (xb_InvalidSheet : PySem.W.subIn K (.ref c_InvalidSheet) (.type "BaseException") = some true)
    (xt_InvalidSheet : PySem.W.typeIn K (.ref c_InvalidSheet) = some (.type "type"))
    (x_NotAlike : PySem.W.excIn K c_NotAlike [.type "ValueError", .type "Exception", .type "BaseException", .type "object"] "ValueError.__new__" = true)
    (xk_NotAlike : PySem.W.keepIn K (.ref c_NotAlike) = true)
    (xb_NotAlike : PySem.W.subIn K (.ref c_NotAlike) (.type "BaseException") = some true)
    (xt_NotAlike : PySem.W.typeIn K (.ref c_NotAlike) = some (.type "type"))
    (e1_NotAlike : PySem.W.findIn K (.ref c_NotAlike) "__getattribute__" = some (some (.builtin "BaseException.__getattribute__")))
    (e2_NotAlike : PySem.W.findIn K (.ref c_NotAlike) "__getattr__" = some none)
    (e3_NotAlike : PySem.W.hasDictIn K c_NotAlike = true)
    (e4_NotAlike : PySem.W.findIn K (.ref c_NotAlike) "__class__" = some (some (.builtin "object.__class__")))
    (e5_NotAlike : PySem.W.mroIn K c_NotAlike (.type "object") = some true)
    (em_NotAlike_SlipError : PySem.W.exmOne K (.ref c_NotAlike) (.ref c_SlipError) = some true)
    (q_NotAlike_NotAlike : PySem.W.kitOne K (.ref c_NotAlike) (.ref c_NotAlike) = some true)
    (q_NotAlike_ValueError : PySem.W.kitOne K (.ref c_NotAlike) (.type "ValueError") = some true)
    (qa_NotAlike_1 : PySem.W.kitAny K (.ref c_NotAlike) [.ref c_InvalidSheet, .ref c_InvalidCommand, .ref c_InvalidKind, .ref c_InvalidLot, .ref c_InvalidSlips, .ref c_InvalidText] = some false)
    (qa_NotAlike_2 : PySem.W.kitAny K (.ref c_NotAlike) [.ref c_InvalidColumn, .ref c_NotPossible, .ref c_NotReady, .ref c_NothingToUndo, .ref c_TooMany, .ref c_Waits] = some false)
    (nb_ValueError : PySem.W.nsIn K mainGlobals "ValueError" = some none)
    (nb_all : PySem.W.nsIn K mainGlobals "all" = some none)
    (nb_bool : PySem.W.nsIn K mainGlobals "bool" = some none)
    (nb_int : PySem.W.nsIn K mainGlobals "int" = some none)
    (nb_isinstance : PySem.W.nsIn K mainGlobals "isinstance" = some none)
    (nb_len : PySem.W.nsIn K mainGlobals "len" = some none)
    (nb_list : PySem.W.nsIn K mainGlobals "list" = some none)
    (nb_range : PySem.W.nsIn K mainGlobals "range" = some none)
    (nb_sum : PySem.W.nsIn K mainGlobals "sum" = some none)
    (nb_tuple : PySem.W.nsIn K mainGlobals "tuple" = some none)
    (ak_MOST_BASE : PySem.W.nsIn K mainGlobals "MOST_BASE" = some (some (.int 12 tk_MOST_BASE)))
    (ak_MOST_ROWS : PySem.W.nsIn K mainGlobals "MOST_ROWS" = some (some (.int 4 tk_MOST_ROWS)))
    : Txt K mg where
  c_Sheet := c_Sheet
  m_Sheet := PySem.W.mg_of X G ac_Sheet
  c_SlipError := c_SlipError
  m_SlipError := PySem.W.mg_of X G ac_SlipError
  c_InvalidSheet := c_InvalidSheet
  m_InvalidSheet := PySem.W.mg_of X G ac_InvalidSheet
  c_InvalidColumn := c_InvalidColumn
  m_InvalidColumn := PySem.W.mg_of X G ac_InvalidColumn
  c_InvalidKind := c_InvalidKind
  m_InvalidKind := PySem.W.mg_of X G ac_InvalidKind
  c_InvalidLot := c_InvalidLot
  m_InvalidLot := PySem.W.mg_of X G ac_InvalidLot
  c_NotAlike := c_NotAlike
  m_NotAlike := PySem.W.mg_of X G ac_NotAlike
  c_NotPossible := c_NotPossible
  m_NotPossible := PySem.W.mg_of X G ac_NotPossible
  c_TooMany := c_TooMany
  m_TooMany := PySem.W.mg_of X G ac_TooMany
  c_Waits := c_Waits
  m_Waits := PySem.W.mg_of X G ac_Waits
  c_InvalidText := c_InvalidText
  m_InvalidText := PySem.W.mg_of X G ac_InvalidText
  c_InvalidCommand := c_InvalidCommand
  m_InvalidCommand := PySem.W.mg_of X G ac_InvalidCommand
  c_NothingToUndo := c_NothingToUndo
  m_NothingToUndo := PySem.W.mg_of X G ac_NothingToUndo
  c_NotReady := c_NotReady
  m_NotReady := PySem.W.mg_of X G ac_NotReady
  c_InvalidSlips := c_InvalidSlips
  m_InvalidSlips := PySem.W.mg_of X G ac_InvalidSlips
  a_is_whole := a_is_whole
  fd_is_whole := PySem.W.fnOf "is_whole" "is_whole" (defArgs s_is_whole) (defBody s_is_whole) (defScope s_is_whole) .none kV_is_whole dc_is_whole pm_is_whole an_is_whole cd_is_whole ct_is_whole
  F_is_whole := fun_mk (st := s_is_whole) lf_is_whole cf_is_whole kf_is_whole
  b_is_whole := (fun_mk (st := s_is_whole) lf_is_whole cf_is_whole kf_is_whole).binds (ps := ["value", "low", "high"]) fun _ _ _ _ _ _ us hl => match us, hl with | [_, _, _], _ => rfl
  m_is_whole := PySem.W.mg_of X G af_is_whole
  a_is_column := a_is_column
  fd_is_column := PySem.W.fnOf "is_column" "is_column" (defArgs s_is_column) (defBody s_is_column) (defScope s_is_column) .none kV_is_column dc_is_column pm_is_column an_is_column cd_is_column ct_is_column
  F_is_column := fun_mk (st := s_is_column) lf_is_column cf_is_column kf_is_column
  b_is_column := (fun_mk (st := s_is_column) lf_is_column cf_is_column kf_is_column).binds (ps := ["base", "rows", "value"]) fun _ _ _ _ _ _ us hl => match us, hl with | [_, _, _], _ => rfl
  m_is_column := PySem.W.mg_of X G af_is_column
  a__are_columns := a__are_columns
  fd__are_columns := PySem.W.fnOf "_are_columns" "_are_columns" (defArgs s__are_columns) (defBody s__are_columns) (defScope s__are_columns) .none kV__are_columns dc__are_columns pm__are_columns an__are_columns cd__are_columns ct__are_columns
  F__are_columns := fun_mk (st := s__are_columns) lf__are_columns cf__are_columns kf__are_columns
  b__are_columns := (fun_mk (st := s__are_columns) lf__are_columns cf__are_columns kf__are_columns).binds (ps := ["base", "rows", "value"]) fun _ _ _ _ _ _ us hl => match us, hl with | [_, _, _], _ => rfl
  m__are_columns := PySem.W.mg_of X G af__are_columns
  a_is_base := a_is_base
  fd_is_base := PySem.W.fnOf "is_base" "is_base" (defArgs s_is_base) (defBody s_is_base) (defScope s_is_base) .none kV_is_base dc_is_base pm_is_base an_is_base cd_is_base ct_is_base
  F_is_base := fun_mk (st := s_is_base) lf_is_base cf_is_base kf_is_base
  b_is_base := (fun_mk (st := s_is_base) lf_is_base cf_is_base kf_is_base).binds (ps := ["value"]) fun _ _ _ _ _ _ us hl => match us, hl with | [_], _ => rfl
  m_is_base := PySem.W.mg_of X G af_is_base
  a_is_rows := a_is_rows
  fd_is_rows := PySem.W.fnOf "is_rows" "is_rows" (defArgs s_is_rows) (defBody s_is_rows) (defScope s_is_rows) .none kV_is_rows dc_is_rows pm_is_rows an_is_rows cd_is_rows ct_is_rows
  F_is_rows := fun_mk (st := s_is_rows) lf_is_rows cf_is_rows kf_is_rows
  b_is_rows := (fun_mk (st := s_is_rows) lf_is_rows cf_is_rows kf_is_rows).binds (ps := ["value"]) fun _ _ _ _ _ _ us hl => match us, hl with | [_], _ => rfl
  m_is_rows := PySem.W.mg_of X G af_is_rows
  a_Sheet___init__ := a_Sheet___init__
  fd_Sheet___init__ := PySem.W.fnOf "__init__" "Sheet.__init__" (defArgs s_Sheet___init__) (defBody s_Sheet___init__) (defScope s_Sheet___init__) .none kV_Sheet___init__ dc_Sheet___init__ pm_Sheet___init__ an_Sheet___init__ cd_Sheet___init__ ct_Sheet___init__
  F_Sheet___init__ := fun_mk (st := s_Sheet___init__) lf_Sheet___init__ cf_Sheet___init__ kf_Sheet___init__
  b_Sheet___init__ := (fun_mk (st := s_Sheet___init__) lf_Sheet___init__ cf_Sheet___init__ kf_Sheet___init__).binds (ps := ["self", "base", "rows", "columns"]) fun _ _ _ _ _ _ us hl => match us, hl with | [_, _, _, _], _ => rfl
  me_Sheet___init__ := ⟨af_Sheet___init__, if_Sheet___init__, kf_Sheet___init__⟩
  a_Sheet_base := a_Sheet_base
  fd_Sheet_base := PySem.W.fnOf "base" "Sheet.base" (defArgs s_Sheet_base) (defBody s_Sheet_base) (defScope s_Sheet_base) .none kV_Sheet_base dc_Sheet_base pm_Sheet_base an_Sheet_base cd_Sheet_base ct_Sheet_base
  F_Sheet_base := fun_mk (st := s_Sheet_base) lf_Sheet_base cf_Sheet_base kf_Sheet_base
  b_Sheet_base := (fun_mk (st := s_Sheet_base) lf_Sheet_base cf_Sheet_base kf_Sheet_base).binds (ps := ["self"]) fun _ _ _ _ _ _ us hl => match us, hl with | [_], _ => rfl
  pa_Sheet_base := pa_Sheet_base
  p_Sheet_base := ⟨pf_Sheet_base, pg_Sheet_base, pt_Sheet_base, ⟨_, pr_Sheet_base⟩⟩
  a_Sheet_rows := a_Sheet_rows
  fd_Sheet_rows := PySem.W.fnOf "rows" "Sheet.rows" (defArgs s_Sheet_rows) (defBody s_Sheet_rows) (defScope s_Sheet_rows) .none kV_Sheet_rows dc_Sheet_rows pm_Sheet_rows an_Sheet_rows cd_Sheet_rows ct_Sheet_rows
  F_Sheet_rows := fun_mk (st := s_Sheet_rows) lf_Sheet_rows cf_Sheet_rows kf_Sheet_rows
  b_Sheet_rows := (fun_mk (st := s_Sheet_rows) lf_Sheet_rows cf_Sheet_rows kf_Sheet_rows).binds (ps := ["self"]) fun _ _ _ _ _ _ us hl => match us, hl with | [_], _ => rfl
  pa_Sheet_rows := pa_Sheet_rows
  p_Sheet_rows := ⟨pf_Sheet_rows, pg_Sheet_rows, pt_Sheet_rows, ⟨_, pr_Sheet_rows⟩⟩
  a_check_alike := a_check_alike
  fd_check_alike := PySem.W.fnOf "check_alike" "check_alike" (defArgs s_check_alike) (defBody s_check_alike) (defScope s_check_alike) .none kV_check_alike dc_check_alike pm_check_alike an_check_alike cd_check_alike ct_check_alike
  F_check_alike := fun_mk (st := s_check_alike) lf_check_alike cf_check_alike kf_check_alike
  b_check_alike := (fun_mk (st := s_check_alike) lf_check_alike cf_check_alike kf_check_alike).binds (ps := ["one", "other"]) fun _ _ _ _ _ _ us hl => match us, hl with | [_, _], _ => rfl
  m_check_alike := PySem.W.mg_of X G af_check_alike
  a_Sheet___add__ := a_Sheet___add__
  fd_Sheet___add__ := PySem.W.fnOf "__add__" "Sheet.__add__" (defArgs s_Sheet___add__) (defBody s_Sheet___add__) (defScope s_Sheet___add__) .none kV_Sheet___add__ dc_Sheet___add__ pm_Sheet___add__ an_Sheet___add__ cd_Sheet___add__ ct_Sheet___add__
  F_Sheet___add__ := fun_mk (st := s_Sheet___add__) lf_Sheet___add__ cf_Sheet___add__ kf_Sheet___add__
  b_Sheet___add__ := (fun_mk (st := s_Sheet___add__) lf_Sheet___add__ cf_Sheet___add__ kf_Sheet___add__).binds (ps := ["self", "other"]) fun _ _ _ _ _ _ us hl => match us, hl with | [_, _], _ => rfl
  me_Sheet___add__ := ⟨af_Sheet___add__, if_Sheet___add__, kf_Sheet___add__⟩
  a_place_value := a_place_value
  fd_place_value := PySem.W.fnOf "place_value" "place_value" (defArgs s_place_value) (defBody s_place_value) (defScope s_place_value) .none kV_place_value dc_place_value pm_place_value an_place_value cd_place_value ct_place_value
  F_place_value := fun_mk (st := s_place_value) lf_place_value cf_place_value kf_place_value
  b_place_value := (fun_mk (st := s_place_value) lf_place_value cf_place_value kf_place_value).binds (ps := ["base", "figures", "last"]) fun _ _ _ _ _ _ us hl => match us, hl with | [_, _, _], _ => rfl
  m_place_value := PySem.W.mg_of X G af_place_value
  a_Sheet_value := a_Sheet_value
  fd_Sheet_value := PySem.W.fnOf "value" "Sheet.value" (defArgs s_Sheet_value) (defBody s_Sheet_value) (defScope s_Sheet_value) .none kV_Sheet_value dc_Sheet_value pm_Sheet_value an_Sheet_value cd_Sheet_value ct_Sheet_value
  F_Sheet_value := fun_mk (st := s_Sheet_value) lf_Sheet_value cf_Sheet_value kf_Sheet_value
  b_Sheet_value := (fun_mk (st := s_Sheet_value) lf_Sheet_value cf_Sheet_value kf_Sheet_value).binds (ps := ["self"]) fun _ _ _ _ _ _ us hl => match us, hl with | [_], _ => rfl
  pa_Sheet_value := pa_Sheet_value
  p_Sheet_value := ⟨pf_Sheet_value, pg_Sheet_value, pt_Sheet_value, ⟨_, pr_Sheet_value⟩⟩
  a__law_cells := a__law_cells
  fd__law_cells := PySem.W.fnOf "_law_cells" "_law_cells" (defArgs s__law_cells) (defBody s__law_cells) (defScope s__law_cells) .none kV__law_cells dc__law_cells pm__law_cells an__law_cells cd__law_cells ct__law_cells
  F__law_cells := fun_mk (st := s__law_cells) lf__law_cells cf__law_cells kf__law_cells
  b__law_cells := (fun_mk (st := s__law_cells) lf__law_cells cf__law_cells kf__law_cells).binds (ps := ["script"]) fun _ _ _ _ _ _ us hl => match us, hl with | [_], _ => rfl
  m__law_cells := PySem.W.mg_of X G af__law_cells
  a__law_draw := a__law_draw
  fd__law_draw := PySem.W.fnOf "_law_draw" "_law_draw" (defArgs s__law_draw) (defBody s__law_draw) (defScope s__law_draw) .none kV__law_draw dc__law_draw pm__law_draw an__law_draw cd__law_draw ct__law_draw
  F__law_draw := fun_mk (st := s__law_draw) lf__law_draw cf__law_draw kf__law_draw
  b__law_draw := (fun_mk (st := s__law_draw) lf__law_draw cf__law_draw kf__law_draw).binds (ps := ["deck", "many"]) fun _ _ _ _ _ _ us hl => match us, hl with | [_, _], _ => rfl
  m__law_draw := PySem.W.mg_of X G af__law_draw
  a__law_column := a__law_column
  fd__law_column := PySem.W.fnOf "_law_column" "_law_column" (defArgs s__law_column) (defBody s__law_column) (defScope s__law_column) .none kV__law_column dc__law_column pm__law_column an__law_column cd__law_column ct__law_column
  F__law_column := fun_mk (st := s__law_column) lf__law_column cf__law_column kf__law_column
  b__law_column := (fun_mk (st := s__law_column) lf__law_column cf__law_column kf__law_column).binds (ps := ["deck", "base", "rows"]) fun _ _ _ _ _ _ us hl => match us, hl with | [_, _, _], _ => rfl
  m__law_column := PySem.W.mg_of X G af__law_column
  a__law_columns := a__law_columns
  fd__law_columns := PySem.W.fnOf "_law_columns" "_law_columns" (defArgs s__law_columns) (defBody s__law_columns) (defScope s__law_columns) .none kV__law_columns dc__law_columns pm__law_columns an__law_columns cd__law_columns ct__law_columns
  F__law_columns := fun_mk (st := s__law_columns) lf__law_columns cf__law_columns kf__law_columns
  b__law_columns := (fun_mk (st := s__law_columns) lf__law_columns cf__law_columns kf__law_columns).binds (ps := ["deck", "base", "rows", "most"]) fun _ _ _ _ _ _ us hl => match us, hl with | [_, _, _, _], _ => rfl
  m__law_columns := PySem.W.mg_of X G af__law_columns
  a__law_deck := a__law_deck
  fd__law_deck := PySem.W.fnOf "_law_deck" "_law_deck" (defArgs s__law_deck) (defBody s__law_deck) (defScope s__law_deck) .none kV__law_deck dc__law_deck pm__law_deck an__law_deck cd__law_deck ct__law_deck
  F__law_deck := fun_mk (st := s__law_deck) lf__law_deck cf__law_deck kf__law_deck
  b__law_deck := (fun_mk (st := s__law_deck) lf__law_deck cf__law_deck kf__law_deck).binds (ps := ["cell"]) fun _ _ _ _ _ _ us hl => match us, hl with | [_], _ => rfl
  m__law_deck := PySem.W.mg_of X G af__law_deck
  a_Sheet___setitem__ := a_Sheet___setitem__
  fd_Sheet___setitem__ := PySem.W.fnOf "__setitem__" "Sheet.__setitem__" (defArgs s_Sheet___setitem__) (defBody s_Sheet___setitem__) (defScope s_Sheet___setitem__) .none kV_Sheet___setitem__ dc_Sheet___setitem__ pm_Sheet___setitem__ an_Sheet___setitem__ cd_Sheet___setitem__ ct_Sheet___setitem__
  F_Sheet___setitem__ := fun_mk (st := s_Sheet___setitem__) lf_Sheet___setitem__ cf_Sheet___setitem__ kf_Sheet___setitem__
  b_Sheet___setitem__ := (fun_mk (st := s_Sheet___setitem__) lf_Sheet___setitem__ cf_Sheet___setitem__ kf_Sheet___setitem__).binds (ps := ["self", "at", "worth"]) fun _ _ _ _ _ _ us hl => match us, hl with | [_, _, _], _ => rfl
  me_Sheet___setitem__ := ⟨af_Sheet___setitem__, if_Sheet___setitem__, kf_Sheet___setitem__⟩
  a_Sheet_columns := a_Sheet_columns
  fd_Sheet_columns := PySem.W.fnOf "columns" "Sheet.columns" (defArgs s_Sheet_columns) (defBody s_Sheet_columns) (defScope s_Sheet_columns) .none kV_Sheet_columns dc_Sheet_columns pm_Sheet_columns an_Sheet_columns cd_Sheet_columns ct_Sheet_columns
  F_Sheet_columns := fun_mk (st := s_Sheet_columns) lf_Sheet_columns cf_Sheet_columns kf_Sheet_columns
  b_Sheet_columns := (fun_mk (st := s_Sheet_columns) lf_Sheet_columns cf_Sheet_columns kf_Sheet_columns).binds (ps := ["self"]) fun _ _ _ _ _ _ us hl => match us, hl with | [_], _ => rfl
  pa_Sheet_columns := pa_Sheet_columns
  p_Sheet_columns := ⟨pf_Sheet_columns, pg_Sheet_columns, pt_Sheet_columns, ⟨_, pr_Sheet_columns⟩⟩
  a__law_is_integer := a__law_is_integer
  fd__law_is_integer := PySem.W.fnOf "_law_is_integer" "_law_is_integer" (defArgs s__law_is_integer) (defBody s__law_is_integer) (defScope s__law_is_integer) .none kV__law_is_integer dc__law_is_integer pm__law_is_integer an__law_is_integer cd__law_is_integer ct__law_is_integer
  F__law_is_integer := fun_mk (st := s__law_is_integer) lf__law_is_integer cf__law_is_integer kf__law_is_integer
  b__law_is_integer := (fun_mk (st := s__law_is_integer) lf__law_is_integer cf__law_is_integer kf__law_is_integer).binds (ps := ["found"]) fun _ _ _ _ _ _ us hl => match us, hl with | [_], _ => rfl
  m__law_is_integer := PySem.W.mg_of X G af__law_is_integer
  a__law_is_column := a__law_is_column
  fd__law_is_column := PySem.W.fnOf "_law_is_column" "_law_is_column" (defArgs s__law_is_column) (defBody s__law_is_column) (defScope s__law_is_column) .none kV__law_is_column dc__law_is_column pm__law_is_column an__law_is_column cd__law_is_column ct__law_is_column
  F__law_is_column := fun_mk (st := s__law_is_column) lf__law_is_column cf__law_is_column kf__law_is_column
  b__law_is_column := (fun_mk (st := s__law_is_column) lf__law_is_column cf__law_is_column kf__law_is_column).binds (ps := ["found", "due"]) fun _ _ _ _ _ _ us hl => match us, hl with | [_, _], _ => rfl
  m__law_is_column := PySem.W.mg_of X G af__law_is_column
  a__law_are_columns := a__law_are_columns
  fd__law_are_columns := PySem.W.fnOf "_law_are_columns" "_law_are_columns" (defArgs s__law_are_columns) (defBody s__law_are_columns) (defScope s__law_are_columns) .none kV__law_are_columns dc__law_are_columns pm__law_are_columns an__law_are_columns cd__law_are_columns ct__law_are_columns
  F__law_are_columns := fun_mk (st := s__law_are_columns) lf__law_are_columns cf__law_are_columns kf__law_are_columns
  b__law_are_columns := (fun_mk (st := s__law_are_columns) lf__law_are_columns cf__law_are_columns kf__law_are_columns).binds (ps := ["found", "due"]) fun _ _ _ _ _ _ us hl => match us, hl with | [_, _], _ => rfl
  m__law_are_columns := PySem.W.mg_of X G af__law_are_columns
  a__law_right := a__law_right
  fd__law_right := PySem.W.fnOf "_law_right" "_law_right" (defArgs s__law_right) (defBody s__law_right) (defScope s__law_right) .none kV__law_right dc__law_right pm__law_right an__law_right cd__law_right ct__law_right
  F__law_right := fun_mk (st := s__law_right) lf__law_right cf__law_right kf__law_right
  b__law_right := (fun_mk (st := s__law_right) lf__law_right cf__law_right kf__law_right).binds (ps := ["sheet", "base", "rows", "columns"]) fun _ _ _ _ _ _ us hl => match us, hl with | [_, _, _, _], _ => rfl
  m__law_right := PySem.W.mg_of X G af__law_right
  a__law_own := a__law_own
  fd__law_own := PySem.W.fnOf "_law_own" "_law_own" (defArgs s__law_own) (defBody s__law_own) (defScope s__law_own) .none kV__law_own dc__law_own pm__law_own an__law_own cd__law_own ct__law_own
  F__law_own := fun_mk (st := s__law_own) lf__law_own cf__law_own kf__law_own
  b__law_own := (fun_mk (st := s__law_own) lf__law_own cf__law_own kf__law_own).binds (ps := ["sheet", "base", "rows", "columns", "others"]) fun _ _ _ _ _ _ us hl => match us, hl with | [_, _, _, _, _], _ => rfl
  m__law_own := PySem.W.mg_of X G af__law_own
  a_Sheet___len__ := a_Sheet___len__
  fd_Sheet___len__ := PySem.W.fnOf "__len__" "Sheet.__len__" (defArgs s_Sheet___len__) (defBody s_Sheet___len__) (defScope s_Sheet___len__) .none kV_Sheet___len__ dc_Sheet___len__ pm_Sheet___len__ an_Sheet___len__ cd_Sheet___len__ ct_Sheet___len__
  F_Sheet___len__ := fun_mk (st := s_Sheet___len__) lf_Sheet___len__ cf_Sheet___len__ kf_Sheet___len__
  b_Sheet___len__ := (fun_mk (st := s_Sheet___len__) lf_Sheet___len__ cf_Sheet___len__ kf_Sheet___len__).binds (ps := ["self"]) fun _ _ _ _ _ _ us hl => match us, hl with | [_], _ => rfl
  me_Sheet___len__ := ⟨af_Sheet___len__, if_Sheet___len__, kf_Sheet___len__⟩
  a_Sheet_cut := a_Sheet_cut
  fd_Sheet_cut := PySem.W.fnOf "cut" "Sheet.cut" (defArgs s_Sheet_cut) (defBody s_Sheet_cut) (defScope s_Sheet_cut) .none kV_Sheet_cut dc_Sheet_cut pm_Sheet_cut an_Sheet_cut cd_Sheet_cut ct_Sheet_cut
  F_Sheet_cut := fun_mk (st := s_Sheet_cut) lf_Sheet_cut cf_Sheet_cut kf_Sheet_cut
  b_Sheet_cut := (fun_mk (st := s_Sheet_cut) lf_Sheet_cut cf_Sheet_cut kf_Sheet_cut).binds (ps := ["self", "low", "high"]) fun _ _ _ _ _ _ us hl => match us, hl with | [_, _, _], _ => rfl
  me_Sheet_cut := ⟨af_Sheet_cut, if_Sheet_cut, kf_Sheet_cut⟩
  a__law_parts := a__law_parts
  fd__law_parts := PySem.W.fnOf "_law_parts" "_law_parts" (defArgs s__law_parts) (defBody s__law_parts) (defScope s__law_parts) .none kV__law_parts dc__law_parts pm__law_parts an__law_parts cd__law_parts ct__law_parts
  F__law_parts := fun_mk (st := s__law_parts) lf__law_parts cf__law_parts kf__law_parts
  b__law_parts := (fun_mk (st := s__law_parts) lf__law_parts cf__law_parts kf__law_parts).binds (ps := ["deck", "one", "first", "base", "rows"]) fun _ _ _ _ _ _ us hl => match us, hl with | [_, _, _, _, _], _ => rfl
  m__law_parts := PySem.W.mg_of X G af__law_parts
  a__law_power := a__law_power
  fd__law_power := PySem.W.fnOf "_law_power" "_law_power" (defArgs s__law_power) (defBody s__law_power) (defScope s__law_power) .none kV__law_power dc__law_power pm__law_power an__law_power cd__law_power ct__law_power
  F__law_power := fun_mk (st := s__law_power) lf__law_power cf__law_power kf__law_power
  b__law_power := (fun_mk (st := s__law_power) lf__law_power cf__law_power kf__law_power).binds (ps := ["base", "many"]) fun _ _ _ _ _ _ us hl => match us, hl with | [_, _], _ => rfl
  m__law_power := PySem.W.mg_of X G af__law_power
  a__law_joined := a__law_joined
  fd__law_joined := PySem.W.fnOf "_law_joined" "_law_joined" (defArgs s__law_joined) (defBody s__law_joined) (defScope s__law_joined) .none kV__law_joined dc__law_joined pm__law_joined an__law_joined cd__law_joined ct__law_joined
  F__law_joined := fun_mk (st := s__law_joined) lf__law_joined cf__law_joined kf__law_joined
  b__law_joined := (fun_mk (st := s__law_joined) lf__law_joined cf__law_joined kf__law_joined).binds (ps := ["one", "other"]) fun _ _ _ _ _ _ us hl => match us, hl with | [_, _], _ => rfl
  m__law_joined := PySem.W.mg_of X G af__law_joined
  a__law_strange := a__law_strange
  fd__law_strange := PySem.W.fnOf "_law_strange" "_law_strange" (defArgs s__law_strange) (defBody s__law_strange) (defScope s__law_strange) .none kV__law_strange dc__law_strange pm__law_strange an__law_strange cd__law_strange ct__law_strange
  F__law_strange := fun_mk (st := s__law_strange) lf__law_strange cf__law_strange kf__law_strange
  b__law_strange := (fun_mk (st := s__law_strange) lf__law_strange cf__law_strange kf__law_strange).binds (ps := ["deck", "one", "first", "base", "rows"]) fun _ _ _ _ _ _ us hl => match us, hl with | [_, _, _, _, _], _ => rfl
  m__law_strange := PySem.W.mg_of X G af__law_strange
  a_law := a_law
  fd_law := PySem.W.fnOf "law" "law" (defArgs s_law) (defBody s_law) (defScope s_law) .none kV_law dc_law pm_law an_law cd_law ct_law
  F_law := fun_mk (st := s_law) lf_law cf_law kf_law
  b_law := (fun_mk (st := s_law) lf_law cf_law kf_law).binds (ps := ["script"]) fun _ _ _ _ _ _ us hl => match us, hl with | [_], _ => rfl
  m_law := PySem.W.mg_of X G af_law
  cl_Sheet := ⟨pg_Sheet, hd_Sheet, po_Sheet, sa_Sheet⟩
  k_Sheet := ⟨mk_Sheet, af_Sheet___init__, if_Sheet___init__, kc_Sheet⟩
  na_Sheet__base := na_Sheet__base
  na_Sheet__columns := na_Sheet__columns
  na_Sheet__rows := na_Sheet__rows
  ns_Sheet := ns_Sheet
  sf_Sheet := sf_Sheet
  ic_Sheet := ⟨ic1_Sheet, icn, ict, ic4_Sheet⟩
  io_Sheet := io_Sheet
  x_InvalidColumn := x_InvalidColumn
  xk_InvalidColumn := xk_InvalidColumn
  xb_InvalidColumn := xb_InvalidColumn
  xt_InvalidColumn := xt_InvalidColumn
  x_InvalidSheet := x_InvalidSheet
  xk_InvalidSheet := xk_InvalidSheet
  xb_InvalidSheet := xb_InvalidSheet
  xt_InvalidSheet := xt_InvalidSheet
  x_NotAlike := x_NotAlike
  xk_NotAlike := xk_NotAlike
  xb_NotAlike := xb_NotAlike
  xt_NotAlike := xt_NotAlike
  e_NotAlike := ⟨e1_NotAlike, e2_NotAlike, xb_NotAlike, e3_NotAlike, e4_NotAlike, icn, ict, e5_NotAlike⟩
  em_NotAlike_SlipError := em_NotAlike_SlipError
  q_NotAlike_NotAlike := q_NotAlike_NotAlike
  q_NotAlike_ValueError := q_NotAlike_ValueError
  qa_NotAlike_1 := qa_NotAlike_1
  qa_NotAlike_2 := qa_NotAlike_2
  n_ValueError := PySem.W.mg_none_of X G nb_ValueError
  n_all := PySem.W.mg_none_of X G nb_all
  n_bool := PySem.W.mg_none_of X G nb_bool
  n_int := PySem.W.mg_none_of X G nb_int
  n_isinstance := PySem.W.mg_none_of X G nb_isinstance
  n_len := PySem.W.mg_none_of X G nb_len
  n_list := PySem.W.mg_none_of X G nb_list
  n_range := PySem.W.mg_none_of X G nb_range
  n_sum := PySem.W.mg_none_of X G nb_sum
  n_tuple := PySem.W.mg_none_of X G nb_tuple
  tk_MOST_BASE := tk_MOST_BASE
  m_MOST_BASE := PySem.W.mg_of X G ak_MOST_BASE
  tk_MOST_ROWS := tk_MOST_ROWS
  m_MOST_ROWS := PySem.W.mg_of X G ak_MOST_ROWS
theorem fin {P : Program} {w : World} {K : PySem.W.Frag} {h : Heap} {mg : Str → Option Value} {fa : Addr} (X : K.In h) (G : h.Ns mainGlobals mg) (hfa : mg "law" = some (.ref fa)) {c_Sheet : Addr} {c_SlipError : Addr} {c_InvalidSheet : Addr} {c_InvalidColumn : Addr} {c_InvalidKind : Addr} {c_InvalidLot : Addr} {c_NotAlike : Addr} {c_NotPossible : Addr} {c_TooMany : Addr} {c_Waits : Addr} {c_InvalidText : Addr} {c_InvalidCommand : Addr} {c_NothingToUndo : Addr} {c_NotReady : Addr} {c_InvalidSlips : Addr} {a_is_whole : Addr} {oc_is_whole kV_is_whole dc_is_whole pm_is_whole cd_is_whole ct_is_whole : Value} {od_is_whole an_is_whole : Option Addr} {sl_is_whole : Array (Option Value)} {a_is_column : Addr} {oc_is_column kV_is_column dc_is_column pm_is_column cd_is_column ct_is_column : Value} {od_is_column an_is_column : Option Addr} {sl_is_column : Array (Option Value)} {a__are_columns : Addr} {oc__are_columns kV__are_columns dc__are_columns pm__are_columns cd__are_columns ct__are_columns : Value} {od__are_columns an__are_columns : Option Addr} {sl__are_columns : Array (Option Value)} {a_is_base : Addr} {oc_is_base kV_is_base dc_is_base pm_is_base cd_is_base ct_is_base : Value} {od_is_base an_is_base : Option Addr} {sl_is_base : Array (Option Value)} {a_is_rows : Addr} {oc_is_rows kV_is_rows dc_is_rows pm_is_rows cd_is_rows ct_is_rows : Value} {od_is_rows an_is_rows : Option Addr} {sl_is_rows : Array (Option Value)} {a_Sheet___init__ : Addr} {oc_Sheet___init__ kV_Sheet___init__ dc_Sheet___init__ pm_Sheet___init__ cd_Sheet___init__ ct_Sheet___init__ : Value} {od_Sheet___init__ an_Sheet___init__ : Option Addr} {sl_Sheet___init__ : Array (Option Value)} {a_Sheet_base : Addr} {oc_Sheet_base kV_Sheet_base dc_Sheet_base pm_Sheet_base cd_Sheet_base ct_Sheet_base : Value} {od_Sheet_base an_Sheet_base : Option Addr} {sl_Sheet_base : Array (Option Value)} {pa_Sheet_base : Addr} {re_Sheet_base : List Value} {a_Sheet_rows : Addr} {oc_Sheet_rows kV_Sheet_rows dc_Sheet_rows pm_Sheet_rows cd_Sheet_rows ct_Sheet_rows : Value} {od_Sheet_rows an_Sheet_rows : Option Addr} {sl_Sheet_rows : Array (Option Value)} {pa_Sheet_rows : Addr} {re_Sheet_rows : List Value} {a_check_alike : Addr} {oc_check_alike kV_check_alike dc_check_alike pm_check_alike cd_check_alike ct_check_alike : Value} {od_check_alike an_check_alike : Option Addr} {sl_check_alike : Array (Option Value)} {a_Sheet___add__ : Addr} {oc_Sheet___add__ kV_Sheet___add__ dc_Sheet___add__ pm_Sheet___add__ cd_Sheet___add__ ct_Sheet___add__ : Value} {od_Sheet___add__ an_Sheet___add__ : Option Addr} {sl_Sheet___add__ : Array (Option Value)} {a_place_value : Addr} {oc_place_value kV_place_value dc_place_value pm_place_value cd_place_value ct_place_value : Value} {od_place_value an_place_value : Option Addr} {sl_place_value : Array (Option Value)} {a_Sheet_value : Addr} {oc_Sheet_value kV_Sheet_value dc_Sheet_value pm_Sheet_value cd_Sheet_value ct_Sheet_value : Value} {od_Sheet_value an_Sheet_value : Option Addr} {sl_Sheet_value : Array (Option Value)} {pa_Sheet_value : Addr} {re_Sheet_value : List Value} {a__law_cells : Addr} {oc__law_cells kV__law_cells dc__law_cells pm__law_cells cd__law_cells ct__law_cells : Value} {od__law_cells an__law_cells : Option Addr} {sl__law_cells : Array (Option Value)} {a__law_draw : Addr} {oc__law_draw kV__law_draw dc__law_draw pm__law_draw cd__law_draw ct__law_draw : Value} {od__law_draw an__law_draw : Option Addr} {sl__law_draw : Array (Option Value)} {a__law_column : Addr} {oc__law_column kV__law_column dc__law_column pm__law_column cd__law_column ct__law_column : Value} {od__law_column an__law_column : Option Addr} {sl__law_column : Array (Option Value)} {a__law_columns : Addr} {oc__law_columns kV__law_columns dc__law_columns pm__law_columns cd__law_columns ct__law_columns : Value} {od__law_columns an__law_columns : Option Addr} {sl__law_columns : Array (Option Value)} {a__law_deck : Addr} {oc__law_deck kV__law_deck dc__law_deck pm__law_deck cd__law_deck ct__law_deck : Value} {od__law_deck an__law_deck : Option Addr} {sl__law_deck : Array (Option Value)} {a_Sheet___setitem__ : Addr} {oc_Sheet___setitem__ kV_Sheet___setitem__ dc_Sheet___setitem__ pm_Sheet___setitem__ cd_Sheet___setitem__ ct_Sheet___setitem__ : Value} {od_Sheet___setitem__ an_Sheet___setitem__ : Option Addr} {sl_Sheet___setitem__ : Array (Option Value)} {a_Sheet_columns : Addr} {oc_Sheet_columns kV_Sheet_columns dc_Sheet_columns pm_Sheet_columns cd_Sheet_columns ct_Sheet_columns : Value} {od_Sheet_columns an_Sheet_columns : Option Addr} {sl_Sheet_columns : Array (Option Value)} {pa_Sheet_columns : Addr} {re_Sheet_columns : List Value} {a__law_is_integer : Addr} {oc__law_is_integer kV__law_is_integer dc__law_is_integer pm__law_is_integer cd__law_is_integer ct__law_is_integer : Value} {od__law_is_integer an__law_is_integer : Option Addr} {sl__law_is_integer : Array (Option Value)} {a__law_is_column : Addr} {oc__law_is_column kV__law_is_column dc__law_is_column pm__law_is_column cd__law_is_column ct__law_is_column : Value} {od__law_is_column an__law_is_column : Option Addr} {sl__law_is_column : Array (Option Value)} {a__law_are_columns : Addr} {oc__law_are_columns kV__law_are_columns dc__law_are_columns pm__law_are_columns cd__law_are_columns ct__law_are_columns : Value} {od__law_are_columns an__law_are_columns : Option Addr} {sl__law_are_columns : Array (Option Value)} {a__law_right : Addr} {oc__law_right kV__law_right dc__law_right pm__law_right cd__law_right ct__law_right : Value} {od__law_right an__law_right : Option Addr} {sl__law_right : Array (Option Value)} {a__law_own : Addr} {oc__law_own kV__law_own dc__law_own pm__law_own cd__law_own ct__law_own : Value} {od__law_own an__law_own : Option Addr} {sl__law_own : Array (Option Value)} {a_Sheet___len__ : Addr} {oc_Sheet___len__ kV_Sheet___len__ dc_Sheet___len__ pm_Sheet___len__ cd_Sheet___len__ ct_Sheet___len__ : Value} {od_Sheet___len__ an_Sheet___len__ : Option Addr} {sl_Sheet___len__ : Array (Option Value)} {a_Sheet_cut : Addr} {oc_Sheet_cut kV_Sheet_cut dc_Sheet_cut pm_Sheet_cut cd_Sheet_cut ct_Sheet_cut : Value} {od_Sheet_cut an_Sheet_cut : Option Addr} {sl_Sheet_cut : Array (Option Value)} {a__law_parts : Addr} {oc__law_parts kV__law_parts dc__law_parts pm__law_parts cd__law_parts ct__law_parts : Value} {od__law_parts an__law_parts : Option Addr} {sl__law_parts : Array (Option Value)} {a__law_power : Addr} {oc__law_power kV__law_power dc__law_power pm__law_power cd__law_power ct__law_power : Value} {od__law_power an__law_power : Option Addr} {sl__law_power : Array (Option Value)} {a__law_joined : Addr} {oc__law_joined kV__law_joined dc__law_joined pm__law_joined cd__law_joined ct__law_joined : Value} {od__law_joined an__law_joined : Option Addr} {sl__law_joined : Array (Option Value)} {a__law_strange : Addr} {oc__law_strange kV__law_strange dc__law_strange pm__law_strange cd__law_strange ct__law_strange : Value} {od__law_strange an__law_strange : Option Addr} {sl__law_strange : Array (Option Value)} {a_law : Addr} {oc_law kV_law dc_law pm_law cd_law ct_law : Value} {od_law an_law : Option Addr} {sl_law : Array (Option Value)} {tk_MOST_BASE : Tok} {tk_MOST_ROWS : Tok}
    (ac_Sheet : PySem.W.nsIn K mainGlobals "Sheet" = some (some (.ref c_Sheet)))
    (ac_SlipError : PySem.W.nsIn K mainGlobals "SlipError" = some (some (.ref c_SlipError)))
    (ac_InvalidSheet : PySem.W.nsIn K mainGlobals "InvalidSheet" = some (some (.ref c_InvalidSheet)))
    (ac_InvalidColumn : PySem.W.nsIn K mainGlobals "InvalidColumn" = some (some (.ref c_InvalidColumn)))
    (ac_InvalidKind : PySem.W.nsIn K mainGlobals "InvalidKind" = some (some (.ref c_InvalidKind)))
    (ac_InvalidLot : PySem.W.nsIn K mainGlobals "InvalidLot" = some (some (.ref c_InvalidLot)))
    (ac_NotAlike : PySem.W.nsIn K mainGlobals "NotAlike" = some (some (.ref c_NotAlike)))
    (ac_NotPossible : PySem.W.nsIn K mainGlobals "NotPossible" = some (some (.ref c_NotPossible)))
    (ac_TooMany : PySem.W.nsIn K mainGlobals "TooMany" = some (some (.ref c_TooMany)))
    (ac_Waits : PySem.W.nsIn K mainGlobals "Waits" = some (some (.ref c_Waits)))
    (ac_InvalidText : PySem.W.nsIn K mainGlobals "InvalidText" = some (some (.ref c_InvalidText)))
    (ac_InvalidCommand : PySem.W.nsIn K mainGlobals "InvalidCommand" = some (some (.ref c_InvalidCommand)))
    (ac_NothingToUndo : PySem.W.nsIn K mainGlobals "NothingToUndo" = some (some (.ref c_NothingToUndo)))
    (ac_NotReady : PySem.W.nsIn K mainGlobals "NotReady" = some (some (.ref c_NotReady)))
    (ac_InvalidSlips : PySem.W.nsIn K mainGlobals "InvalidSlips" = some (some (.ref c_InvalidSlips)))
    (af_is_whole : PySem.W.nsIn K mainGlobals "is_whole" = some (some (.ref a_is_whole)))
    (lf_is_whole : K.lookup a_is_whole = some ⟨oc_is_whole, od_is_whole, .func (PySem.W.fnOf "is_whole" "is_whole" (defArgs s_is_whole) (defBody s_is_whole) (defScope s_is_whole) .none kV_is_whole dc_is_whole pm_is_whole an_is_whole cd_is_whole ct_is_whole), sl_is_whole⟩)
    (cf_is_whole : PySem.W.codeIn K cd_is_whole "is_whole" = true)
    (kf_is_whole : PySem.W.keepIn K (.ref a_is_whole) = true)
    (af_is_column : PySem.W.nsIn K mainGlobals "is_column" = some (some (.ref a_is_column)))
    (lf_is_column : K.lookup a_is_column = some ⟨oc_is_column, od_is_column, .func (PySem.W.fnOf "is_column" "is_column" (defArgs s_is_column) (defBody s_is_column) (defScope s_is_column) .none kV_is_column dc_is_column pm_is_column an_is_column cd_is_column ct_is_column), sl_is_column⟩)
    (cf_is_column : PySem.W.codeIn K cd_is_column "is_column" = true)
    (kf_is_column : PySem.W.keepIn K (.ref a_is_column) = true)
    (af__are_columns : PySem.W.nsIn K mainGlobals "_are_columns" = some (some (.ref a__are_columns)))
    (lf__are_columns : K.lookup a__are_columns = some ⟨oc__are_columns, od__are_columns, .func (PySem.W.fnOf "_are_columns" "_are_columns" (defArgs s__are_columns) (defBody s__are_columns) (defScope s__are_columns) .none kV__are_columns dc__are_columns pm__are_columns an__are_columns cd__are_columns ct__are_columns), sl__are_columns⟩)
    (cf__are_columns : PySem.W.codeIn K cd__are_columns "_are_columns" = true)
    (kf__are_columns : PySem.W.keepIn K (.ref a__are_columns) = true)
    (af_is_base : PySem.W.nsIn K mainGlobals "is_base" = some (some (.ref a_is_base)))
    (lf_is_base : K.lookup a_is_base = some ⟨oc_is_base, od_is_base, .func (PySem.W.fnOf "is_base" "is_base" (defArgs s_is_base) (defBody s_is_base) (defScope s_is_base) .none kV_is_base dc_is_base pm_is_base an_is_base cd_is_base ct_is_base), sl_is_base⟩)
    (cf_is_base : PySem.W.codeIn K cd_is_base "is_base" = true)
    (kf_is_base : PySem.W.keepIn K (.ref a_is_base) = true)
    (af_is_rows : PySem.W.nsIn K mainGlobals "is_rows" = some (some (.ref a_is_rows)))
    (lf_is_rows : K.lookup a_is_rows = some ⟨oc_is_rows, od_is_rows, .func (PySem.W.fnOf "is_rows" "is_rows" (defArgs s_is_rows) (defBody s_is_rows) (defScope s_is_rows) .none kV_is_rows dc_is_rows pm_is_rows an_is_rows cd_is_rows ct_is_rows), sl_is_rows⟩)
    (cf_is_rows : PySem.W.codeIn K cd_is_rows "is_rows" = true)
    (kf_is_rows : PySem.W.keepIn K (.ref a_is_rows) = true)
    (af_Sheet___init__ : PySem.W.findIn K (.ref c_Sheet) "__init__" = some (some (.ref a_Sheet___init__)))
    (if_Sheet___init__ : PySem.W.isFn K (.ref a_Sheet___init__) = true)
    (lf_Sheet___init__ : K.lookup a_Sheet___init__ = some ⟨oc_Sheet___init__, od_Sheet___init__, .func (PySem.W.fnOf "__init__" "Sheet.__init__" (defArgs s_Sheet___init__) (defBody s_Sheet___init__) (defScope s_Sheet___init__) .none kV_Sheet___init__ dc_Sheet___init__ pm_Sheet___init__ an_Sheet___init__ cd_Sheet___init__ ct_Sheet___init__), sl_Sheet___init__⟩)
    (cf_Sheet___init__ : PySem.W.codeIn K cd_Sheet___init__ "Sheet.__init__" = true)
    (kf_Sheet___init__ : PySem.W.keepIn K (.ref a_Sheet___init__) = true)
    (pf_Sheet_base : PySem.W.findIn K (.ref c_Sheet) "base" = some (some (.ref pa_Sheet_base)))
    (pg_Sheet_base : PySem.W.specialIn K (.ref pa_Sheet_base) "__get__" = some (some (.builtin "property.__get__")))
    (pt_Sheet_base : PySem.W.takesIn K (.ref pa_Sheet_base) = some true)
    (pr_Sheet_base : PySem.W.recIn K pa_Sheet_base "property" = some (.ref a_Sheet_base :: re_Sheet_base))
    (lf_Sheet_base : K.lookup a_Sheet_base = some ⟨oc_Sheet_base, od_Sheet_base, .func (PySem.W.fnOf "base" "Sheet.base" (defArgs s_Sheet_base) (defBody s_Sheet_base) (defScope s_Sheet_base) .none kV_Sheet_base dc_Sheet_base pm_Sheet_base an_Sheet_base cd_Sheet_base ct_Sheet_base), sl_Sheet_base⟩)
    (cf_Sheet_base : PySem.W.codeIn K cd_Sheet_base "Sheet.base" = true)
    (kf_Sheet_base : PySem.W.keepIn K (.ref a_Sheet_base) = true)
    (pf_Sheet_rows : PySem.W.findIn K (.ref c_Sheet) "rows" = some (some (.ref pa_Sheet_rows)))
    (pg_Sheet_rows : PySem.W.specialIn K (.ref pa_Sheet_rows) "__get__" = some (some (.builtin "property.__get__")))
    (pt_Sheet_rows : PySem.W.takesIn K (.ref pa_Sheet_rows) = some true)
    (pr_Sheet_rows : PySem.W.recIn K pa_Sheet_rows "property" = some (.ref a_Sheet_rows :: re_Sheet_rows))
    (lf_Sheet_rows : K.lookup a_Sheet_rows = some ⟨oc_Sheet_rows, od_Sheet_rows, .func (PySem.W.fnOf "rows" "Sheet.rows" (defArgs s_Sheet_rows) (defBody s_Sheet_rows) (defScope s_Sheet_rows) .none kV_Sheet_rows dc_Sheet_rows pm_Sheet_rows an_Sheet_rows cd_Sheet_rows ct_Sheet_rows), sl_Sheet_rows⟩)
    (cf_Sheet_rows : PySem.W.codeIn K cd_Sheet_rows "Sheet.rows" = true)
    (kf_Sheet_rows : PySem.W.keepIn K (.ref a_Sheet_rows) = true)
    (af_check_alike : PySem.W.nsIn K mainGlobals "check_alike" = some (some (.ref a_check_alike)))
    (lf_check_alike : K.lookup a_check_alike = some ⟨oc_check_alike, od_check_alike, .func (PySem.W.fnOf "check_alike" "check_alike" (defArgs s_check_alike) (defBody s_check_alike) (defScope s_check_alike) .none kV_check_alike dc_check_alike pm_check_alike an_check_alike cd_check_alike ct_check_alike), sl_check_alike⟩)
    (cf_check_alike : PySem.W.codeIn K cd_check_alike "check_alike" = true)
    (kf_check_alike : PySem.W.keepIn K (.ref a_check_alike) = true)
    (af_Sheet___add__ : PySem.W.findIn K (.ref c_Sheet) "__add__" = some (some (.ref a_Sheet___add__)))
    (if_Sheet___add__ : PySem.W.isFn K (.ref a_Sheet___add__) = true)
    (lf_Sheet___add__ : K.lookup a_Sheet___add__ = some ⟨oc_Sheet___add__, od_Sheet___add__, .func (PySem.W.fnOf "__add__" "Sheet.__add__" (defArgs s_Sheet___add__) (defBody s_Sheet___add__) (defScope s_Sheet___add__) .none kV_Sheet___add__ dc_Sheet___add__ pm_Sheet___add__ an_Sheet___add__ cd_Sheet___add__ ct_Sheet___add__), sl_Sheet___add__⟩)
    (cf_Sheet___add__ : PySem.W.codeIn K cd_Sheet___add__ "Sheet.__add__" = true)
    (kf_Sheet___add__ : PySem.W.keepIn K (.ref a_Sheet___add__) = true)
    (af_place_value : PySem.W.nsIn K mainGlobals "place_value" = some (some (.ref a_place_value)))
    (lf_place_value : K.lookup a_place_value = some ⟨oc_place_value, od_place_value, .func (PySem.W.fnOf "place_value" "place_value" (defArgs s_place_value) (defBody s_place_value) (defScope s_place_value) .none kV_place_value dc_place_value pm_place_value an_place_value cd_place_value ct_place_value), sl_place_value⟩)
    (cf_place_value : PySem.W.codeIn K cd_place_value "place_value" = true)
    (kf_place_value : PySem.W.keepIn K (.ref a_place_value) = true)
    (pf_Sheet_value : PySem.W.findIn K (.ref c_Sheet) "value" = some (some (.ref pa_Sheet_value)))
    (pg_Sheet_value : PySem.W.specialIn K (.ref pa_Sheet_value) "__get__" = some (some (.builtin "property.__get__")))
    (pt_Sheet_value : PySem.W.takesIn K (.ref pa_Sheet_value) = some true)
    (pr_Sheet_value : PySem.W.recIn K pa_Sheet_value "property" = some (.ref a_Sheet_value :: re_Sheet_value))
    (lf_Sheet_value : K.lookup a_Sheet_value = some ⟨oc_Sheet_value, od_Sheet_value, .func (PySem.W.fnOf "value" "Sheet.value" (defArgs s_Sheet_value) (defBody s_Sheet_value) (defScope s_Sheet_value) .none kV_Sheet_value dc_Sheet_value pm_Sheet_value an_Sheet_value cd_Sheet_value ct_Sheet_value), sl_Sheet_value⟩)
    (cf_Sheet_value : PySem.W.codeIn K cd_Sheet_value "Sheet.value" = true)
    (kf_Sheet_value : PySem.W.keepIn K (.ref a_Sheet_value) = true)
    (af__law_cells : PySem.W.nsIn K mainGlobals "_law_cells" = some (some (.ref a__law_cells)))
    (lf__law_cells : K.lookup a__law_cells = some ⟨oc__law_cells, od__law_cells, .func (PySem.W.fnOf "_law_cells" "_law_cells" (defArgs s__law_cells) (defBody s__law_cells) (defScope s__law_cells) .none kV__law_cells dc__law_cells pm__law_cells an__law_cells cd__law_cells ct__law_cells), sl__law_cells⟩)
    (cf__law_cells : PySem.W.codeIn K cd__law_cells "_law_cells" = true)
    (kf__law_cells : PySem.W.keepIn K (.ref a__law_cells) = true)
    (af__law_draw : PySem.W.nsIn K mainGlobals "_law_draw" = some (some (.ref a__law_draw)))
    (lf__law_draw : K.lookup a__law_draw = some ⟨oc__law_draw, od__law_draw, .func (PySem.W.fnOf "_law_draw" "_law_draw" (defArgs s__law_draw) (defBody s__law_draw) (defScope s__law_draw) .none kV__law_draw dc__law_draw pm__law_draw an__law_draw cd__law_draw ct__law_draw), sl__law_draw⟩)
    (cf__law_draw : PySem.W.codeIn K cd__law_draw "_law_draw" = true)
    (kf__law_draw : PySem.W.keepIn K (.ref a__law_draw) = true)
    (af__law_column : PySem.W.nsIn K mainGlobals "_law_column" = some (some (.ref a__law_column)))
    (lf__law_column : K.lookup a__law_column = some ⟨oc__law_column, od__law_column, .func (PySem.W.fnOf "_law_column" "_law_column" (defArgs s__law_column) (defBody s__law_column) (defScope s__law_column) .none kV__law_column dc__law_column pm__law_column an__law_column cd__law_column ct__law_column), sl__law_column⟩)
    (cf__law_column : PySem.W.codeIn K cd__law_column "_law_column" = true)
    (kf__law_column : PySem.W.keepIn K (.ref a__law_column) = true)
    (af__law_columns : PySem.W.nsIn K mainGlobals "_law_columns" = some (some (.ref a__law_columns)))
    (lf__law_columns : K.lookup a__law_columns = some ⟨oc__law_columns, od__law_columns, .func (PySem.W.fnOf "_law_columns" "_law_columns" (defArgs s__law_columns) (defBody s__law_columns) (defScope s__law_columns) .none kV__law_columns dc__law_columns pm__law_columns an__law_columns cd__law_columns ct__law_columns), sl__law_columns⟩)
    (cf__law_columns : PySem.W.codeIn K cd__law_columns "_law_columns" = true)
    (kf__law_columns : PySem.W.keepIn K (.ref a__law_columns) = true)
    (af__law_deck : PySem.W.nsIn K mainGlobals "_law_deck" = some (some (.ref a__law_deck)))
    (lf__law_deck : K.lookup a__law_deck = some ⟨oc__law_deck, od__law_deck, .func (PySem.W.fnOf "_law_deck" "_law_deck" (defArgs s__law_deck) (defBody s__law_deck) (defScope s__law_deck) .none kV__law_deck dc__law_deck pm__law_deck an__law_deck cd__law_deck ct__law_deck), sl__law_deck⟩)
    (cf__law_deck : PySem.W.codeIn K cd__law_deck "_law_deck" = true)
    (kf__law_deck : PySem.W.keepIn K (.ref a__law_deck) = true)
    (af_Sheet___setitem__ : PySem.W.findIn K (.ref c_Sheet) "__setitem__" = some (some (.ref a_Sheet___setitem__)))
    (if_Sheet___setitem__ : PySem.W.isFn K (.ref a_Sheet___setitem__) = true)
    (lf_Sheet___setitem__ : K.lookup a_Sheet___setitem__ = some ⟨oc_Sheet___setitem__, od_Sheet___setitem__, .func (PySem.W.fnOf "__setitem__" "Sheet.__setitem__" (defArgs s_Sheet___setitem__) (defBody s_Sheet___setitem__) (defScope s_Sheet___setitem__) .none kV_Sheet___setitem__ dc_Sheet___setitem__ pm_Sheet___setitem__ an_Sheet___setitem__ cd_Sheet___setitem__ ct_Sheet___setitem__), sl_Sheet___setitem__⟩)
    (cf_Sheet___setitem__ : PySem.W.codeIn K cd_Sheet___setitem__ "Sheet.__setitem__" = true)
    (kf_Sheet___setitem__ : PySem.W.keepIn K (.ref a_Sheet___setitem__) = true)
    (pf_Sheet_columns : PySem.W.findIn K (.ref c_Sheet) "columns" = some (some (.ref pa_Sheet_columns)))
    (pg_Sheet_columns : PySem.W.specialIn K (.ref pa_Sheet_columns) "__get__" = some (some (.builtin "property.__get__")))
    (pt_Sheet_columns : PySem.W.takesIn K (.ref pa_Sheet_columns) = some true)
    (pr_Sheet_columns : PySem.W.recIn K pa_Sheet_columns "property" = some (.ref a_Sheet_columns :: re_Sheet_columns))
    (lf_Sheet_columns : K.lookup a_Sheet_columns = some ⟨oc_Sheet_columns, od_Sheet_columns, .func (PySem.W.fnOf "columns" "Sheet.columns" (defArgs s_Sheet_columns) (defBody s_Sheet_columns) (defScope s_Sheet_columns) .none kV_Sheet_columns dc_Sheet_columns pm_Sheet_columns an_Sheet_columns cd_Sheet_columns ct_Sheet_columns), sl_Sheet_columns⟩)
    (cf_Sheet_columns : PySem.W.codeIn K cd_Sheet_columns "Sheet.columns" = true)
    (kf_Sheet_columns : PySem.W.keepIn K (.ref a_Sheet_columns) = true)
    (af__law_is_integer : PySem.W.nsIn K mainGlobals "_law_is_integer" = some (some (.ref a__law_is_integer)))
    (lf__law_is_integer : K.lookup a__law_is_integer = some ⟨oc__law_is_integer, od__law_is_integer, .func (PySem.W.fnOf "_law_is_integer" "_law_is_integer" (defArgs s__law_is_integer) (defBody s__law_is_integer) (defScope s__law_is_integer) .none kV__law_is_integer dc__law_is_integer pm__law_is_integer an__law_is_integer cd__law_is_integer ct__law_is_integer), sl__law_is_integer⟩)
    (cf__law_is_integer : PySem.W.codeIn K cd__law_is_integer "_law_is_integer" = true)
    (kf__law_is_integer : PySem.W.keepIn K (.ref a__law_is_integer) = true)
    (af__law_is_column : PySem.W.nsIn K mainGlobals "_law_is_column" = some (some (.ref a__law_is_column)))
    (lf__law_is_column : K.lookup a__law_is_column = some ⟨oc__law_is_column, od__law_is_column, .func (PySem.W.fnOf "_law_is_column" "_law_is_column" (defArgs s__law_is_column) (defBody s__law_is_column) (defScope s__law_is_column) .none kV__law_is_column dc__law_is_column pm__law_is_column an__law_is_column cd__law_is_column ct__law_is_column), sl__law_is_column⟩)
    (cf__law_is_column : PySem.W.codeIn K cd__law_is_column "_law_is_column" = true)
    (kf__law_is_column : PySem.W.keepIn K (.ref a__law_is_column) = true)
    (af__law_are_columns : PySem.W.nsIn K mainGlobals "_law_are_columns" = some (some (.ref a__law_are_columns)))
    (lf__law_are_columns : K.lookup a__law_are_columns = some ⟨oc__law_are_columns, od__law_are_columns, .func (PySem.W.fnOf "_law_are_columns" "_law_are_columns" (defArgs s__law_are_columns) (defBody s__law_are_columns) (defScope s__law_are_columns) .none kV__law_are_columns dc__law_are_columns pm__law_are_columns an__law_are_columns cd__law_are_columns ct__law_are_columns), sl__law_are_columns⟩)
    (cf__law_are_columns : PySem.W.codeIn K cd__law_are_columns "_law_are_columns" = true)
    (kf__law_are_columns : PySem.W.keepIn K (.ref a__law_are_columns) = true)
    (af__law_right : PySem.W.nsIn K mainGlobals "_law_right" = some (some (.ref a__law_right)))
    (lf__law_right : K.lookup a__law_right = some ⟨oc__law_right, od__law_right, .func (PySem.W.fnOf "_law_right" "_law_right" (defArgs s__law_right) (defBody s__law_right) (defScope s__law_right) .none kV__law_right dc__law_right pm__law_right an__law_right cd__law_right ct__law_right), sl__law_right⟩)
    (cf__law_right : PySem.W.codeIn K cd__law_right "_law_right" = true)
    (kf__law_right : PySem.W.keepIn K (.ref a__law_right) = true)
    (af__law_own : PySem.W.nsIn K mainGlobals "_law_own" = some (some (.ref a__law_own)))
    (lf__law_own : K.lookup a__law_own = some ⟨oc__law_own, od__law_own, .func (PySem.W.fnOf "_law_own" "_law_own" (defArgs s__law_own) (defBody s__law_own) (defScope s__law_own) .none kV__law_own dc__law_own pm__law_own an__law_own cd__law_own ct__law_own), sl__law_own⟩)
    (cf__law_own : PySem.W.codeIn K cd__law_own "_law_own" = true)
    (kf__law_own : PySem.W.keepIn K (.ref a__law_own) = true)
    (af_Sheet___len__ : PySem.W.findIn K (.ref c_Sheet) "__len__" = some (some (.ref a_Sheet___len__)))
    (if_Sheet___len__ : PySem.W.isFn K (.ref a_Sheet___len__) = true)
    (lf_Sheet___len__ : K.lookup a_Sheet___len__ = some ⟨oc_Sheet___len__, od_Sheet___len__, .func (PySem.W.fnOf "__len__" "Sheet.__len__" (defArgs s_Sheet___len__) (defBody s_Sheet___len__) (defScope s_Sheet___len__) .none kV_Sheet___len__ dc_Sheet___len__ pm_Sheet___len__ an_Sheet___len__ cd_Sheet___len__ ct_Sheet___len__), sl_Sheet___len__⟩)
    (cf_Sheet___len__ : PySem.W.codeIn K cd_Sheet___len__ "Sheet.__len__" = true)
    (kf_Sheet___len__ : PySem.W.keepIn K (.ref a_Sheet___len__) = true)
    (af_Sheet_cut : PySem.W.findIn K (.ref c_Sheet) "cut" = some (some (.ref a_Sheet_cut)))
    (if_Sheet_cut : PySem.W.isFn K (.ref a_Sheet_cut) = true)
    (lf_Sheet_cut : K.lookup a_Sheet_cut = some ⟨oc_Sheet_cut, od_Sheet_cut, .func (PySem.W.fnOf "cut" "Sheet.cut" (defArgs s_Sheet_cut) (defBody s_Sheet_cut) (defScope s_Sheet_cut) .none kV_Sheet_cut dc_Sheet_cut pm_Sheet_cut an_Sheet_cut cd_Sheet_cut ct_Sheet_cut), sl_Sheet_cut⟩)
    (cf_Sheet_cut : PySem.W.codeIn K cd_Sheet_cut "Sheet.cut" = true)
    (kf_Sheet_cut : PySem.W.keepIn K (.ref a_Sheet_cut) = true)
    (af__law_parts : PySem.W.nsIn K mainGlobals "_law_parts" = some (some (.ref a__law_parts)))
    (lf__law_parts : K.lookup a__law_parts = some ⟨oc__law_parts, od__law_parts, .func (PySem.W.fnOf "_law_parts" "_law_parts" (defArgs s__law_parts) (defBody s__law_parts) (defScope s__law_parts) .none kV__law_parts dc__law_parts pm__law_parts an__law_parts cd__law_parts ct__law_parts), sl__law_parts⟩)
    (cf__law_parts : PySem.W.codeIn K cd__law_parts "_law_parts" = true)
    (kf__law_parts : PySem.W.keepIn K (.ref a__law_parts) = true)
    (af__law_power : PySem.W.nsIn K mainGlobals "_law_power" = some (some (.ref a__law_power)))
    (lf__law_power : K.lookup a__law_power = some ⟨oc__law_power, od__law_power, .func (PySem.W.fnOf "_law_power" "_law_power" (defArgs s__law_power) (defBody s__law_power) (defScope s__law_power) .none kV__law_power dc__law_power pm__law_power an__law_power cd__law_power ct__law_power), sl__law_power⟩)
    (cf__law_power : PySem.W.codeIn K cd__law_power "_law_power" = true)
    (kf__law_power : PySem.W.keepIn K (.ref a__law_power) = true)
    (af__law_joined : PySem.W.nsIn K mainGlobals "_law_joined" = some (some (.ref a__law_joined)))
    (lf__law_joined : K.lookup a__law_joined = some ⟨oc__law_joined, od__law_joined, .func (PySem.W.fnOf "_law_joined" "_law_joined" (defArgs s__law_joined) (defBody s__law_joined) (defScope s__law_joined) .none kV__law_joined dc__law_joined pm__law_joined an__law_joined cd__law_joined ct__law_joined), sl__law_joined⟩)
    (cf__law_joined : PySem.W.codeIn K cd__law_joined "_law_joined" = true)
    (kf__law_joined : PySem.W.keepIn K (.ref a__law_joined) = true)
    (af__law_strange : PySem.W.nsIn K mainGlobals "_law_strange" = some (some (.ref a__law_strange)))
    (lf__law_strange : K.lookup a__law_strange = some ⟨oc__law_strange, od__law_strange, .func (PySem.W.fnOf "_law_strange" "_law_strange" (defArgs s__law_strange) (defBody s__law_strange) (defScope s__law_strange) .none kV__law_strange dc__law_strange pm__law_strange an__law_strange cd__law_strange ct__law_strange), sl__law_strange⟩)
    (cf__law_strange : PySem.W.codeIn K cd__law_strange "_law_strange" = true)
    (kf__law_strange : PySem.W.keepIn K (.ref a__law_strange) = true)
    (af_law : PySem.W.nsIn K mainGlobals "law" = some (some (.ref a_law)))
    (lf_law : K.lookup a_law = some ⟨oc_law, od_law, .func (PySem.W.fnOf "law" "law" (defArgs s_law) (defBody s_law) (defScope s_law) .none kV_law dc_law pm_law an_law cd_law ct_law), sl_law⟩)
    (cf_law : PySem.W.codeIn K cd_law "law" = true)
    (kf_law : PySem.W.keepIn K (.ref a_law) = true)
    (pg_Sheet : PySem.W.plainGet K c_Sheet Str.empty = true)
    (hd_Sheet : PySem.W.hasDictIn K c_Sheet = true)
    (po_Sheet : PySem.W.plainOver K c_Sheet = true)
    (sa_Sheet : PySem.W.findIn K (.ref c_Sheet) "__setattr__" = some (some (.builtin "object.__setattr__")))
    (mk_Sheet : PySem.W.makesIn K c_Sheet = true)
    (kc_Sheet : PySem.W.keepIn K (.ref c_Sheet) = true)
    (na_Sheet__base : PySem.W.findIn K (.ref c_Sheet) "_base" = some none)
    (na_Sheet__columns : PySem.W.findIn K (.ref c_Sheet) "_columns" = some none)
    (na_Sheet__rows : PySem.W.findIn K (.ref c_Sheet) "_rows" = some none)
    (ns_Sheet : PySem.W.noSeq K c_Sheet = true)
    (sf_Sheet : PySem.W.selfFirst K c_Sheet = true)
    (ic1_Sheet : PySem.W.findIn K (.ref c_Sheet) "__class__" = some (some (.builtin "object.__class__")))
    (ic4_Sheet : PySem.W.mroIn K c_Sheet (.type "object") = some true)
    (icn : PySem.W.specialIn K (.builtin "object.__class__") "__get__" = some (some (.builtin "getset_descriptor.__get__")))
    (ict : PySem.W.takesIn K (.builtin "object.__class__") = some true)
    (io_Sheet : PySem.W.kitOne K (.ref c_Sheet) (.ref c_Sheet) = some true)
    (x_InvalidColumn : PySem.W.excIn K c_InvalidColumn [.type "ValueError", .type "Exception", .type "BaseException", .type "object"] "ValueError.__new__" = true)
    (xk_InvalidColumn : PySem.W.keepIn K (.ref c_InvalidColumn) = true)
    (xb_InvalidColumn : PySem.W.subIn K (.ref c_InvalidColumn) (.type "BaseException") = some true)
    (xt_InvalidColumn : PySem.W.typeIn K (.ref c_InvalidColumn) = some (.type "type"))
    (x_InvalidSheet : PySem.W.excIn K c_InvalidSheet [.type "ValueError", .type "Exception", .type "BaseException", .type "object"] "ValueError.__new__" = true)
    (xk_InvalidSheet : PySem.W.keepIn K (.ref c_InvalidSheet) = true)
    (xb_InvalidSheet : PySem.W.subIn K (.ref c_InvalidSheet) (.type "BaseException") = some true)
    (xt_InvalidSheet : PySem.W.typeIn K (.ref c_InvalidSheet) = some (.type "type"))
    (x_NotAlike : PySem.W.excIn K c_NotAlike [.type "ValueError", .type "Exception", .type "BaseException", .type "object"] "ValueError.__new__" = true)
    (xk_NotAlike : PySem.W.keepIn K (.ref c_NotAlike) = true)
    (xb_NotAlike : PySem.W.subIn K (.ref c_NotAlike) (.type "BaseException") = some true)
    (xt_NotAlike : PySem.W.typeIn K (.ref c_NotAlike) = some (.type "type"))
    (e1_NotAlike : PySem.W.findIn K (.ref c_NotAlike) "__getattribute__" = some (some (.builtin "BaseException.__getattribute__")))
    (e2_NotAlike : PySem.W.findIn K (.ref c_NotAlike) "__getattr__" = some none)
    (e3_NotAlike : PySem.W.hasDictIn K c_NotAlike = true)
    (e4_NotAlike : PySem.W.findIn K (.ref c_NotAlike) "__class__" = some (some (.builtin "object.__class__")))
    (e5_NotAlike : PySem.W.mroIn K c_NotAlike (.type "object") = some true)
    (em_NotAlike_SlipError : PySem.W.exmOne K (.ref c_NotAlike) (.ref c_SlipError) = some true)
    (q_NotAlike_NotAlike : PySem.W.kitOne K (.ref c_NotAlike) (.ref c_NotAlike) = some true)
    (q_NotAlike_ValueError : PySem.W.kitOne K (.ref c_NotAlike) (.type "ValueError") = some true)
    (qa_NotAlike_1 : PySem.W.kitAny K (.ref c_NotAlike) [.ref c_InvalidSheet, .ref c_InvalidCommand, .ref c_InvalidKind, .ref c_InvalidLot, .ref c_InvalidSlips, .ref c_InvalidText] = some false)
    (qa_NotAlike_2 : PySem.W.kitAny K (.ref c_NotAlike) [.ref c_InvalidColumn, .ref c_NotPossible, .ref c_NotReady, .ref c_NothingToUndo, .ref c_TooMany, .ref c_Waits] = some false)
    (nb_ValueError : PySem.W.nsIn K mainGlobals "ValueError" = some none)
    (nb_all : PySem.W.nsIn K mainGlobals "all" = some none)
    (nb_bool : PySem.W.nsIn K mainGlobals "bool" = some none)
    (nb_int : PySem.W.nsIn K mainGlobals "int" = some none)
    (nb_isinstance : PySem.W.nsIn K mainGlobals "isinstance" = some none)
    (nb_len : PySem.W.nsIn K mainGlobals "len" = some none)
    (nb_list : PySem.W.nsIn K mainGlobals "list" = some none)
    (nb_range : PySem.W.nsIn K mainGlobals "range" = some none)
    (nb_sum : PySem.W.nsIn K mainGlobals "sum" = some none)
    (nb_tuple : PySem.W.nsIn K mainGlobals "tuple" = some none)
    (ak_MOST_BASE : PySem.W.nsIn K mainGlobals "MOST_BASE" = some (some (.int 12 tk_MOST_BASE)))
    (ak_MOST_ROWS : PySem.W.nsIn K mainGlobals "MOST_ROWS" = some (some (.int 4 tk_MOST_ROWS)))
    : ∃ fd : FuncData, (∀ (s : Shared) (v : Value), BindsTo s fd ⟨[v], []⟩ [("script", v)]) ∧ ∀ base : Heap, K.In base → base.Ns mainGlobals mg → FnOk P w K mg base CX0 10 fa fd ["script"] (spLaw K) := by
  have e := hfa.symm.trans (PySem.W.mg_of X G af_law)
  cases e
  exact ⟨_, fun s v => .of_eq rfl, fun base _ _ => law_fin (ok_law (txt_mk X G ac_Sheet ac_SlipError ac_InvalidSheet ac_InvalidColumn ac_InvalidKind ac_InvalidLot ac_NotAlike ac_NotPossible ac_TooMany ac_Waits ac_InvalidText ac_InvalidCommand ac_NothingToUndo ac_NotReady ac_InvalidSlips af_is_whole lf_is_whole cf_is_whole kf_is_whole af_is_column lf_is_column cf_is_column kf_is_column af__are_columns lf__are_columns cf__are_columns kf__are_columns af_is_base lf_is_base cf_is_base kf_is_base af_is_rows lf_is_rows cf_is_rows kf_is_rows af_Sheet___init__ if_Sheet___init__ lf_Sheet___init__ cf_Sheet___init__ kf_Sheet___init__ pf_Sheet_base pg_Sheet_base pt_Sheet_base pr_Sheet_base lf_Sheet_base cf_Sheet_base kf_Sheet_base pf_Sheet_rows pg_Sheet_rows pt_Sheet_rows pr_Sheet_rows lf_Sheet_rows cf_Sheet_rows kf_Sheet_rows af_check_alike lf_check_alike cf_check_alike kf_check_alike af_Sheet___add__ if_Sheet___add__ lf_Sheet___add__ cf_Sheet___add__ kf_Sheet___add__ af_place_value lf_place_value cf_place_value kf_place_value pf_Sheet_value pg_Sheet_value pt_Sheet_value pr_Sheet_value lf_Sheet_value cf_Sheet_value kf_Sheet_value af__law_cells lf__law_cells cf__law_cells kf__law_cells af__law_draw lf__law_draw cf__law_draw kf__law_draw af__law_column lf__law_column cf__law_column kf__law_column af__law_columns lf__law_columns cf__law_columns kf__law_columns af__law_deck lf__law_deck cf__law_deck kf__law_deck af_Sheet___setitem__ if_Sheet___setitem__ lf_Sheet___setitem__ cf_Sheet___setitem__ kf_Sheet___setitem__ pf_Sheet_columns pg_Sheet_columns pt_Sheet_columns pr_Sheet_columns lf_Sheet_columns cf_Sheet_columns kf_Sheet_columns af__law_is_integer lf__law_is_integer cf__law_is_integer kf__law_is_integer af__law_is_column lf__law_is_column cf__law_is_column kf__law_is_column af__law_are_columns lf__law_are_columns cf__law_are_columns kf__law_are_columns af__law_right lf__law_right cf__law_right kf__law_right af__law_own lf__law_own cf__law_own kf__law_own af_Sheet___len__ if_Sheet___len__ lf_Sheet___len__ cf_Sheet___len__ kf_Sheet___len__ af_Sheet_cut if_Sheet_cut lf_Sheet_cut cf_Sheet_cut kf_Sheet_cut af__law_parts lf__law_parts cf__law_parts kf__law_parts af__law_power lf__law_power cf__law_power kf__law_power af__law_joined lf__law_joined cf__law_joined kf__law_joined af__law_strange lf__law_strange cf__law_strange kf__law_strange af_law lf_law cf_law kf_law pg_Sheet hd_Sheet po_Sheet sa_Sheet mk_Sheet kc_Sheet na_Sheet__base na_Sheet__columns na_Sheet__rows ns_Sheet sf_Sheet ic1_Sheet ic4_Sheet icn ict io_Sheet x_InvalidColumn xk_InvalidColumn xb_InvalidColumn xt_InvalidColumn x_InvalidSheet xk_InvalidSheet xb_InvalidSheet xt_InvalidSheet x_NotAlike xk_NotAlike xb_NotAlike xt_NotAlike e1_NotAlike e2_NotAlike e3_NotAlike e4_NotAlike e5_NotAlike em_NotAlike_SlipError q_NotAlike_NotAlike q_NotAlike_ValueError qa_NotAlike_1 qa_NotAlike_2 nb_ValueError nb_all nb_bool nb_int nb_isinstance nb_len nb_list nb_range nb_sum nb_tuple ak_MOST_BASE ak_MOST_ROWS))⟩
theorem walk {l : PySem.W.OpenLaw} {q : Program} {loose : List Str} {XP : (Str → Option Value) → Heap → Prop} {YP : World → Heap → Prop} {d : DefRec} {K : Params → PySem.W.Frag} (hn : l.most = some 63) (hdf : d.params.defaults = [])
    (hY : ∀ (w : World) (h : Heap), YP w h → (K w.params).In h)
    (F : ∀ (w : World) (mg : Str → Option Value) (fa : Addr) (h : Heap), (K w.params).In h → h.Ns mainGlobals mg → mg d.name = some (.ref fa) →
      ∃ fd : FuncData, (∀ (s : Shared) (u : Value), BindsTo s fd ⟨[u], []⟩ [("script", u)]) ∧ ∀ base : Heap, (K w.params).In base → base.Ns mainGlobals mg → FnOk l.prog w (K w.params) mg base CX0 10 fa fd ["script"] (spLaw (K w.params))) :
    PySem.W.WalkO q loose XP YP l.row.toRowW d [] (fun f vs => PySem.call f vs) :=
  L2.walk_of (n := 63) (k := 10) (x := "script") (CX := fun _ => CX0) (sp := fun w => spLaw (K w.params)) hn (by decide) hdf ⟨rfl, by decide, by decide⟩ hY F (fun _ _ a ns hl _ hS => ⟨a, ns, rfl, hS, hl, fun _ => rfl⟩) fun _ _ _ _ _ z => z
end LW
open PySem PySem.W PyProof.Rows in
set_option maxRecDepth 100000 in
set_option maxHeartbeats 0 in
theorem PySem.Challenge.cw_sumslips_k04_sheets_cut_and_joined_holds : PySem.Challenge.rw_sumslips_k04_sheets_cut_and_joined.Holds := by
  w_on; o_law; k_head; (case hw => w_witness2)
  k_fill
  refine LW.walk (l := PySem.Challenge.rw_sumslips_k04_sheets_cut_and_joined) rfl rfl (fun w h Y => PySem.W.kIn_of Y) ?F
  case F =>
    intro w mg fa h KX G hmg
    refine' LW.fin KX G hmg ?ac_Sheet ?ac_SlipError ?ac_InvalidSheet ?ac_InvalidColumn ?ac_InvalidKind ?ac_InvalidLot ?ac_NotAlike ?ac_NotPossible ?ac_TooMany ?ac_Waits ?ac_InvalidText ?ac_InvalidCommand ?ac_NothingToUndo ?ac_NotReady ?ac_InvalidSlips ?af_is_whole ?lf_is_whole ?cf_is_whole ?kf_is_whole ?af_is_column ?lf_is_column ?cf_is_column ?kf_is_column ?af__are_columns ?lf__are_columns ?cf__are_columns ?kf__are_columns ?af_is_base ?lf_is_base ?cf_is_base ?kf_is_base ?af_is_rows ?lf_is_rows ?cf_is_rows ?kf_is_rows ?af_Sheet___init__ ?if_Sheet___init__ ?lf_Sheet___init__ ?cf_Sheet___init__ ?kf_Sheet___init__ ?pf_Sheet_base ?pg_Sheet_base ?pt_Sheet_base ?pr_Sheet_base ?lf_Sheet_base ?cf_Sheet_base ?kf_Sheet_base ?pf_Sheet_rows ?pg_Sheet_rows ?pt_Sheet_rows ?pr_Sheet_rows ?lf_Sheet_rows ?cf_Sheet_rows ?kf_Sheet_rows ?af_check_alike ?lf_check_alike ?cf_check_alike ?kf_check_alike ?af_Sheet___add__ ?if_Sheet___add__ ?lf_Sheet___add__ ?cf_Sheet___add__ ?kf_Sheet___add__ ?af_place_value ?lf_place_value ?cf_place_value ?kf_place_value ?pf_Sheet_value ?pg_Sheet_value ?pt_Sheet_value ?pr_Sheet_value ?lf_Sheet_value ?cf_Sheet_value ?kf_Sheet_value ?af__law_cells ?lf__law_cells ?cf__law_cells ?kf__law_cells ?af__law_draw ?lf__law_draw ?cf__law_draw ?kf__law_draw ?af__law_column ?lf__law_column ?cf__law_column ?kf__law_column ?af__law_columns ?lf__law_columns ?cf__law_columns ?kf__law_columns ?af__law_deck ?lf__law_deck ?cf__law_deck ?kf__law_deck ?af_Sheet___setitem__ ?if_Sheet___setitem__ ?lf_Sheet___setitem__ ?cf_Sheet___setitem__ ?kf_Sheet___setitem__ ?pf_Sheet_columns ?pg_Sheet_columns ?pt_Sheet_columns ?pr_Sheet_columns ?lf_Sheet_columns ?cf_Sheet_columns ?kf_Sheet_columns ?af__law_is_integer ?lf__law_is_integer ?cf__law_is_integer ?kf__law_is_integer ?af__law_is_column ?lf__law_is_column ?cf__law_is_column ?kf__law_is_column ?af__law_are_columns ?lf__law_are_columns ?cf__law_are_columns ?kf__law_are_columns ?af__law_right ?lf__law_right ?cf__law_right ?kf__law_right ?af__law_own ?lf__law_own ?cf__law_own ?kf__law_own ?af_Sheet___len__ ?if_Sheet___len__ ?lf_Sheet___len__ ?cf_Sheet___len__ ?kf_Sheet___len__ ?af_Sheet_cut ?if_Sheet_cut ?lf_Sheet_cut ?cf_Sheet_cut ?kf_Sheet_cut ?af__law_parts ?lf__law_parts ?cf__law_parts ?kf__law_parts ?af__law_power ?lf__law_power ?cf__law_power ?kf__law_power ?af__law_joined ?lf__law_joined ?cf__law_joined ?kf__law_joined ?af__law_strange ?lf__law_strange ?cf__law_strange ?kf__law_strange ?af_law ?lf_law ?cf_law ?kf_law ?pg_Sheet ?hd_Sheet ?po_Sheet ?sa_Sheet ?mk_Sheet ?kc_Sheet ?na_Sheet__base ?na_Sheet__columns ?na_Sheet__rows ?ns_Sheet ?sf_Sheet ?ic1_Sheet ?ic4_Sheet ?icn ?ict ?io_Sheet ?x_InvalidColumn ?xk_InvalidColumn ?xb_InvalidColumn ?xt_InvalidColumn ?x_InvalidSheet ?xk_InvalidSheet ?xb_InvalidSheet ?xt_InvalidSheet ?x_NotAlike ?xk_NotAlike ?xb_NotAlike ?xt_NotAlike ?e1_NotAlike ?e2_NotAlike ?e3_NotAlike ?e4_NotAlike ?e5_NotAlike ?em_NotAlike_SlipError ?q_NotAlike_NotAlike ?q_NotAlike_ValueError ?qa_NotAlike_1 ?qa_NotAlike_2 ?nb_ValueError ?nb_all ?nb_bool ?nb_int ?nb_isinstance ?nb_len ?nb_list ?nb_range ?nb_sum ?nb_tuple ?ak_MOST_BASE ?ak_MOST_ROWS
    (case ac_Sheet => first | k_is | kit_is | kts_exm | k_exc | decide | rfl)
    (case ac_SlipError => first | k_is | kit_is | kts_exm | k_exc | decide | rfl)
    (case ac_InvalidSheet => first | k_is | kit_is | kts_exm | k_exc | decide | rfl)
    (case ac_InvalidColumn => first | k_is | kit_is | kts_exm | k_exc | decide | rfl)
    (case ac_InvalidKind => first | k_is | kit_is | kts_exm | k_exc | decide | rfl)
    (case ac_InvalidLot => first | k_is | kit_is | kts_exm | k_exc | decide | rfl)
    (case ac_NotAlike => first | k_is | kit_is | kts_exm | k_exc | decide | rfl)
    (case ac_NotPossible => first | k_is | kit_is | kts_exm | k_exc | decide | rfl)
    (case ac_TooMany => first | k_is | kit_is | kts_exm | k_exc | decide | rfl)
    (case ac_Waits => first | k_is | kit_is | kts_exm | k_exc | decide | rfl)
    (case ac_InvalidText => first | k_is | kit_is | kts_exm | k_exc | decide | rfl)
    (case ac_InvalidCommand => first | k_is | kit_is | kts_exm | k_exc | decide | rfl)
    (case ac_NothingToUndo => first | k_is | kit_is | kts_exm | k_exc | decide | rfl)
    (case ac_NotReady => first | k_is | kit_is | kts_exm | k_exc | decide | rfl)
    (case ac_InvalidSlips => first | k_is | kit_is | kts_exm | k_exc | decide | rfl)
    (case af_is_whole => first | k_is | kit_is | kts_exm | k_exc | decide | rfl)
    (case lf_is_whole => first | k_is | kit_is | kts_exm | k_exc | decide | rfl)
    (case cf_is_whole => first | k_is | kit_is | kts_exm | k_exc | decide | rfl)
    (case kf_is_whole => first | k_is | kit_is | kts_exm | k_exc | decide | rfl)
    (case af_is_column => first | k_is | kit_is | kts_exm | k_exc | decide | rfl)
    (case lf_is_column => first | k_is | kit_is | kts_exm | k_exc | decide | rfl)
    (case cf_is_column => first | k_is | kit_is | kts_exm | k_exc | decide | rfl)
    (case kf_is_column => first | k_is | kit_is | kts_exm | k_exc | decide | rfl)
    (case af__are_columns => first | k_is | kit_is | kts_exm | k_exc | decide | rfl)
    (case lf__are_columns => first | k_is | kit_is | kts_exm | k_exc | decide | rfl)
    (case cf__are_columns => first | k_is | kit_is | kts_exm | k_exc | decide | rfl)
    (case kf__are_columns => first | k_is | kit_is | kts_exm | k_exc | decide | rfl)
    (case af_is_base => first | k_is | kit_is | kts_exm | k_exc | decide | rfl)
    (case lf_is_base => first | k_is | kit_is | kts_exm | k_exc | decide | rfl)
    (case cf_is_base => first | k_is | kit_is | kts_exm | k_exc | decide | rfl)
    (case kf_is_base => first | k_is | kit_is | kts_exm | k_exc | decide | rfl)
    (case af_is_rows => first | k_is | kit_is | kts_exm | k_exc | decide | rfl)
    (case lf_is_rows => first | k_is | kit_is | kts_exm | k_exc | decide | rfl)
    (case cf_is_rows => first | k_is | kit_is | kts_exm | k_exc | decide | rfl)
    (case kf_is_rows => first | k_is | kit_is | kts_exm | k_exc | decide | rfl)
    (case af_Sheet___init__ => first | k_is | kit_is | kts_exm | k_exc | decide | rfl)
    (case if_Sheet___init__ => first | k_is | kit_is | kts_exm | k_exc | decide | rfl)
    (case lf_Sheet___init__ => first | k_is | kit_is | kts_exm | k_exc | decide | rfl)
    (case cf_Sheet___init__ => first | k_is | kit_is | kts_exm | k_exc | decide | rfl)
    (case kf_Sheet___init__ => first | k_is | kit_is | kts_exm | k_exc | decide | rfl)
    (case pf_Sheet_base => first | k_is | kit_is | kts_exm | k_exc | decide | rfl)
    (case pg_Sheet_base => first | k_is | kit_is | kts_exm | k_exc | decide | rfl)
    (case pt_Sheet_base => first | k_is | kit_is | kts_exm | k_exc | decide | rfl)
    (case pr_Sheet_base => first | k_is | kit_is | kts_exm | k_exc | decide | rfl)
    (case lf_Sheet_base => first | k_is | kit_is | kts_exm | k_exc | decide | rfl)
    (case cf_Sheet_base => first | k_is | kit_is | kts_exm | k_exc | decide | rfl)
    (case kf_Sheet_base => first | k_is | kit_is | kts_exm | k_exc | decide | rfl)
    (case pf_Sheet_rows => first | k_is | kit_is | kts_exm | k_exc | decide | rfl)
    (case pg_Sheet_rows => first | k_is | kit_is | kts_exm | k_exc | decide | rfl)
    (case pt_Sheet_rows => first | k_is | kit_is | kts_exm | k_exc | decide | rfl)
    (case pr_Sheet_rows => first | k_is | kit_is | kts_exm | k_exc | decide | rfl)
    (case lf_Sheet_rows => first | k_is | kit_is | kts_exm | k_exc | decide | rfl)
    (case cf_Sheet_rows => first | k_is | kit_is | kts_exm | k_exc | decide | rfl)
    (case kf_Sheet_rows => first | k_is | kit_is | kts_exm | k_exc | decide | rfl)
    (case af_check_alike => first | k_is | kit_is | kts_exm | k_exc | decide | rfl)
    (case lf_check_alike => first | k_is | kit_is | kts_exm | k_exc | decide | rfl)
    (case cf_check_alike => first | k_is | kit_is | kts_exm | k_exc | decide | rfl)
    (case kf_check_alike => first | k_is | kit_is | kts_exm | k_exc | decide | rfl)
    (case af_Sheet___add__ => first | k_is | kit_is | kts_exm | k_exc | decide | rfl)
    (case if_Sheet___add__ => first | k_is | kit_is | kts_exm | k_exc | decide | rfl)
    (case lf_Sheet___add__ => first | k_is | kit_is | kts_exm | k_exc | decide | rfl)
    (case cf_Sheet___add__ => first | k_is | kit_is | kts_exm | k_exc | decide | rfl)
    (case kf_Sheet___add__ => first | k_is | kit_is | kts_exm | k_exc | decide | rfl)
    (case af_place_value => first | k_is | kit_is | kts_exm | k_exc | decide | rfl)
    (case lf_place_value => first | k_is | kit_is | kts_exm | k_exc | decide | rfl)
    (case cf_place_value => first | k_is | kit_is | kts_exm | k_exc | decide | rfl)
    (case kf_place_value => first | k_is | kit_is | kts_exm | k_exc | decide | rfl)
    (case pf_Sheet_value => first | k_is | kit_is | kts_exm | k_exc | decide | rfl)
    (case pg_Sheet_value => first | k_is | kit_is | kts_exm | k_exc | decide | rfl)
    (case pt_Sheet_value => first | k_is | kit_is | kts_exm | k_exc | decide | rfl)
    (case pr_Sheet_value => first | k_is | kit_is | kts_exm | k_exc | decide | rfl)
    (case lf_Sheet_value => first | k_is | kit_is | kts_exm | k_exc | decide | rfl)
    (case cf_Sheet_value => first | k_is | kit_is | kts_exm | k_exc | decide | rfl)
    (case kf_Sheet_value => first | k_is | kit_is | kts_exm | k_exc | decide | rfl)
    (case af__law_cells => first | k_is | kit_is | kts_exm | k_exc | decide | rfl)
    (case lf__law_cells => first | k_is | kit_is | kts_exm | k_exc | decide | rfl)
    (case cf__law_cells => first | k_is | kit_is | kts_exm | k_exc | decide | rfl)
    (case kf__law_cells => first | k_is | kit_is | kts_exm | k_exc | decide | rfl)
    (case af__law_draw => first | k_is | kit_is | kts_exm | k_exc | decide | rfl)
    (case lf__law_draw => first | k_is | kit_is | kts_exm | k_exc | decide | rfl)
    (case cf__law_draw => first | k_is | kit_is | kts_exm | k_exc | decide | rfl)
    (case kf__law_draw => first | k_is | kit_is | kts_exm | k_exc | decide | rfl)
    (case af__law_column => first | k_is | kit_is | kts_exm | k_exc | decide | rfl)
    (case lf__law_column => first | k_is | kit_is | kts_exm | k_exc | decide | rfl)
    (case cf__law_column => first | k_is | kit_is | kts_exm | k_exc | decide | rfl)
    (case kf__law_column => first | k_is | kit_is | kts_exm | k_exc | decide | rfl)
    (case af__law_columns => first | k_is | kit_is | kts_exm | k_exc | decide | rfl)
    (case lf__law_columns => first | k_is | kit_is | kts_exm | k_exc | decide | rfl)
    (case cf__law_columns => first | k_is | kit_is | kts_exm | k_exc | decide | rfl)
    (case kf__law_columns => first | k_is | kit_is | kts_exm | k_exc | decide | rfl)
    (case af__law_deck => first | k_is | kit_is | kts_exm | k_exc | decide | rfl)
    (case lf__law_deck => first | k_is | kit_is | kts_exm | k_exc | decide | rfl)
    (case cf__law_deck => first | k_is | kit_is | kts_exm | k_exc | decide | rfl)
    (case kf__law_deck => first | k_is | kit_is | kts_exm | k_exc | decide | rfl)
    (case af_Sheet___setitem__ => first | k_is | kit_is | kts_exm | k_exc | decide | rfl)
    (case if_Sheet___setitem__ => first | k_is | kit_is | kts_exm | k_exc | decide | rfl)
    (case lf_Sheet___setitem__ => first | k_is | kit_is | kts_exm | k_exc | decide | rfl)
    (case cf_Sheet___setitem__ => first | k_is | kit_is | kts_exm | k_exc | decide | rfl)
    (case kf_Sheet___setitem__ => first | k_is | kit_is | kts_exm | k_exc | decide | rfl)
    (case pf_Sheet_columns => first | k_is | kit_is | kts_exm | k_exc | decide | rfl)
    (case pg_Sheet_columns => first | k_is | kit_is | kts_exm | k_exc | decide | rfl)
    (case pt_Sheet_columns => first | k_is | kit_is | kts_exm | k_exc | decide | rfl)
    (case pr_Sheet_columns => first | k_is | kit_is | kts_exm | k_exc | decide | rfl)
    (case lf_Sheet_columns => first | k_is | kit_is | kts_exm | k_exc | decide | rfl)
    (case cf_Sheet_columns => first | k_is | kit_is | kts_exm | k_exc | decide | rfl)
    (case kf_Sheet_columns => first | k_is | kit_is | kts_exm | k_exc | decide | rfl)
    (case af__law_is_integer => first | k_is | kit_is | kts_exm | k_exc | decide | rfl)
    (case lf__law_is_integer => first | k_is | kit_is | kts_exm | k_exc | decide | rfl)
    (case cf__law_is_integer => first | k_is | kit_is | kts_exm | k_exc | decide | rfl)
    (case kf__law_is_integer => first | k_is | kit_is | kts_exm | k_exc | decide | rfl)
    (case af__law_is_column => first | k_is | kit_is | kts_exm | k_exc | decide | rfl)
    (case lf__law_is_column => first | k_is | kit_is | kts_exm | k_exc | decide | rfl)
    (case cf__law_is_column => first | k_is | kit_is | kts_exm | k_exc | decide | rfl)
    (case kf__law_is_column => first | k_is | kit_is | kts_exm | k_exc | decide | rfl)
    (case af__law_are_columns => first | k_is | kit_is | kts_exm | k_exc | decide | rfl)
    (case lf__law_are_columns => first | k_is | kit_is | kts_exm | k_exc | decide | rfl)
    (case cf__law_are_columns => first | k_is | kit_is | kts_exm | k_exc | decide | rfl)
    (case kf__law_are_columns => first | k_is | kit_is | kts_exm | k_exc | decide | rfl)
    (case af__law_right => first | k_is | kit_is | kts_exm | k_exc | decide | rfl)
    (case lf__law_right => first | k_is | kit_is | kts_exm | k_exc | decide | rfl)
    (case cf__law_right => first | k_is | kit_is | kts_exm | k_exc | decide | rfl)
    (case kf__law_right => first | k_is | kit_is | kts_exm | k_exc | decide | rfl)
    (case af__law_own => first | k_is | kit_is | kts_exm | k_exc | decide | rfl)
    (case lf__law_own => first | k_is | kit_is | kts_exm | k_exc | decide | rfl)
    (case cf__law_own => first | k_is | kit_is | kts_exm | k_exc | decide | rfl)
    (case kf__law_own => first | k_is | kit_is | kts_exm | k_exc | decide | rfl)
    (case af_Sheet___len__ => first | k_is | kit_is | kts_exm | k_exc | decide | rfl)
    (case if_Sheet___len__ => first | k_is | kit_is | kts_exm | k_exc | decide | rfl)
    (case lf_Sheet___len__ => first | k_is | kit_is | kts_exm | k_exc | decide | rfl)
    (case cf_Sheet___len__ => first | k_is | kit_is | kts_exm | k_exc | decide | rfl)
    (case kf_Sheet___len__ => first | k_is | kit_is | kts_exm | k_exc | decide | rfl)
    (case af_Sheet_cut => first | k_is | kit_is | kts_exm | k_exc | decide | rfl)
    (case if_Sheet_cut => first | k_is | kit_is | kts_exm | k_exc | decide | rfl)
    (case lf_Sheet_cut => first | k_is | kit_is | kts_exm | k_exc | decide | rfl)
    (case cf_Sheet_cut => first | k_is | kit_is | kts_exm | k_exc | decide | rfl)
    (case kf_Sheet_cut => first | k_is | kit_is | kts_exm | k_exc | decide | rfl)
    (case af__law_parts => first | k_is | kit_is | kts_exm | k_exc | decide | rfl)
    (case lf__law_parts => first | k_is | kit_is | kts_exm | k_exc | decide | rfl)
    (case cf__law_parts => first | k_is | kit_is | kts_exm | k_exc | decide | rfl)
    (case kf__law_parts => first | k_is | kit_is | kts_exm | k_exc | decide | rfl)
    (case af__law_power => first | k_is | kit_is | kts_exm | k_exc | decide | rfl)
    (case lf__law_power => first | k_is | kit_is | kts_exm | k_exc | decide | rfl)
    (case cf__law_power => first | k_is | kit_is | kts_exm | k_exc | decide | rfl)
    (case kf__law_power => first | k_is | kit_is | kts_exm | k_exc | decide | rfl)
    (case af__law_joined => first | k_is | kit_is | kts_exm | k_exc | decide | rfl)
    (case lf__law_joined => first | k_is | kit_is | kts_exm | k_exc | decide | rfl)
    (case cf__law_joined => first | k_is | kit_is | kts_exm | k_exc | decide | rfl)
    (case kf__law_joined => first | k_is | kit_is | kts_exm | k_exc | decide | rfl)
    (case af__law_strange => first | k_is | kit_is | kts_exm | k_exc | decide | rfl)
    (case lf__law_strange => first | k_is | kit_is | kts_exm | k_exc | decide | rfl)
    (case cf__law_strange => first | k_is | kit_is | kts_exm | k_exc | decide | rfl)
    (case kf__law_strange => first | k_is | kit_is | kts_exm | k_exc | decide | rfl)
    (case af_law => first | k_is | kit_is | kts_exm | k_exc | decide | rfl)
    (case lf_law => first | k_is | kit_is | kts_exm | k_exc | decide | rfl)
    (case cf_law => first | k_is | kit_is | kts_exm | k_exc | decide | rfl)
    (case kf_law => first | k_is | kit_is | kts_exm | k_exc | decide | rfl)
    (case pg_Sheet => first | k_is | kit_is | kts_exm | k_exc | decide | rfl)
    (case hd_Sheet => first | k_is | kit_is | kts_exm | k_exc | decide | rfl)
    (case po_Sheet => first | k_is | kit_is | kts_exm | k_exc | decide | rfl)
    (case sa_Sheet => first | k_is | kit_is | kts_exm | k_exc | decide | rfl)
    (case mk_Sheet => first | k_is | kit_is | kts_exm | k_exc | decide | rfl)
    (case kc_Sheet => first | k_is | kit_is | kts_exm | k_exc | decide | rfl)
    (case na_Sheet__base => first | k_is | kit_is | kts_exm | k_exc | decide | rfl)
    (case na_Sheet__columns => first | k_is | kit_is | kts_exm | k_exc | decide | rfl)
    (case na_Sheet__rows => first | k_is | kit_is | kts_exm | k_exc | decide | rfl)
    (case ns_Sheet => first | k_is | kit_is | kts_exm | k_exc | decide | rfl)
    (case sf_Sheet => first | k_is | kit_is | kts_exm | k_exc | decide | rfl)
    (case ic1_Sheet => first | k_is | kit_is | kts_exm | k_exc | decide | rfl)
    (case ic4_Sheet => first | k_is | kit_is | kts_exm | k_exc | decide | rfl)
    (case icn => first | k_is | kit_is | kts_exm | k_exc | decide | rfl)
    (case ict => first | k_is | kit_is | kts_exm | k_exc | decide | rfl)
    (case io_Sheet => first | k_is | kit_is | kts_exm | k_exc | decide | rfl)
    (case x_InvalidColumn => first | k_is | kit_is | kts_exm | k_exc | decide | rfl)
    (case xk_InvalidColumn => first | k_is | kit_is | kts_exm | k_exc | decide | rfl)
    (case xb_InvalidColumn => first | k_is | kit_is | kts_exm | k_exc | decide | rfl)
    (case xt_InvalidColumn => first | k_is | kit_is | kts_exm | k_exc | decide | rfl)
    (case x_InvalidSheet => first | k_is | kit_is | kts_exm | k_exc | decide | rfl)
    (case xk_InvalidSheet => first | k_is | kit_is | kts_exm | k_exc | decide | rfl)
    (case xb_InvalidSheet => first | k_is | kit_is | kts_exm | k_exc | decide | rfl)
    (case xt_InvalidSheet => first | k_is | kit_is | kts_exm | k_exc | decide | rfl)
    (case x_NotAlike => first | k_is | kit_is | kts_exm | k_exc | decide | rfl)
    (case xk_NotAlike => first | k_is | kit_is | kts_exm | k_exc | decide | rfl)
    (case xb_NotAlike => first | k_is | kit_is | kts_exm | k_exc | decide | rfl)
    (case xt_NotAlike => first | k_is | kit_is | kts_exm | k_exc | decide | rfl)
    (case e1_NotAlike => first | k_is | kit_is | kts_exm | k_exc | decide | rfl)
    (case e2_NotAlike => first | k_is | kit_is | kts_exm | k_exc | decide | rfl)
    (case e3_NotAlike => first | k_is | kit_is | kts_exm | k_exc | decide | rfl)
    (case e4_NotAlike => first | k_is | kit_is | kts_exm | k_exc | decide | rfl)
    (case e5_NotAlike => first | k_is | kit_is | kts_exm | k_exc | decide | rfl)
    (case em_NotAlike_SlipError => first | k_is | kit_is | kts_exm | k_exc | decide | rfl)
    (case q_NotAlike_NotAlike => first | k_is | kit_is | kts_exm | k_exc | decide | rfl)
    (case q_NotAlike_ValueError => first | k_is | kit_is | kts_exm | k_exc | decide | rfl)
    (case qa_NotAlike_1 => first | k_is | kit_is | kts_exm | k_exc | decide | rfl)
    (case qa_NotAlike_2 => first | k_is | kit_is | kts_exm | k_exc | decide | rfl)
    (case nb_ValueError => first | k_is | kit_is | kts_exm | k_exc | decide | rfl)
    (case nb_all => first | k_is | kit_is | kts_exm | k_exc | decide | rfl)
    (case nb_bool => first | k_is | kit_is | kts_exm | k_exc | decide | rfl)
    (case nb_int => first | k_is | kit_is | kts_exm | k_exc | decide | rfl)
    (case nb_isinstance => first | k_is | kit_is | kts_exm | k_exc | decide | rfl)
    (case nb_len => first | k_is | kit_is | kts_exm | k_exc | decide | rfl)
    (case nb_list => first | k_is | kit_is | kts_exm | k_exc | decide | rfl)
    (case nb_range => first | k_is | kit_is | kts_exm | k_exc | decide | rfl)
    (case nb_sum => first | k_is | kit_is | kts_exm | k_exc | decide | rfl)
    (case nb_tuple => first | k_is | kit_is | kts_exm | k_exc | decide | rfl)
    (case ak_MOST_BASE => first | k_is | kit_is | kts_exm | k_exc | decide | rfl)
    (case ak_MOST_ROWS => first | k_is | kit_is | kts_exm | k_exc | decide | rfl)
