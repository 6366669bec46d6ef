import PyProof.Rows.All
import Wide.All
import OpenK.AllK
import Wide.FinOn
import HandS.ForMost
import HandS.ForExc
import HandS.Style
import HandS.Property
import HandS.IsInst
import HandS.Wide
import HandS.ExcIs
import HandS.Star
import HandS.Deep
import HandS.TupAny
import KE.DataCmp
import KE.DatumOrd
import HandS.TupSets
import HandS.Zip
import HandS.Walk
import KE.KExcSuper
import KE.KExcIs
import HandS.ExcInit
import HandS.ExcField
import HandS.FStr
import HandS.TryOnly
import HandS.Conv
import HandS.Dict
import PySem.Challenge.RW_sumslips_k11_slips_that_are_refused
set_option Elab.async false
set_option linter.all false
set_option maxRecDepth 100000
namespace SX
open PySem PySem.Spec L2
def Ex (H H' : Hp) : Prop := ∀ a o, H a = some o → H' a = some o
theorem Ex.refl (H : Hp) : Ex H H := fun _ _ h => h
theorem Ex.trans {H H1 H2 : Hp} (a : Ex H H1) (b : Ex H1 H2) : Ex H H2 := fun x o h => b x o (a x o h)
theorem Ex.new {H : Hp} {p : Addr} {o : HO} (h : H p = none) : Ex H (upd H p o) := fun a u e => by
  rw [upd_ne (ne_of_none e h)]
  exact e
abbrev Mem := List (Addr × HO)
structure Me (G : Hp) (M : Mem) (H : Hp) : Prop where
  ex : Ex G H
  at_ : ∀ p ∈ M, H p.1 = some p.2 ∧ G p.1 = none
  nd : (M.map (·.1)).Nodup
section
variable {G G' H : Hp} {M M' F : Mem} {p q : Addr} {o o' : HO} {i : Nat}
theorem Me.get (m : Me G M H) (h : M[i]? = some (p, o)) : H p = some o := (m.at_ _ (List.mem_of_getElem? h)).1
theorem get_app (h : M[i]? = some (p, o)) : (M ++ F)[i]? = some (p, o) := by
  rw [List.getElem?_append_left (List.getElem?_eq_some_iff.mp h).1]
  exact h
theorem Me.getF (m : Me G (M ++ F) H) (h : M[i]? = some (p, o)) : H p = some o := m.get (get_app h)
theorem Me.free (m : Me G M H) (h : H p = none) : G p = none := by
  cases e : G p with
  | none => rfl
  | some u =>
    rw [m.ex p u e] at h
    cases h
theorem Me.notin (m : Me G M H) (h : H p = none) : p ∉ M.map (·.1) := fun z => by
  obtain ⟨x, hx, e⟩ := List.mem_map.mp z
  have := (m.at_ x hx).1
  rw [e, h] at this
  cases this
theorem Me.new (m : Me G M H) (h : H p = none) : Me G M (upd H p o) :=
  ⟨m.ex.trans (Ex.new h), fun x hx => ⟨by rw [upd_ne (ne_of_none (m.at_ x hx).1 h)]; exact (m.at_ x hx).1, (m.at_ x hx).2⟩, m.nd⟩
theorem Me.newF (m : Me G M H) (h : H p = none) : Me (upd G p o) M (upd H p o) :=
  ⟨fun a u e => by
    by_cases ha : a = p
    · subst ha
      rw [upd_same] at e ⊢
      exact e
    · rw [upd_ne ha] at e ⊢
      exact m.ex a u e, fun x hx => by
    have hne : x.1 ≠ p := ne_of_none (m.at_ x hx).1 h
    rw [upd_ne hne, upd_ne hne]
    exact m.at_ x hx, m.nd⟩
theorem Me.sub (m : Me G M H) (h : M'.Sublist M) : Me G M' H := ⟨m.ex, fun x hx => m.at_ x (h.subset hx), (m.nd.sublist (h.map _))⟩
theorem Me.perm (m : Me G M H) (h : M'.Perm M) : Me G M' H := ⟨m.ex, fun x hx => m.at_ x (h.mem_iff.mp hx), (h.map _).nodup_iff.mpr m.nd⟩
theorem Me.newM (m : Me G M H) (h : H p = none) : Me G ((p, o) :: M) (upd H p o) :=
  ⟨(m.new h).ex, fun x hx => by
    rcases List.mem_cons.mp hx with rfl | hx
    · exact ⟨upd_same, m.free h⟩
    · exact (m.new h).at_ x hx, List.nodup_cons.mpr ⟨m.notin h, m.nd⟩⟩
theorem Me.newMid (m : Me G (M ++ F) H) (h : H p = none) : Me G ((M ++ [(p, o)]) ++ F) (upd H p o) :=
  (m.newM h).perm (by rw [List.append_assoc]; exact List.perm_middle)
theorem Me.put (m : Me G M H) (h : M[i]? = some (p, o)) : Me G (M.set i (p, o')) (upd H p o') := by
  obtain ⟨hi, e⟩ := List.getElem?_eq_some_iff.mp h
  have hk : (M.set i (p, o')).map (·.1) = M.map (·.1) := by
    rw [List.map_set]
    apply List.ext_getElem?
    intro j
    rw [List.getElem?_set]
    split
    · rename_i hj
      subst hj
      rw [if_pos (by rw [List.length_map]; exact hi), List.getElem?_map, h]
      rfl
    · rfl
  have gp : G p = none := (m.at_ _ (List.mem_of_getElem? h)).2
  refine ⟨fun a u ea => ?_, fun x hx => ?_, by rw [hk]; exact m.nd⟩
  · rw [upd_ne (ne_of_none ea gp)]
    exact m.ex a u ea
  · obtain ⟨j, hj, ej⟩ := List.mem_iff_getElem.mp hx
    rw [List.length_set] at hj
    rw [List.getElem_set] at ej
    by_cases hij : i = j
    · rw [if_pos hij] at ej
      subst ej
      exact ⟨upd_same, gp⟩
    · rw [if_neg hij] at ej
      subst ej
      have hne : M[j].1 ≠ p := fun z => by
        have n := m.nd
        rw [List.nodup_iff_pairwise_ne] at n
        have := List.pairwise_iff_getElem.mp n
        rcases Nat.lt_or_gt_of_ne hij with l | l
        · have q := this i j (by rw [List.length_map]; exact hi) (by rw [List.length_map]; exact hj) l
          rw [List.getElem_map, List.getElem_map, e] at q
          exact q z.symm
        · have q := this j i (by rw [List.length_map]; exact hj) (by rw [List.length_map]; exact hi) l
          rw [List.getElem_map, List.getElem_map, e] at q
          exact q z
      rw [upd_ne hne]
      exact m.at_ _ (List.getElem_mem hj)
theorem set_app {x : Addr × HO} (h : i < M.length) : (M ++ F).set i x = M.set i x ++ F := by
  rw [List.set_append, if_pos h]
theorem Me.putF (m : Me G (M ++ F) H) (h : M[i]? = some (p, o)) : Me G (M.set i (p, o') ++ F) (upd H p o') := by
  rw [← set_app (List.getElem?_eq_some_iff.mp h).1]
  exact m.put (get_app h)
/-- what is owned is frozen -/
theorem Me.freeze (m : Me G ((p, o) :: M) H) : Me (upd G p o) M H ∧ Ex G (upd G p o) := by
  have gp := (m.at_ _ (List.mem_cons_self)).2
  have hp := (m.at_ _ (List.mem_cons_self)).1
  have nd := List.nodup_cons.mp m.nd
  refine ⟨⟨fun a u e => ?_, fun x hx => ?_, nd.2⟩, Ex.new gp⟩
  · by_cases ha : a = p
    · subst ha
      rw [upd_same] at e
      cases e
      exact hp
    · rw [upd_ne ha] at e
      exact m.ex a u e
  · refine ⟨(m.at_ x (List.mem_cons_of_mem _ hx)).1, ?_⟩
    have hne : x.1 ≠ p := fun z => nd.1 (List.mem_map.mpr ⟨x, hx, z⟩)
    rw [upd_ne hne]
    exact (m.at_ x (List.mem_cons_of_mem _ hx)).2
theorem Me.freezeMid (m : Me G (M ++ (p, o) :: F) H) : Me (upd G p o) (M ++ F) H ∧ Ex G (upd G p o) := (m.perm List.perm_middle.symm).freeze
theorem Me.freezeLast (m : Me G ((M ++ [(p, o)]) ++ F) H) : Me (upd G p o) (M ++ F) H ∧ Ex G (upd G p o) := by
  rw [List.append_assoc] at m
  exact m.freezeMid
end
section
variable {K : PySem.W.Frag} {G G' H : Hp}
theorem ex_rd {a : Addr} {u : HO} (e : Ex G G') (h : Rd G a u) : Rd G' a u := by
  rcases h with h | ⟨o, h⟩
  · exact .inl (e a _ h)
  · exact .inr ⟨o, e a _ h⟩
theorem ex_l {a : Addr} {xs : List V} (e : Ex G G') (h : SqL K G a xs) : SqL K G' a xs := by
  rcases h with h | h
  · exact .inl (ex_rd e h)
  · exact .inr h
theorem ex_t {a : Addr} {xs : List V} (e : Ex G G') (h : SqT K G a xs) : SqT K G' a xs := by
  rcases h with h | h
  · exact .inl (ex_rd e h)
  · exact .inr h
mutual
theorem Dp.ex (e : Ex G G') : ∀ (d : PyData) (v : V), Dp K G v d → Dp K G' v d
  | .none, _, h => by cases h; exact .non
  | .bool b, _, h => by cases h; exact .bl b
  | .int i, _, h => by cases h; exact .int i
  | .str x, _, h => by cases h; exact .str x
  | .list ds, _, h => by
    cases h with
    | lst hs ha => exact .lst (ex_l e hs) (DpAll.ex e ds _ ha)
  | .tuple ds, _, h => by
    cases h with
    | tup hs ha => exact .tup (ex_t e hs) (DpAll.ex e ds _ ha)
  | .dict _, _, h => by cases h
theorem DpAll.ex (e : Ex G G') : ∀ (ds : List PyData) (vs : List V), DpAll K G vs ds → DpAll K G' vs ds
  | [], _, h => by cases h; exact .nil
  | d :: ds, _, h => by
    cases h with
    | cons h1 h2 => exact .cons (Dp.ex e d _ h1) (DpAll.ex e ds _ h2)
end
theorem dm {v : V} {d : PyData} (h : Dp K G v d) (e : Ex G G') : Dp K G' v d := Dp.ex e d v h
theorem dma {vs : List V} {ds : List PyData} (h : DpAll K G vs ds) (e : Ex G G') : DpAll K G' vs ds := DpAll.ex e ds vs h
theorem dpa_len : ∀ {vs : List V} {ds : List PyData}, DpAll K G vs ds → vs.length = ds.length
  | _, [], h => by cases h; rfl
  | _, d :: ds, h => by
    cases h with
    | cons _ h2 => simp [dpa_len h2]
theorem dpa_at : ∀ {vs : List V} {ds : List PyData} {i : Nat} {d : PyData}, DpAll K G vs ds → ds[i]? = some d → ∃ v, vs[i]? = some v ∧ Dp K G v d
  | _, [], _, _, _, e => by simp at e
  | _, d :: ds, 0, _, h, e => by
    cases h with
    | cons h1 _ => exact ⟨_, rfl, by have := Option.some.inj e; rw [← this]; exact h1⟩
  | _, d :: ds, i + 1, _, h, e => by
    cases h with
    | cons _ h2 => exact dpa_at (i := i) h2 e
theorem dpa_atV : ∀ {vs : List V} {ds : List PyData} {i : Nat} {v : V}, DpAll K G vs ds → vs[i]? = some v → ∃ d, ds[i]? = some d ∧ Dp K G v d
  | _, [], _, _, h, e => by cases h; simp at e
  | _, d :: ds, 0, _, h, e => by
    cases h with
    | cons h1 _ => exact ⟨_, rfl, by have := Option.some.inj e; rw [← this]; exact h1⟩
  | _, d :: ds, i + 1, _, h, e => by
    cases h with
    | cons _ h2 => exact dpa_atV (i := i) h2 e
theorem dpa_app : ∀ {vs ws : List V} {ds es : List PyData}, DpAll K G vs ds → DpAll K G ws es → DpAll K G (vs ++ ws) (ds ++ es)
  | _, _, [], _, h, h' => by cases h; exact h'
  | _, _, d :: ds, _, h, h' => by
    cases h with
    | cons h1 h2 => exact .cons h1 (dpa_app h2 h')
theorem dp_int {v : V} {n : Int} (h : Dp K G v (.int n)) : v = .int n := by cases h; rfl
theorem dp_bl {v : V} {n : Bool} (h : Dp K G v (.bool n)) : v = .bl n := by cases h; rfl
theorem dp_str {v : V} {n : Str} (h : Dp K G v (.str n)) : v = .str n := by cases h; rfl
theorem dp_non {v : V} (h : Dp K G v .none) : v = .non := by cases h; rfl
theorem dp_tup {v : V} {ds : List PyData} (h : Dp K G v (.tuple ds)) : ∃ a xs, v = .ref a ∧ SqT K G a xs ∧ DpAll K G xs ds := by
  cases h with
  | tup a b => exact ⟨_, _, rfl, a, b⟩
theorem dp_lst {v : V} {ds : List PyData} (h : Dp K G v (.list ds)) : ∃ a xs, v = .ref a ∧ SqL K G a xs ∧ DpAll K G xs ds := by
  cases h with
  | lst a b => exact ⟨_, _, rfl, a, b⟩
theorem dpAll_ints : ∀ {vs : List V} {ns : List Int}, DpAll K G vs (ns.map .int) → vs = ns.map V.int
  | _, [], h => by cases h; rfl
  | _, n :: ns, h => by
    cases h with
    | cons h1 h2 => rw [dp_int h1, dpAll_ints h2]; rfl
theorem ints_dpAll : ∀ (ns : List Int), DpAll K G (ns.map V.int) (ns.map .int)
  | [] => .nil
  | n :: ns => .cons (.int n) (ints_dpAll ns)
theorem dpAll_bls : ∀ {vs : List V} {ns : List Bool}, DpAll K G vs (ns.map .bool) → vs = ns.map V.bl
  | _, [], h => by cases h; rfl
  | _, n :: ns, h => by
    cases h with
    | cons h1 h2 => rw [dp_bl h1, dpAll_bls h2]; rfl
end
end SX
set_option Elab.async false
set_option linter.all false
set_option maxRecDepth 100000
namespace SX
open PySem PySem.Spec L2
abbrev Post := Hp → V → Mem → Prop
abbrev isP (P : Hp → V → Prop) (M : Mem) : Post := fun G v M' => P G v ∧ M' = M
abbrev isV (x : V) (M : Mem) : Post := isP (fun _ v => v = x) M
abbrev isD (K : PySem.W.Frag) (d : PyData) (M : Mem) : Post := isP (fun G v => Dp K G v d) M
def Ev (te : TE) (σ : St) (G : Hp) (M : Mem) (R : Post) : Prop := ∀ G1 H F, Ex G G1 → Me G1 (M ++ F) H → ∀ Q : VK, (∀ v G2 M2 H2, Ex G1 G2 → Me G2 (M2 ++ F) H2 → R G2 v M2 → Q v H2) → te σ H Q
def EvT (tt : TT) (σ : St) (G : Hp) (M : Mem) (b : Bool) (M' : Mem) : Prop := ∀ G1 H F, Ex G G1 → Me G1 (M ++ F) H → ∀ Q : Bool → Hp → Prop, (∀ G2 H2, Ex G1 G2 → Me G2 (M' ++ F) H2 → Q b H2) → tt σ H Q
def AllP (G : Hp) : List (Hp → V → Prop) → List V → Prop
  | [], [] => True
  | P :: Ps, v :: vs => P G v ∧ AllP G Ps vs
  | _, _ => False
def EvA (ta : TA) (σ : St) (G : Hp) (M : Mem) (Ps : List (Hp → V → Prop)) (M' : Mem) : Prop := ∀ G1 H F, Ex G G1 → Me G1 (M ++ F) H → ∀ Q : List V → Hp → Prop, (∀ vs G2 H2, Ex G1 G2 → Me G2 (M' ++ F) H2 → AllP G2 Ps vs → Q vs H2) → ta σ H Q
class Mono (P : Hp → V → Prop) : Prop where
  mono : ∀ G G' v, Ex G G' → P G v → P G' v
instance {x : V} : Mono (fun _ v => v = x) := ⟨fun _ _ _ _ h => h⟩
instance {K : PySem.W.Frag} {d : PyData} : Mono (fun G v => Dp K G v d) := ⟨fun _ _ _ e h => dm h e⟩
/-- what stands at an address, whoever owns it -/
def At (G : Hp) (M : Mem) (a : Addr) (o : HO) : Prop := ∀ G1 H F, Ex G G1 → Me G1 (M ++ F) H → H a = some o
theorem At.G {G : Hp} {M : Mem} {a : Addr} {o : HO} (h : G a = some o) : At G M a o := fun _ _ _ e m => m.ex _ _ (e _ _ h)
theorem At.M {G : Hp} {M : Mem} {a : Addr} {o : HO} {i : Nat} (h : M[i]? = some (a, o)) : At G M a o := fun _ _ _ _ m => m.getF h
theorem At.ex {G G' : Hp} {M : Mem} {a : Addr} {o : HO} (h : At G M a o) (e : Ex G G') : At G' M a o := fun G1 H F e1 m => h G1 H F (e.trans e1) m
def AtL (K : PySem.W.Frag) (G : Hp) (M : Mem) (a : Addr) (xs : List V) : Prop := ∀ G1 H F, Ex G G1 → Me G1 (M ++ F) H → SqL K H a xs
def AtT (K : PySem.W.Frag) (G : Hp) (M : Mem) (a : Addr) (xs : List V) : Prop := ∀ G1 H F, Ex G G1 → Me G1 (M ++ F) H → SqT K H a xs
theorem AtL.of {K : PySem.W.Frag} {G : Hp} {M : Mem} {a : Addr} {xs : List V} (h : At G M a (.lst xs)) : AtL K G M a xs := fun _ _ _ e m => SqL.of (h _ _ _ e m)
theorem AtL.M {K : PySem.W.Frag} {G : Hp} {M : Mem} {a : Addr} {xs : List V} {i : Nat} (h : M[i]? = some (a, .lst xs)) : AtL K G M a xs := .of (.M h)
theorem AtL.G {K : PySem.W.Frag} {G : Hp} {M : Mem} {a : Addr} {xs : List V} (h : SqL K G a xs) : AtL K G M a xs := fun _ _ _ e m => ex_l m.ex (ex_l e h)
theorem AtT.G {K : PySem.W.Frag} {G : Hp} {M : Mem} {a : Addr} {xs : List V} (h : SqT K G a xs) : AtT K G M a xs := fun _ _ _ e m => ex_t m.ex (ex_t e h)
theorem AtL.ex {K : PySem.W.Frag} {G G' : Hp} {M : Mem} {a : Addr} {xs : List V} (h : AtL K G M a xs) (e : Ex G G') : AtL K G' M a xs := fun G1 H F e1 m => h G1 H F (e.trans e1) m
section
variable {K : PySem.W.Frag} {σ : St} {G G' H : Hp} {M M1 M2 M3 F : Mem} {R : Post} {ta tb tc te : TE} {tt tu : TT} {x y z : V} {d e : PyData} {a b c : Bool} {i j : Int} {P P1 P2 : Hp → V → Prop} {Ps : List (Hp → V → Prop)}
theorem Ev.mono (h : Ev te σ G M R) (e : Ex G G') : Ev te σ G' M R := fun G1 H F e1 m Q q => h G1 H F (e.trans e1) m Q q
theorem EvT.mono (h : EvT tt σ G M a M1) (e : Ex G G') : EvT tt σ G' M a M1 := fun G1 H F e1 m Q q => h G1 H F (e.trans e1) m Q q
theorem Ev.imp {R' : Post} (h : Ev te σ G M R) (f : ∀ G1 v M1, Ex G G1 → R G1 v M1 → R' G1 v M1) : Ev te σ G M R' := fun G1 H F e m Q q => h G1 H F e m Q fun v G2 M2 H2 e2 m2 r => q v G2 M2 H2 e2 m2 (f _ _ _ (e.trans e2) r)
theorem Ev.impP (h : Ev te σ G M (isP P M1)) (f : ∀ G1 v, Ex G G1 → P G1 v → P1 G1 v) : Ev te σ G M (isP P1 M1) := h.imp fun G1 v M2 e r => ⟨f _ _ e r.1, r.2⟩
theorem ev_var {k : Nat} (h : σ[k]? = some (some x)) : Ev (tVar k) σ G M (isV x M) := fun _ _ _ _ m _ q => ⟨x, h, q x _ _ _ (Ex.refl _) m ⟨rfl, rfl⟩⟩
theorem ev_varP {k : Nat} [Mono P] (h : σ[k]? = some (some x)) (hp : P G x) : Ev (tVar k) σ G M (isP P M) := fun _ _ _ e m _ q => ⟨x, h, q x _ _ _ (Ex.refl _) m ⟨Mono.mono _ _ _ e hp, rfl⟩⟩
theorem ev_c : Ev (tC x) σ G M (isV x M) := fun _ _ _ _ m _ q => q x _ _ _ (Ex.refl _) m ⟨rfl, rfl⟩
theorem Ev.toD (h : Ev te σ G M (isV x M1)) (hd : ∀ G, Dp K G x d) : Ev te σ G M (isD K d M1) := h.impP fun G1 v _ e => by
  rw [e]
  exact hd G1
theorem ev_dI (h : Ev te σ G M (isD K (.int i) M1)) : Ev te σ G M (isV (.int i) M1) := h.impP fun _ _ _ e => dp_int e
theorem ev_iD (h : Ev te σ G M (isV (.int i) M1)) : Ev te σ G M (isD K (.int i) M1) := h.toD fun _ => .int i
theorem ev_bD (h : Ev te σ G M (isV (.bl a) M1)) : Ev te σ G M (isD K (.bool a) M1) := h.toD fun _ => .bl a
/-- one value, then another, then an operation on both -/
theorem ev_op {r : R2} [Mono P1] (h1 : Ev ta σ G M (isP P1 M1)) (h2 : Ev tb σ G M1 (isP P2 M2))
    (hr : ∀ G1 H F x y, Ex G G1 → Me G1 (M2 ++ F) H → P1 G1 x → P2 G1 y → ∀ Q : VK, (∀ v G2 M3 H2, Ex G1 G2 → Me G2 (M3 ++ F) H2 → R G2 v M3 → Q v H2) → r x y H Q) : Ev (tOp r ta tb) σ G M R := fun G1 H F e m Q q =>
  h1 G1 H F e m _ fun x G2 M2' H2 e2 m2 r1 => by
    obtain ⟨p1, rfl⟩ := r1
    refine h2 G2 H2 F (e.trans e2) m2 _ fun y G3 M3' H3 e3 m3 r2 => ?_
    obtain ⟨p2, rfl⟩ := r2
    exact hr G3 H3 F x y ((e.trans e2).trans e3) m3 (Mono.mono _ _ _ e3 p1) p2 Q fun v G4 M4 H4 e4 m4 r4 => q v G4 M4 H4 ((e2.trans e3).trans e4) m4 r4
/-- an operation of two values that leaves the heap -/
theorem ev_opV {r : R2} (h1 : Ev ta σ G M (isV x M1)) (h2 : Ev tb σ G M1 (isV y M2)) (hr : ∀ H (Q : VK), Q z H → r x y H Q) : Ev (tOp r ta tb) σ G M (isV z M2) :=
  ev_op h1 h2 fun G1 H F x' y' e m p1 p2 Q q => by
    subst p1 p2
    exact hr H Q (q z G1 _ H (Ex.refl _) m ⟨rfl, rfl⟩)
theorem ev_I0 {g : Int → Int → V} (h1 : Ev ta σ G M (isV (.int i) M1)) (h2 : Ev tb σ G M1 (isV (.int j) M2)) : Ev (tOp (rI0 g) ta tb) σ G M (isV (g i j) M2) := ev_opV h1 h2 fun H Q q => ⟨i, j, rfl, rfl, q⟩
theorem ev_I {C : Int → Int → Prop} {g : Int → Int → V} (h1 : Ev ta σ G M (isV (.int i) M1)) (h2 : Ev tb σ G M1 (isV (.int j) M2)) (hc : C i j) : Ev (tOp (rI C g) ta tb) σ G M (isV (g i j) M2) := ev_opV h1 h2 fun H Q q => ⟨i, j, rfl, rfl, hc, q⟩
theorem ev_eqI (h1 : Ev ta σ G M (isV (.int i) M1)) (h2 : Ev tb σ G M1 (isV (.int j) M2)) : Ev (tOp rEq ta tb) σ G M (isV (.bl (decide (i = j))) M2) :=
  ev_opV h1 h2 fun H Q q => ⟨rfl, by rw [show decide (V.int i = V.int j) = decide (i = j) by rw [decide_eq_decide]; exact ⟨fun h => by cases h; rfl, fun h => by rw [h]⟩]; exact q⟩
theorem ev_neI (h1 : Ev ta σ G M (isV (.int i) M1)) (h2 : Ev tb σ G M1 (isV (.int j) M2)) : Ev (tOp rNe ta tb) σ G M (isV (.bl (!decide (i = j))) M2) :=
  ev_opV h1 h2 fun H Q q => ⟨rfl, by rw [show decide (V.int i = V.int j) = decide (i = j) by rw [decide_eq_decide]; exact ⟨fun h => by cases h; rfl, fun h => by rw [h]⟩]; exact q⟩
theorem ev_eqD (h1 : Ev ta σ G M (isD K d M1)) (h2 : Ev tb σ G M1 (isD K e M2)) (s1 : SeqAt.shaped d = true) (s2 : SeqAt.shaped e = true) : Ev (tOp (rEqD K) ta tb) σ G M (isV (.bl (PyData.eqv d e)) M2) :=
  ev_op h1 h2 fun G1 H F x' y' ex m p1 p2 Q q => ⟨d, e, dm p1 m.ex, dm p2 m.ex, s1, s2, q _ G1 _ H (Ex.refl _) m ⟨rfl, rfl⟩⟩
theorem et_test (h : Ev te σ G M (isV (.bl a) M1)) : EvT (tTest te) σ G M a M1 := fun G1 H F e m Q q => h G1 H F e m _ fun v G2 M2 H2 e2 m2 r => by
  obtain ⟨rfl, rfl⟩ := r
  exact ⟨a, rfl, q G2 H2 e2 m2⟩
theorem et_B (h : Ev te σ G M (isV (.bl a) M1)) : EvT (tB te) σ G M a M1 := fun G1 H F e m Q q => h G1 H F e m _ fun v G2 M2 H2 e2 m2 r => by
  obtain ⟨rfl, rfl⟩ := r
  exact ⟨a, rfl, q G2 H2 e2 m2⟩
theorem et_not (h : EvT tt σ G M a M1) : EvT (tNot tt) σ G M (!a) M1 := fun G1 H F e m Q q => h G1 H F e m _ fun G2 H2 e2 m2 => q G2 H2 e2 m2
theorem et_or (h1 : EvT tt σ G M a M1) (h2 : a = false → EvT tu σ G M1 b M1) : EvT (tOr tt tu) σ G M (a || b) M1 := fun G1 H F e m Q q => h1 G1 H F e m _ fun G2 H2 e2 m2 => by
  cases a with
  | true =>
    show (if true = true then _ else _)
    rw [if_pos rfl]
    exact q G2 H2 e2 m2
  | false =>
    show (if false = true then _ else _)
    rw [if_neg Bool.false_ne_true]
    exact h2 rfl G2 H2 F (e.trans e2) m2 Q fun G3 H3 e3 m3 => q G3 H3 (e2.trans e3) m3
theorem ev_andV (h1 : Ev ta σ G M (isV (.bl a) M1)) (h2 : a = true → Ev tb σ G M1 (isV (.bl b) M1)) : Ev (tAndV ta tb) σ G M (isV (.bl (a && b)) M1) := fun G1 H F e m Q q => h1 G1 H F e m _ fun v G2 M2 H2 e2 m2 r => by
  obtain ⟨rfl, rfl⟩ := r
  refine ⟨a, rfl, ?_⟩
  cases a with
  | true =>
    rw [if_pos rfl]
    exact h2 rfl G2 H2 F (e.trans e2) m2 Q fun v G3 M3 H3 e3 m3 r3 => q v G3 M3 H3 (e2.trans e3) m3 r3
  | false =>
    rw [if_neg Bool.false_ne_true]
    exact q _ G2 _ H2 e2 m2 ⟨rfl, rfl⟩
theorem ev_notV (h1 : Ev ta σ G M (isV (.bl a) M1)) : Ev (tNotV ta) σ G M (isV (.bl (!a)) M1) := fun G1 H F e m Q q => h1 G1 H F e m _ fun v G2 M2 H2 e2 m2 r => by
  obtain ⟨rfl, rfl⟩ := r
  exact ⟨a, rfl, q _ G2 _ H2 e2 m2 ⟨rfl, rfl⟩⟩
/-- i <= x <= j -/
theorem ev_chainI {r r' : R2} {P P' : Int → Int → Bool} {k : Int} (h1 : Ev ta σ G M (isV (.int i) M1)) (h2 : Ev tb σ G M1 (isV (.int j) M2)) (h3 : Ev tc σ G M2 (isV (.int k) M2))
    (hr : ∀ H (Q : VK), Q (.bl (P i j)) H → r (.int i) (.int j) H Q) (hr' : ∀ H (Q : VK), Q (.bl (P' j k)) H → r' (.int j) (.int k) H Q) : Ev (tChain r r' ta tb tc) σ G M (isV (.bl (P i j && P' j k)) M2) := fun G1 H F e m Q q =>
  h1 G1 H F e m _ fun v G2 M2' H2 e2 m2 r2 => by
    obtain ⟨rfl, rfl⟩ := r2
    refine h2 G2 H2 F (e.trans e2) m2 _ fun v G3 M3' H3 e3 m3 r3 => ?_
    obtain ⟨rfl, rfl⟩ := r3
    refine hr _ _ ⟨_, rfl, ?_⟩
    generalize P i j = pij at q ⊢
    cases pij with
    | true =>
      show (if true = true then _ else _)
      rw [if_pos rfl]
      refine h3 G3 H3 F ((e.trans e2).trans e3) m3 _ fun v G4 M4' H4 e4 m4 r4 => ?_
      obtain ⟨rfl, rfl⟩ := r4
      exact hr' _ _ (q _ G4 _ H4 ((e2.trans e3).trans e4) m4 ⟨by rw [Bool.true_and], rfl⟩)
    | false =>
      show (if false = true then _ else _)
      rw [if_neg Bool.false_ne_true]
      exact q _ G3 _ H3 (e2.trans e3) m3 ⟨by rw [Bool.false_and], rfl⟩
theorem ea_nil : EvA tNil σ G M [] M := fun _ _ _ _ m _ q => q [] _ _ (Ex.refl _) m trivial
theorem ea_cons {tr : TA} [Mono P] (h1 : Ev ta σ G M (isP P M1)) (h2 : EvA tr σ G M1 Ps M2) : EvA (tCons ta tr) σ G M (P :: Ps) M2 := fun G1 H F e m Q q =>
  h1 G1 H F e m _ fun v G2 M2' H2 e2 m2 r => by
    obtain ⟨p, rfl⟩ := r
    exact h2 G2 H2 F (e.trans e2) m2 _ fun vs G3 H3 e3 m3 a => q (v :: vs) G3 H3 (e2.trans e3) m3 ⟨Mono.mono _ _ _ e3 p, a⟩
/-- data from arguments -/
theorem allD : ∀ {ds : List PyData} {vs : List V}, AllP G (ds.map fun d => fun G v => Dp K G v d) vs → DpAll K G vs ds
  | [], [], _ => .nil
  | [], _ :: _, h => h.elim
  | _ :: _, [], h => h.elim
  | _ :: _, _ :: _, h => .cons h.1 (allD h.2)
theorem ev_ixL {p : Addr} {xs : List V} (h1 : Ev ta σ G M (isV (.ref p) M1)) (h2 : Ev tb σ G M1 (isV (.int i) M2)) (hL : AtL K G M2 p xs) (hx : atI xs i = some x) : Ev (tOp (rIxL K) ta tb) σ G M (isV x M2) :=
  ev_op h1 h2 fun G1 H F x' y' e m p1 p2 Q q => by
    subst p1 p2
    exact ⟨p, xs, i, x, rfl, rfl, hL G1 H F e m, hx, q _ _ _ _ (Ex.refl _) m ⟨rfl, rfl⟩⟩
theorem ev_fld {p C dx : Addr} {fs : List (Str × V)} {f : Str} (h1 : Ev ta σ G M (isV (.ref p) M1)) (ha : At G M1 p (.ins C dx fs)) (hc : Cls K C) (hn : NoAttr K C f) (hl : fs.lookup f = some x) : Ev (tFld K ta f) σ G M (isV x M1) := fun G1 H F e m Q q =>
  h1 G1 H F e m _ fun v G2 M2' H2 e2 m2 r => by
    obtain ⟨rfl, rfl⟩ := r
    exact ⟨p, C, dx, fs, x, rfl, ha G2 H2 F (e.trans e2) m2, hc, hn, hl, q _ _ _ _ e2 m2 ⟨rfl, rfl⟩⟩
/-- a promise over the symbolic heap -/
def spec {α : Type} (pre : α → Hp → Mem → List V → Prop) (post : α → Mem → Post) : Sp := fun vs H Q _ => ∃ x G M F, Me G (M ++ F) H ∧ pre x G M vs ∧ ∀ v G' M' H', Ex G G' → Me G' (M' ++ F) H' → post x M G' v M' → Q v H'
theorem ev_call {α : Type} {pre : α → Hp → Mem → List V → Prop} {post : α → Mem → Post} {t : TA} {E : XK} (xx : α) (h : EvA t σ G M Ps M1) (hp : ∀ G1 vs, Ex G G1 → AllP G1 Ps vs → pre xx G1 M1 vs) : Ev (tCall (spec pre post) [] E t) σ G M (post xx M1) := fun G1 H F e m Q q =>
  h G1 H F e m _ fun vs G2 H2 e2 m2 a => ⟨xx, G2, M1, F, m2, by rw [List.append_nil]; exact hp G2 vs (e.trans e2) a, fun v G' M' H' e' m' r => q v G' M' H' (e2.trans e') m' r⟩
/-- a built-in by its values -/
theorem ev_CB {r : List V → Hp → VK → Prop} {t : TA} (h : EvA t σ G M Ps M1)
    (hr : ∀ G1 H F vs, Ex G G1 → Me G1 (M1 ++ F) H → AllP G1 Ps vs → ∀ Q : VK, (∀ v G2 M3 H2, Ex G1 G2 → Me G2 (M3 ++ F) H2 → R G2 v M3 → Q v H2) → r vs H Q) : Ev (tCB r t) σ G M R := fun G1 H F e m Q q =>
  h G1 H F e m _ fun vs G2 H2 e2 m2 a => hr G2 H2 F vs (e.trans e2) m2 a Q fun v G3 M3 H3 e3 m3 r3 => q v G3 M3 H3 (e2.trans e3) m3 r3
end
end SX
set_option Elab.async false
set_option linter.all false
set_option maxRecDepth 100000
namespace SX
open PySem PySem.Spec L2
/-- what is wanted: behind the statement, of a return, a break, a continue, an error -/
structure Po where
  nx : Hp → L2.St → Mem → Prop
  rt : Post
  bk : Hp → L2.St → Mem → Prop := fun _ _ _ => False
  ct : Hp → L2.St → Mem → Prop := fun _ _ _ => False
  ex : Value → Option Addr → Hp → Mem → Prop := fun _ _ _ _ => False
structure Has (E : XK) (D : Ends) (P : Po) (G1 : Hp) (F : Mem) : Prop where
  nx : ∀ σ2 G2 M2 H2, Ex G1 G2 → Me G2 (M2 ++ F) H2 → P.nx G2 σ2 M2 → D.nx σ2 H2
  rt : ∀ v G2 M2 H2, Ex G1 G2 → Me G2 (M2 ++ F) H2 → P.rt G2 v M2 → D.rt v H2
  bk : ∀ σ2 G2 M2 H2, Ex G1 G2 → Me G2 (M2 ++ F) H2 → P.bk G2 σ2 M2 → D.bk σ2 H2
  ct : ∀ σ2 G2 M2 H2, Ex G1 G2 → Me G2 (M2 ++ F) H2 → P.ct G2 σ2 M2 → D.ct σ2 H2
  ex : ∀ cls d G2 M2 H2, Ex G1 G2 → Me G2 (M2 ++ F) H2 → P.ex cls d G2 M2 → E cls d H2
def Sv (E : XK) (t : TS) (σ : L2.St) (G : Hp) (M : Mem) (P : Po) : Prop := ∀ G1 H F (D : Ends), Ex G G1 → Me G1 (M ++ F) H → Has E D P G1 F → t D σ H
theorem Has.up {E : XK} {D : Ends} {P : Po} {G1 G2 : Hp} {F : Mem} (h : Has E D P G1 F) (e : Ex G1 G2) : Has E D P G2 F :=
  ⟨fun a b c d e1 => h.nx a b c d (e.trans e1), fun a b c d e1 => h.rt a b c d (e.trans e1), fun a b c d e1 => h.bk a b c d (e.trans e1), fun a b c d e1 => h.ct a b c d (e.trans e1), fun a b c d f e1 => h.ex a b c d f (e.trans e1)⟩
section
variable {E : XK} {K : PySem.W.Frag} {σ : L2.St} {G G' H : Hp} {M M1 M2 M3 F : Mem} {R : Post} {P P' : Po} {te ta : TE} {tt : TT} {t u : TS} {x y z : V} {d : PyData} {a b : Bool} {i : Nat}
theorem Sv.mono (h : Sv E t σ G M P) (e : Ex G G') : Sv E t σ G' M P := fun G1 H F D e1 m hd => h G1 H F D (e.trans e1) m hd
theorem sv_set (h : Ev te σ G M R) (k : ∀ v G' M', Ex G G' → R G' v M' → P.nx G' (σ.set i (some v)) M') : Sv E (tAsg te (gName i)) σ G M P := fun G1 H F D e m hd =>
  h G1 H F e m _ fun v G2 M2 H2 e2 m2 r => hd.nx _ G2 M2 H2 e2 m2 (k v G2 M2 (e.trans e2) r)
theorem sv_drop (h : Ev te σ G M R) (k : ∀ v G' M', Ex G G' → R G' v M' → P.nx G' σ M') : Sv E (tDrop te) σ G M P := fun G1 H F D e m hd =>
  h G1 H F e m _ fun v G2 M2 H2 e2 m2 r => hd.nx _ G2 M2 H2 e2 m2 (k v G2 M2 (e.trans e2) r)
theorem sv_ret (h : Ev te σ G M R) (k : ∀ v G' M', Ex G G' → R G' v M' → P.rt G' v M') : Sv E (tRet te) σ G M P := fun G1 H F D e m hd =>
  h G1 H F e m _ fun v G2 M2 H2 e2 m2 r => hd.rt _ G2 M2 H2 e2 m2 (k v G2 M2 (e.trans e2) r)
theorem sv_next (k : ∀ G', Ex G G' → P.nx G' σ M) : Sv E tNext σ G M P := fun G1 H F D e m hd => hd.nx σ G1 M H (Ex.refl _) m (k G1 e)
theorem sv_seq (h : Sv E t σ G M { P with nx := N }) (k : ∀ G' σ' M', Ex G G' → N G' σ' M' → Sv E u σ' G' M' P) : Sv E (tSeq t u) σ G M P := fun G1 H F D e m hd =>
  h G1 H F _ e m ⟨fun σ2 G2 M2 H2 e2 m2 n => k G2 σ2 M2 (e.trans e2) n G2 H2 F D (Ex.refl _) m2 (hd.up e2), hd.rt, hd.bk, hd.ct, hd.ex⟩
/-- x = e, then the rest -/
theorem sv_let (h : Ev te σ G M R) (k : ∀ v G' M', Ex G G' → R G' v M' → Sv E u (σ.set i (some v)) G' M' P) : Sv E (tSeq (tAsg te (gName i)) u) σ G M P := fun G1 H F D e m hd =>
  h G1 H F e m _ fun v G2 M2 H2 e2 m2 r => k v G2 M2 (e.trans e2) r G2 H2 F D (Ex.refl _) m2 (hd.up e2)
theorem sv_if (h : EvT tt σ G M a M1) (k1 : ∀ G', Ex G G' → a = true → Sv E t σ G' M1 P) (k2 : ∀ G', Ex G G' → a = false → Sv E u σ G' M1 P) : Sv E (tIfS tt t u) σ G M P := fun G1 H F D e m hd =>
  h G1 H F e m _ fun G2 H2 e2 m2 => by
    cases a with
    | true =>
      show (if true = true then _ else _)
      rw [if_pos rfl]
      exact k1 G2 (e.trans e2) rfl G2 H2 F D (Ex.refl _) m2 (hd.up e2)
    | false =>
      show (if false = true then _ else _)
      rw [if_neg Bool.false_ne_true]
      exact k2 G2 (e.trans e2) rfl G2 H2 F D (Ex.refl _) m2 (hd.up e2)
/-- if .. : leaves or not; then the rest -/
theorem sv_ifs {t' : TS} (h : EvT tt σ G M a M1) (k1 : ∀ G', Ex G G' → a = true → Sv E t σ G' M1 { P with nx := fun G2 σ2 M2 => Sv E u σ2 G2 M2 P }) (k2 : ∀ G', Ex G G' → a = false → Sv E t' σ G' M1 { P with nx := fun G2 σ2 M2 => Sv E u σ2 G2 M2 P }) :
    Sv E (tSeq (tIfS tt t t') u) σ G M P := sv_seq (sv_if h k1 k2) fun _ _ _ _ n => n
def tRaise (E : XK) (cls : Value) : TS := fun _ _ H => E cls none H
theorem sv_raise {cls : Value} (k : ∀ G', Ex G G' → P.ex cls none G' M) : Sv E (tRaise E cls) σ G M P := fun G1 H F D e m hd => hd.ex cls none G1 M H (Ex.refl _) m (k G1 e)
theorem Sv.imp (h : Sv E t σ G M P) (nx : ∀ G2 σ2 M2, Ex G G2 → P.nx G2 σ2 M2 → P'.nx G2 σ2 M2) (rt : ∀ G2 v M2, Ex G G2 → P.rt G2 v M2 → P'.rt G2 v M2) (bk : ∀ G2 σ2 M2, Ex G G2 → P.bk G2 σ2 M2 → P'.bk G2 σ2 M2) (ct : ∀ G2 σ2 M2, Ex G G2 → P.ct G2 σ2 M2 → P'.ct G2 σ2 M2)
    (ex : ∀ c d G2 M2, Ex G G2 → P.ex c d G2 M2 → P'.ex c d G2 M2) : Sv E t σ G M P' := fun G1 H F D e m hd => h G1 H F D e m ⟨fun _ _ _ _ e2 m2 n => hd.nx _ _ _ _ e2 m2 (nx _ _ _ (e.trans e2) n), fun _ _ _ _ e2 m2 n => hd.rt _ _ _ _ e2 m2 (rt _ _ _ (e.trans e2) n),
      fun _ _ _ _ e2 m2 n => hd.bk _ _ _ _ e2 m2 (bk _ _ _ (e.trans e2) n), fun _ _ _ _ e2 m2 n => hd.ct _ _ _ _ e2 m2 (ct _ _ _ (e.trans e2) n), fun _ _ _ _ _ e2 m2 n => hd.ex _ _ _ _ _ e2 m2 (ex _ _ _ _ (e.trans e2) n)⟩
/-- l[i] = e of an owned list -/
theorem sv_setIx {tx ti : TE} {l : Addr} {xs : List V} {k : Int} {j n : Nat} (h : Ev te σ G M (isV x M1)) (h1 : Ev tx σ G M1 (isV (.ref l) M1)) (h2 : Ev ti σ G M1 (isV (.int k) M1)) (hl : M1[n]? = some (l, .lst xs)) (hj : ixN xs.length k = some j)
    (q : ∀ G', Ex G G' → P.nx G' σ (M1.set n (l, .lst (xs.set j x)))) : Sv E (tAsg te (gSub tx ti rSetL)) σ G M P := fun G1 H F D e m hd =>
  h G1 H F e m _ fun v G2 M2' H2 e2 m2 r2 => by
    obtain ⟨rfl, rfl⟩ := r2
    refine h1 G2 H2 F (e.trans e2) m2 _ fun v3 G3 M3' H3 e3 m3 r3 => ?_
    obtain ⟨rfl, rfl⟩ := r3
    refine h2 G3 H3 F ((e.trans e2).trans e3) m3 _ fun v4 G4 M4' H4 e4 m4 r4 => ?_
    obtain ⟨rfl, rfl⟩ := r4
    exact ⟨l, xs, k, j, rfl, rfl, m4.getF hl, hj, hd.nx _ _ _ _ ((e2.trans e3).trans e4) (m4.putF hl) (q G4 (((e.trans e2).trans e3).trans e4))⟩
/-- a new list that is owned -/
abbrev own (K : PySem.W.Frag) (ds : List PyData) (M : Mem) : Post := fun G v M' => ∃ p vs, v = .ref p ∧ M' = M ++ [(p, .lst vs)] ∧ DpAll K G vs ds
theorem Ev.frz {ds : List PyData} (h : Ev te σ G M (own K ds M1)) : Ev te σ G M (isD K (.list ds) M1) := fun G1 H F e m Q q =>
  h G1 H F e m Q fun v G2 M2 H2 e2 m2 r => by
    obtain ⟨p, vs, rfl, rfl, da⟩ := r
    obtain ⟨m3, e3⟩ := m2.freezeLast
    exact q _ _ M1 H2 (e2.trans e3) m3 ⟨.lst (SqL.of upd_same) (dma da e3), rfl⟩
theorem ev_lstO {t : TA} {ds : List PyData} (h : EvA t σ G M (ds.map fun d => fun G v => Dp K G v d) M1) (hl : ds.length ≤ 1000) : Ev (tLst t) σ G M (own K ds M1) := fun G1 H F e m Q q =>
  h G1 H F e m _ fun vs G2 H2 e2 m2 a => ⟨by rw [dpa_len (allD (K := K) a)]; exact Nat.le_of_lt (small1000 hl), fun p hp => q _ _ _ _ e2 (m2.newMid hp) ⟨p, vs, rfl, rfl, allD a⟩⟩
theorem mem_mid {A F : Mem} {p : Addr × HO} : (A ++ p :: F) = (A ++ [p]) ++ F := by rw [List.append_assoc]; rfl
section comp
variable {own' : List Nat} {k : Nat} {Mi : Nat → Mem} {fd : Nat → PyData} {ds : List PyData} {n : Nat}
/-- one turn of a comprehension -/
theorem lc_turn {b : Bool} {D : Addr} {H' : Hp} {G1 G2 : Hp} {vs : List V} {es : List PyData} (ht : EvT tt (σ.set k (some x)) G2 (Mi i) b (Mi i)) (he : b = true → Ev te (σ.set k (some x)) G2 (Mi i) (isD K (fd i) (Mi (i + 1)))) (hn : b = false → Mi (i + 1) = Mi i)
    (m' : Me G2 (Mi i ++ (D, .lst vs) :: F) H') (e' : Ex G1 G2) (da : DpAll K G2 vs es) (hz : vs.length < sizeLine) {Nx : Hp → Prop}
    (hN : ∀ G3 vs' H3, Ex G1 G3 → Me G3 (Mi (i + 1) ++ (D, .lst vs') :: F) H3 → DpAll K G3 vs' (es ++ if b then [fd i] else []) → Nx H3) :
    tt (σ.set k (some x)) H' fun b H3 => if b = true then te (σ.set k (some x)) H3 fun y H4 => ∃ acc, H4 D = some (.lst acc) ∧ acc.length < sizeLine ∧ Nx (upd H4 D (.lst (acc ++ [y]))) else Nx H3 := by
  refine ht G2 H' _ (Ex.refl _) m' _ fun G3 H3 e3 m3 => ?_
  cases b with
  | true =>
    rw [if_pos rfl]
    refine he rfl G3 H3 _ e3 m3 _ fun y G4 M4 H4 e4 m4 r4 => ?_
    obtain ⟨dy, rfl⟩ := r4
    have hm : ((Mi (i + 1)) ++ (D, HO.lst vs) :: F)[(Mi (i + 1)).length]? = some (D, .lst vs) := by
      rw [List.getElem?_append_right (Nat.le_refl _), Nat.sub_self]
      rfl
    refine ⟨vs, m4.get hm, hz, hN G4 (vs ++ [y]) _ ((e'.trans e3).trans e4) ?_ ?_⟩
    · have := m4.put (o' := .lst (vs ++ [y])) hm
      rw [List.set_append_right _ _ (Nat.le_refl _), Nat.sub_self] at this
      exact this
    · exact dpa_app (dma da (e3.trans e4)) (.cons dy .nil)
  | false =>
    rw [if_neg Bool.false_ne_true]
    refine hN G3 vs H3 (e'.trans e3) (by rw [hn rfl]; exact m3) ?_
    show DpAll K G3 vs (es ++ [])
    rw [List.append_nil]
    exact dma da e3
def kept (n : Nat) (bb : Nat → Bool) (fd : Nat → PyData) : List PyData := (List.range n).flatMap fun i => if bb i then [fd i] else []
theorem kept_succ (n : Nat) (bb : Nat → Bool) (fd : Nat → PyData) : kept (n + 1) bb fd = kept n bb fd ++ if bb n then [fd n] else [] := by
  unfold kept
  rw [List.range_succ, List.flatMap_append]
  simp
theorem kept_len (n : Nat) (bb : Nat → Bool) (fd : Nat → PyData) : (kept n bb fd).length ≤ n := by
  induction n with
  | zero => exact Nat.le_refl _
  | succ n ih =>
    rw [kept_succ, List.length_append]
    split <;> simp <;> omega
theorem kept_all (n : Nat) (fd : Nat → PyData) : kept n (fun _ => true) fd = (List.range n).map fd := by
  induction n with
  | zero => rfl
  | succ n ih => rw [kept_succ, ih, List.range_succ, List.map_append]; rfl
theorem sz_ok {n : Nat} (h : n ≤ 100000) : n < sizeLine := Nat.lt_of_le_of_lt h (by decide)
/-- .. over a tuple -/
theorem ev_lcT {tl : TE} (bb : Nat → Bool) (Mi : Nat → Mem) (fd : Nat → PyData) (hs : Ev tl σ G M (isD K (.tuple ds) (Mi 0))) (hn : ds.length ≤ 100000)
    (ht : ∀ i d x G', ds[i]? = some d → Ex G G' → Dp K G' x d → EvT tt ((wipe σ own').set k (some x)) G' (Mi i) (bb i) (Mi i))
    (he : ∀ i d x G', ds[i]? = some d → Ex G G' → Dp K G' x d → bb i = true → Ev te ((wipe σ own').set k (some x)) G' (Mi i) (isD K (fd i) (Mi (i + 1))))
    (hno : ∀ i, bb i = false → Mi (i + 1) = Mi i) (hw : ∀ x, wipe ((wipe σ own').set k (some x)) own' = wipe σ own') :
    Ev (tLc (iTup K tl) (gName k) tt te own') σ G M (own K (kept ds.length bb fd) (Mi ds.length)) := fun G1 H F e m Q q =>
  hs G1 H F e m _ fun v G2 M2 H2 e2 m2 r2 => by
    obtain ⟨dv, rfl⟩ := r2
    obtain ⟨aa, xs, rfl, hq, ha⟩ := dp_tup dv
    have hln := dpa_len ha
    refine ⟨aa, rfl, ⟨xs, ex_t m2.ex hq⟩, fun D hD => lc_tup (K := K) (a := aa) (xs := xs) (fun i H' => ∃ G' vs, Ex G2 G' ∧ Me G' (Mi i ++ (D, .lst vs) :: F) H' ∧ DpAll K G' vs (kept i bb fd)) ?_ ?_ ?_ ?_⟩
    · exact ⟨G2, [], Ex.refl _, by rw [mem_mid]; exact m2.newMid hD, .nil⟩
    · rintro i H' _ ⟨G', vs, e', m', _⟩
      exact ex_t m'.ex (ex_t e' hq)
    · rintro i x H' hx ⟨G', vs, e', m', da⟩
      obtain ⟨d, hd', dx⟩ := dpa_atV ha hx
      have hi : i < xs.length := (List.getElem?_eq_some_iff.mp hx).1
      refine ⟨hw x, lc_turn (K := K) (fd := fd) (Mi := Mi) (b := bb i) (ht i d x G' hd' ((e.trans e2).trans e') (dm dx e')) (he i d x G' hd' ((e.trans e2).trans e') (dm dx e')) (hno i) m' e' da ?_ ?_⟩
      · rw [dpa_len da]
        have := kept_len i bb fd
        exact sz_ok (by omega)
      · intro G3 vs' H3 e3 m3 d3
        exact ⟨G3, vs', e3, m3, by rw [kept_succ]; exact d3⟩
    · rintro H' ⟨G', vs, e', m', da⟩
      rw [hln] at m' da
      rw [mem_mid] at m'
      exact q _ G' _ H' (e2.trans e') m' ⟨D, vs, rfl, rfl, da⟩
/-- .. over range(n) -/
theorem ev_lcR {tn : TA} {nn : Int} (bb : Nat → Bool) (Mi : Nat → Mem) (fd : Nat → PyData) (hs : EvA tn σ G M [fun _ v => v = .int nn] (Mi 0)) (hn : nn ≤ 100000) (hn0 : -100000 ≤ nn)
    (ht : ∀ (i : Nat) G', i < nn.toNat → Ex G G' → EvT tt ((wipe σ own').set k (some (.int (0 + (i : Int))))) G' (Mi i) (bb i) (Mi i))
    (he : ∀ (i : Nat) G', i < nn.toNat → Ex G G' → bb i = true → Ev te ((wipe σ own').set k (some (.int (0 + (i : Int))))) G' (Mi i) (isD K (fd i) (Mi (i + 1))))
    (hno : ∀ i, bb i = false → Mi (i + 1) = Mi i) (hw : ∀ x, wipe ((wipe σ own').set k (some x)) own' = wipe σ own') :
    Ev (tLc (iRng1 tn) (gName k) tt te own') σ G M (own K (kept nn.toNat bb fd) (Mi nn.toNat)) := fun G1 H F e m Q q =>
  hs G1 H F e m _ fun vs0 G2 H2 e2 m2 r2 => by
    match vs0, r2 with
    | [v], r2 =>
    obtain ⟨rfl, _⟩ := r2
    refine ⟨nn, rfl, by omega, by omega, fun D hD => lc_range (lo := 0) (n := nn.toNat) (fun i H' => ∃ G' vs, Ex G2 G' ∧ Me G' (Mi i ++ (D, .lst vs) :: F) H' ∧ DpAll K G' vs (kept i bb fd)) ?_ ?_ ?_⟩
    · exact ⟨G2, [], Ex.refl _, by rw [mem_mid]; exact m2.newMid hD, .nil⟩
    · rintro i H' hi ⟨G', vs, e', m', da⟩
      refine ⟨hw _, lc_turn (K := K) (fd := fd) (Mi := Mi) (b := bb i) (ht i G' hi ((e.trans e2).trans e')) (he i G' hi ((e.trans e2).trans e')) (hno i) m' e' da ?_ ?_⟩
      · rw [dpa_len da]
        have := kept_len i bb fd
        exact sz_ok (by omega)
      · intro G3 vs' H3 e3 m3 d3
        exact ⟨G3, vs', e3, m3, by rw [kept_succ]; exact d3⟩
    · rintro H' ⟨G', vs, e', m', da⟩
      rw [mem_mid] at m'
      exact q _ G' _ H' (e2.trans e') m' ⟨D, vs, rfl, rfl, da⟩
end comp
end
end SX
set_option Elab.async false
set_option linter.all false
set_option maxRecDepth 100000
namespace SX
open PySem PySem.Spec L2
section
variable {P : Program} {w : World} {K : PySem.W.Frag} {mg : Str → Option Value} {base : Heap}
/-- a def that raises nothing -/
theorem fn_sv {α : Type} {pre : α → Hp → Mem → List V → Prop} {post : α → Mem → Post} {x qual : Str} {st : Stmt} {f : Addr} {fd : FuncData} {N ps : List Str} {k : Nat} (F : Fun K x qual st f fd) (S : FnScope N ps (defScope st))
    (len : ∀ x G M vs, pre x G M vs → vs.length = ps.length)
    (body : ∀ (cdv : Value) (A : Around) (outer : List Env) (s : Shared) (H : Hp) (E : XK), Room k (A.deeper (PyProof.Rows.envOfC qual (defScope st) s.heap.objs.size f cdv)) →
      ∃ t, PSs (cxOf CX0 P w K mg base N qual (defScope st) f cdv A outer s H E).nox (defBody st) t ∧ ∀ x G M vs, pre x G M vs → Sv E t (start N vs) G M { nx := fun G' _ M' => post x M G' .non M', rt := post x M }) :
    FnOk P w K mg base CX0 (k + 1) f fd ps (spec pre post) := by
  refine F.ok S (fun vs H Q E h => ?_) (fun cdv A outer s H vs Q E hr h => ?_)
  · obtain ⟨x, G, M, Fr, m, p, q⟩ := h
    exact len x G M vs p
  · obtain ⟨x, G, M, Fr, m, p, q⟩ := h
    obtain ⟨t, ht, hs⟩ := body cdv A outer s H E hr
    refine ⟨t, ht, hs x G M vs p G H Fr _ (Ex.refl _) m ⟨?_, ?_, ?_, ?_, ?_⟩⟩
    · exact fun σ2 G2 M2 H2 e2 m2 n => q _ G2 M2 H2 e2 m2 n
    · exact fun v G2 M2 H2 e2 m2 n => q v G2 M2 H2 e2 m2 n
    · exact fun σ2 G2 M2 H2 e2 m2 n => n.elim
    · exact fun σ2 G2 M2 H2 e2 m2 n => n.elim
    · exact fun c d G2 M2 H2 e2 m2 n => n.elim
/-- a promise with errors -/
def specX {α : Type} (pre : α → Hp → Mem → List V → Prop) (post : α → Mem → Post) (exc : α → Mem → Value → Option Addr → Hp → Mem → Prop) : Sp := fun vs H Q E => ∃ x G M F, Me G (M ++ F) H ∧ pre x G M vs ∧
  (∀ v G' M' H', Ex G G' → Me G' (M' ++ F) H' → post x M G' v M' → Q v H') ∧ (∀ c d G' M' H', Ex G G' → Me G' (M' ++ F) H' → exc x M c d G' M' → E c d H')
theorem fn_svX {α : Type} {pre : α → Hp → Mem → List V → Prop} {post : α → Mem → Post} {exc : α → Mem → Value → Option Addr → Hp → Mem → Prop} {x qual : Str} {st : Stmt} {f : Addr} {fd : FuncData} {N ps : List Str} {k : Nat} (F : Fun K x qual st f fd) (S : FnScope N ps (defScope st))
    (len : ∀ x G M vs, pre x G M vs → vs.length = ps.length)
    (body : ∀ (cdv : Value) (A : Around) (outer : List Env) (s : Shared) (H : Hp) (E : XK), Room k (A.deeper (PyProof.Rows.envOfC qual (defScope st) s.heap.objs.size f cdv)) →
      ∃ t, PSs (cxOf (L2.CX P w) P w K mg base N qual (defScope st) f cdv A outer s H E) (defBody st) t ∧ ∀ x G M vs, pre x G M vs → Sv E t (start N vs) G M { nx := fun G' _ M' => post x M G' .non M', rt := post x M, ex := exc x M }) :
    FnOk P w K mg base (L2.CX P w) (k + 1) f fd ps (specX pre post exc) := by
  refine F.okX S (fun vs H Q E h => ?_) (fun cdv A outer s H vs Q E hr h => ?_)
  · obtain ⟨x, G, M, Fr, m, p, q⟩ := h
    exact len x G M vs p
  · obtain ⟨x, G, M, Fr, m, p, q, qx⟩ := h
    obtain ⟨t, ht, hs⟩ := body cdv A outer s H E hr
    refine ⟨t, ht, hs x G M vs p G H Fr _ (Ex.refl _) m ⟨?_, ?_, ?_, ?_, ?_⟩⟩
    · exact fun σ2 G2 M2 H2 e2 m2 n => q _ G2 M2 H2 e2 m2 n
    · exact fun v G2 M2 H2 e2 m2 n => q v G2 M2 H2 e2 m2 n
    · exact fun σ2 G2 M2 H2 e2 m2 n => n.elim
    · exact fun σ2 G2 M2 H2 e2 m2 n => n.elim
    · exact fun c d G2 M2 H2 e2 m2 n => qx c d G2 M2 H2 e2 m2 n
/-- where the errors cannot come, it is a plain promise -/
theorem FnOk.calm {α : Type} {pre pre' : α → Hp → Mem → List V → Prop} {post : α → Mem → Post} {exc : α → Mem → Value → Option Addr → Hp → Mem → Prop} {CX : CXT} {k : Nat} {f : Addr} {fd : FuncData} {ps : List Str} (F : FnOk P w K mg base CX k f fd ps (specX pre post exc))
    (hp : ∀ x G M vs, pre' x G M vs → pre x G M vs) (hx : ∀ x G M vs c d G' M', pre' x G M vs → ¬ exc x M c d G' M') : FnOk P w K mg base CX k f fd ps (spec pre' post) :=
  F.imp fun vs H Q E h => by
    obtain ⟨x, G, M, Fr, m, p, q⟩ := h
    exact ⟨x, G, M, Fr, m, hp _ _ _ _ p, q, fun c d G' M' H' _ _ z => absurd z (hx x G M vs c d G' M' p)⟩
end
section
variable {X : Cx} {CX : CXT} {k : Nat} {C f : Addr} {fd : FuncData} {ps : List Str} {sp : Sp} {E : XK}
theorem run_in1 {pins : List (Addr × Obj)} {σ : L2.St} {H : Hp} {s : Shared} {Q : VK} {us : List Value} {vs : List V} (F : FnOk X.prog X.w X.K X.mg X.base CX k f fd ps sp) (hr : Room (k + 1) X.A) (hb : Binds X.K fd ps []) (hx : Passes CX X E)
    (I : Inv X pins σ H s) (r : Vals vs us) (h : sp vs H Q E) : wpAny (model X.prog X.w) X.A.in1 (call (.ref f) us) (EP X pins σ Q) X.xe s := by
  have hl : (us ++ []).length = ps.length := by rw [List.append_nil, ← r.length]; exact F.len _ _ _ _ h
  have hb' := hb s us I.kIn hl
  rw [List.append_nil] at hb'
  refine wpAny_call (codeAny_mono (F.run X.A.in1 X.stack s H ⟨us, []⟩ us vs Q E hr.in1 I.env0.in1 hb' r h) fun rr s' hq => ?_)
  cases rr with
  | error e => exact hx pins σ H s e s' I hq
  | ok fl =>
    cases fl with
    | ret u => exact I.after hq
    | next => exact False.elim hq
    | brk => exact False.elim hq
    | cont => exact False.elim hq
/-- len(o) by the own __len__ -/
def rLenO (C : Addr) (sp : Sp) (E : XK) : List V → Hp → VK → Prop := fun xs H Q => ∃ a dx fs, xs = [.ref a] ∧ H a = some (.ins C dx fs) ∧ sp [.ref a] H (fun v H2 => ∃ n : Int, v = .int n ∧ (0 ≤ n ∧ n < 2 ^ 63) ∧ Q (.int n) H2) E
theorem call_lenO (hm : Meth X.K C "__len__" f) (F : FnOk X.prog X.w X.K X.mg X.base CX k f fd ps sp) (hr : Room (k + 1) X.A) (hb : Binds X.K fd ps []) (hx : Passes CX X E) : CallR X (.builtin "len") (rLenO C sp E) := by
  intro pins s σ H xs us Q I r h
  obtain ⟨a, dx, fs, rfl, ea, q⟩ := h
  obtain ⟨u, rfl, ru⟩ := vals1 r
  cases (show u = Value.ref a from ru)
  obtain ⟨mA, O, _⟩ := ins_get I.hok ea
  obtain ⟨od, J, _⟩ := O.look
  obtain ⟨m, fr⟩ := I.fr
  refine PySem.W.len_K fr I.ok.mod.kin J hm.at_ hm.fn (wpAny_mono (run_in1 F hr hb hx I r q) (fun u s1 h1 => ?_) fun _ _ e => e)
  obtain ⟨v, H2, I2, rv, n, rfl, hn, q2⟩ := h1
  obtain ⟨t, rfl⟩ := rv
  exact ⟨hn, .int n, H2, I2.tok _, ⟨_, rfl⟩, q2⟩
/-- o[i] by the own __getitem__ -/
def rIxO (C : Addr) (sp : Sp) (E : XK) : R2 := fun x y H Q => ∃ a dx fs, x = .ref a ∧ H a = some (.ins C dx fs) ∧ sp [.ref a, y] H Q E
/-- a comparison by the own method; the other one is of the same class -/
def rCmpO (C : Addr) (sp : Sp) (E : XK) : R2 := fun x y H Q => ∃ a dx fs b dy gs, x = .ref a ∧ y = .ref b ∧ H a = some (.ins C dx fs) ∧ H b = some (.ins C dy gs) ∧ sp [.ref a, .ref b] H Q E
/-- sum of a tuple of ints -/
def rSumT (K : PySem.W.Frag) : List V → Hp → VK → Prop := fun vs H Q => ∃ (a : Addr) (ns : List Int), vs = [V.ref a] ∧ SqT K H a (ns.map V.int) ∧ Q (.int ns.sum) H
theorem cr_sumT (hc : X.calm = true) : CallR X (.builtin "sum") (rSumT X.K) := by
  intro pins s σ H vs us Q I r h
  obtain ⟨a, ns, rfl, hs, q⟩ := h
  obtain ⟨its, rv, ⟨o, ho, hcl, n, hd⟩, _⟩ := I.tuple hs
  rw [Vals.ref1 r]
  have hi := rv.ints
  obtain ⟨xs, e⟩ := hi.allInts.items
  have hn : numsOf (intItems xs).toList = ns := by rw [← e]; exact hi.numsOf
  rw [nums_intItems] at hn
  have ht : s.heap.IsTuple a (intItems xs) := by
    rw [← e]
    exact ⟨o, ho, hcl, n, hd⟩
  refine PySem.W.ktm_sumG (I.ok.hd hc) ht fun h' tk t' hk => ⟨.int _, H, I.kept hk, ⟨_, rfl⟩, ?_⟩
  rw [preSum_eq, List.take_of_length_le (by simp), hn]
  exact q
end
section
variable {K : PySem.W.Frag} {σ : L2.St} {G G' H : Hp} {M M1 M2 M3 F : Mem} {R : Post} {ta tb te : TE} {x y : V} {d e : PyData} {ds : List PyData} {a : Bool} {i : Int}
def tyName : PyData → String
  | .none => "NoneType"
  | .bool _ => "bool"
  | .int _ => "int"
  | .str _ => "str"
  | .list _ => "list"
  | .tuple _ => "tuple"
  | .dict _ => "dict"
theorem tyx_of {v : V} (h : Dp K H v d) : TyX K H v (.type (tyName d)) := by
  cases h with
  | non => exact .base .non
  | bl b => exact .base (.bl b)
  | int i => exact .base (.int i)
  | str s => exact .base (.str s)
  | lst hs _ =>
    rcases hs with (hs | ⟨o, hs⟩) | ⟨o, its, n, hk, hc, _⟩
    · exact .base (.lst hs)
    · exact .base (.frz hs)
    · exact .kList hk hc
  | tup hs _ =>
    rcases hs with (hs | ⟨o, hs⟩) | ⟨o, its, n, hk, hc, _⟩
    · exact .base (.tup hs)
    · exact .fTuple hs
    · exact .kTuple hk hc
def isTyS (n T : String) : Bool := n == T || (n == "bool" && T == "int")
def isTy (d : PyData) (T : String) : Bool := isTyS (tyName d) T
/-- isinstance(x, T) of data, T one of these -/
theorem ev_isi {T : String} (hT : T = "int" ∨ T = "bool" ∨ T = "tuple" ∨ T = "list" ∨ T = "str") (h : Ev ta σ G M (isD K d M1)) : Ev (tCB (rIsi K) (tCons ta (tCons (tC (.ty T)) tNil))) σ G M (isV (.bl (isTy d T)) M1) :=
  ev_CB (Ps := [fun G v => Dp K G v d, fun _ v => v = .ty T]) (ea_cons h (ea_cons ev_c ea_nil)) fun G1 H F vs e m p Q q => by
    match vs, p with
    | [v, c], ⟨p1, p2, _⟩ =>
      subst p2
      refine ⟨v, .ty T, .type (tyName d), .type T, isTy d T, rfl, .ty T, tyx_of (dm p1 m.ex), kit_ty ?_, q _ _ _ _ (Ex.refl _) m ⟨rfl, rfl⟩⟩
      unfold isTy
      cases p1 <;> dsimp only [tyName] <;> rcases hT with rfl | rfl | rfl | rfl | rfl <;> decide +kernel
/-- all([..]), any([..]) over bools -/
theorem ev_all {bs : List Bool} (h : Ev ta σ G M (isD K (.list (bs.map .bool)) M1)) : Ev (tCB (rAll K) (tCons ta tNil)) σ G M (isV (.bl (bs.all id)) M1) :=
  ev_CB (Ps := [fun G v => Dp K G v (.list (bs.map .bool))]) (ea_cons h ea_nil) fun G1 H F vs e m p Q q => by
    match vs, p with
    | [v], ⟨p1, _⟩ =>
      obtain ⟨a, xs, rfl, hs, ha⟩ := dp_lst p1
      rw [dpAll_bls ha] at hs
      exact ⟨a, bs, rfl, ex_l m.ex hs, q _ _ _ _ (Ex.refl _) m ⟨rfl, rfl⟩⟩
def rLenS (K : PySem.W.Frag) : List V → Hp → VK → Prop := fun xs H Q => ∃ p ys, xs = [.ref p] ∧ (SqL K H p ys ∨ SqT K H p ys) ∧ Q (.int ys.length) H
def rListS (K : PySem.W.Frag) : List V → Hp → VK → Prop := fun xs H Q => ∃ p ys, xs = [.ref p] ∧ (SqL K H p ys ∨ SqT K H p ys) ∧ ∀ l, H l = none → Q (.ref l) (upd H l (.lst ys))
def rTupS (K : PySem.W.Frag) : List V → Hp → VK → Prop := fun xs H Q => ∃ p ys, xs = [.ref p] ∧ ((SqL K H p ys ∧ ∀ l, H l = none → Q (.ref l) (upd H l (.tup ys))) ∨ (SqT K H p ys ∧ Q (.ref p) H))
def rInt1 : List V → Hp → VK → Prop := fun xs H Q => (∃ i, xs = [.int i] ∧ Q (.int i) H) ∨ ∃ k, xs = [.bl k] ∧ Q (.int (if k then 1 else 0)) H
theorem c_len {X : Cx} : CallR X (.builtin "len") (rLenS X.K) := call_len_seq
theorem c_list {X : Cx} : CallR X (.type "list") (rListS X.K) := call_list_of
theorem c_tup {X : Cx} : CallR X (.type "tuple") (rTupS X.K) := call_tuple_of
theorem c_int {X : Cx} : CallR X (.type "int") rInt1 := call_int1
theorem ev_lenT (h : Ev ta σ G M (isD K (.tuple ds) M1)) : Ev (tCB (rLenS K) (tCons ta tNil)) σ G M (isV (.int (ds.length : Int)) M1) :=
  ev_CB (Ps := [fun G v => Dp K G v (.tuple ds)]) (ea_cons h ea_nil) fun G1 H F vs e m p Q q => by
    match vs, p with
    | [v], ⟨p1, _⟩ =>
      obtain ⟨a, xs, rfl, hs, ha⟩ := dp_tup p1
      exact ⟨a, xs, rfl, .inr (ex_t m.ex hs), q _ _ _ _ (Ex.refl _) m ⟨by rw [dpa_len ha], rfl⟩⟩
/-- len of a list at an address -/
theorem ev_lenA {p : Addr} {xs : List V} (h : Ev ta σ G M (isV (.ref p) M1)) (hl : AtL K G M1 p xs) : Ev (tCB (rLenS K) (tCons ta tNil)) σ G M (isV (.int (xs.length : Int)) M1) :=
  ev_CB (Ps := [fun _ v => v = .ref p]) (ea_cons h ea_nil) fun G1 H F vs e m p' Q q => by
    match vs, p' with
    | [v], ⟨p1, _⟩ =>
      subst p1
      exact ⟨p, xs, rfl, .inl (hl G1 H F e m), q _ _ _ _ (Ex.refl _) m ⟨rfl, rfl⟩⟩
/-- list(..): a new list, owned -/
theorem ev_listA {p : Addr} {xs : List V} (h : Ev ta σ G M (isV (.ref p) M1)) (hl : AtL K G M1 p xs) (hd : DpAll K G xs ds) : Ev (tCB (rListS K) (tCons ta tNil)) σ G M (own K ds M1) :=
  ev_CB (Ps := [fun _ v => v = .ref p]) (ea_cons h ea_nil) fun G1 H F vs e m p' Q q => by
    match vs, p' with
    | [v], ⟨p1, _⟩ =>
      subst p1
      exact ⟨p, xs, rfl, .inl (hl G1 H F e m), fun l hl => q _ G1 _ _ (Ex.refl _) (m.newMid hl) ⟨l, xs, rfl, rfl, dma hd e⟩⟩
theorem ev_tupD (h : Ev ta σ G M (isD K (.list ds) M1)) : Ev (tCB (rTupS K) (tCons ta tNil)) σ G M (isD K (.tuple ds) M1) :=
  ev_CB (Ps := [fun G v => Dp K G v (.list ds)]) (ea_cons h ea_nil) fun G1 H F vs e m p Q q => by
    match vs, p with
    | [v], ⟨p1, _⟩ =>
      obtain ⟨a, xs, rfl, hs, ha⟩ := dp_lst p1
      refine ⟨a, xs, rfl, .inl ⟨ex_l m.ex hs, fun l hl => ?_⟩⟩
      have g1 := m.free hl
      exact q _ _ _ _ (Ex.new g1) (m.newF hl) ⟨.tup (SqT.of upd_same) (dma ha (Ex.new g1)), rfl⟩
theorem ev_tupT (h : Ev ta σ G M (isD K (.tuple ds) M1)) : Ev (tCB (rTupS K) (tCons ta tNil)) σ G M (isD K (.tuple ds) M1) :=
  ev_CB (Ps := [fun G v => Dp K G v (.tuple ds)]) (ea_cons h ea_nil) fun G1 H F vs e m p Q q => by
    match vs, p with
    | [v], ⟨p1, _⟩ =>
      obtain ⟨a, xs, rfl, hs, ha⟩ := dp_tup p1
      exact ⟨a, xs, rfl, .inr ⟨ex_t m.ex hs, q _ _ _ _ (Ex.refl _) m ⟨p1, rfl⟩⟩⟩
theorem ev_int (h : Ev ta σ G M (isV (.int i) M1)) : Ev (tCB rInt1 (tCons ta tNil)) σ G M (isV (.int i) M1) :=
  ev_CB (Ps := [fun _ v => v = .int i]) (ea_cons h ea_nil) fun G1 H F vs e m p' Q q => by
    match vs, p' with
    | [v], ⟨p1, _⟩ =>
      subst p1
      exact .inl ⟨i, rfl, q _ _ _ _ (Ex.refl _) m ⟨rfl, rfl⟩⟩
/-- slices -/
theorem dpa_drop : ∀ {vs : List V} {ds : List PyData} (n : Nat), DpAll K G vs ds → DpAll K G (vs.drop n) (ds.drop n)
  | _, _, 0, h => h
  | _, [], n + 1, h => by cases h; exact .nil
  | _, d :: ds, n + 1, h => by
    cases h with
    | cons _ h2 => exact dpa_drop n h2
theorem dpa_take : ∀ {vs : List V} {ds : List PyData} (n : Nat), DpAll K G vs ds → DpAll K G (vs.take n) (ds.take n)
  | _, _, 0, h => .nil
  | _, [], n + 1, h => by cases h; exact .nil
  | _, d :: ds, n + 1, h => by
    cases h with
    | cons h1 h2 => exact .cons h1 (dpa_take n h2)
theorem dpa_rev : ∀ {vs : List V} {ds : List PyData}, DpAll K G vs ds → DpAll K G vs.reverse ds.reverse
  | _, [], h => by cases h; exact .nil
  | _, d :: ds, h => by
    cases h with
    | cons h1 h2 =>
      rw [List.reverse_cons, List.reverse_cons]
      exact dpa_app (dpa_rev h2) (.cons h1 .nil)
def cutD (ds : List PyData) (lo hi : Option Int) : List PyData := (ds.drop (HT.sIx ds.length 0 lo)).take (HT.sIx ds.length ds.length hi - HT.sIx ds.length 0 lo)
theorem dpa_cut {vs : List V} (h : DpAll K G vs ds) (lo hi : Option Int) : DpAll K G (cutV vs lo hi) (cutD ds lo hi) := by
  unfold cutV cutD
  rw [dpa_len h]
  exact dpa_take _ (dpa_drop _ h)
def EvO (to : TO) (σ : L2.St) (G : Hp) (M : Mem) (o : Option Int) (M' : Mem) : Prop := ∀ G1 H F, Ex G G1 → Me G1 (M ++ F) H → ∀ Q : Option Int → Hp → Prop, (∀ G2 H2, Ex G1 G2 → Me G2 (M' ++ F) H2 → Q o H2) → to σ H Q
theorem eo_none : EvO tNoPart σ G M none M := fun G1 H F e m Q q => q G1 H (Ex.refl _) m
theorem eo_some (h : Ev ta σ G M (isV (.int i) M1)) : EvO (tPart ta) σ G M (some i) M1 := fun G1 H F e m Q q => h G1 H F e m _ fun v G2 M2 H2 e2 m2 r => by
  obtain ⟨rfl, rfl⟩ := r
  exact ⟨i, rfl, q _ _ e2 m2⟩
theorem ev_slL {tl th : TO} {lo hi : Option Int} (h : Ev te σ G M (isD K (.list ds) M1)) (hl : EvO tl σ G M1 lo M1) (hh : EvO th σ G M1 hi M1) : Ev (tSl (rSlL K) te tl th) σ G M (own K (cutD ds lo hi) M1) := fun G1 H F e m Q q =>
  h G1 H F e m _ fun v G2 M2 H2 e2 m2 r => by
    obtain ⟨dv, rfl⟩ := r
    refine hl G2 H2 F (e.trans e2) m2 _ fun G3 H3 e3 m3 => hh G3 H3 F ((e.trans e2).trans e3) m3 _ fun G4 H4 e4 m4 => ?_
    obtain ⟨a, xs, rfl, hs, ha⟩ := dp_lst (dm dv (e3.trans e4))
    exact ⟨a, xs, rfl, ex_l m4.ex hs, fun p hp => q _ G4 _ _ ((e2.trans e3).trans e4) (m4.newMid hp) ⟨p, _, rfl, rfl, dpa_cut ha lo hi⟩⟩
end
section
variable {X : Cx} {K : PySem.W.Frag}
theorem k_len (hK : X.K = K) : CallR X (.builtin "len") (rLenS K) := hK ▸ c_len
theorem k_list (hK : X.K = K) : CallR X (.type "list") (rListS K) := hK ▸ c_list
theorem k_tup (hK : X.K = K) : CallR X (.type "tuple") (rTupS K) := hK ▸ c_tup
theorem k_isi (hK : X.K = K) : CallR X (.builtin "isinstance") (rIsi K) := hK ▸ call_isi
theorem k_isiT (hK : X.K = K) : CallR X (.builtin "isinstance") (rIsiT K) := hK ▸ call_isiT
theorem k_all (hK : X.K = K) (hc : X.calm = true) : CallR X (.builtin "all") (rAll K) := hK ▸ cr_all hc
theorem k_sum (hK : X.K = K) (hc : X.calm = true) : CallR X (.builtin "sum") (rSum K) := hK ▸ cr_sum hc
theorem k_sumT (hK : X.K = K) (hc : X.calm = true) : CallR X (.builtin "sum") (rSumT K) := hK ▸ cr_sumT hc
theorem k_eqD (hK : X.K = K) (hu : X.A.units + 64 < cLine) : OpR X (compareOp .Eq) (rEqD K) := hK ▸ op_eqD hu
theorem k_neD (hK : X.K = K) (hu : X.A.units + 64 < cLine) : OpR X (compareOp .NotEq) (rNeD K) := hK ▸ op_neD hu
theorem k_ixL (hK : X.K = K) : IxR X (rIxL K) := hK ▸ ix_list
theorem k_ixT (hK : X.K = K) : IxR X (rIxT K) := hK ▸ ix_tup
theorem k_slL (hK : X.K = K) : SlR X (rSlL K) := hK ▸ sl_list
theorem k_fld {e : Expr} {ta : TE} {f : Str} {pos : Pos} (hK : X.K = K) (he : PE X e ta) (hb : attributeBase e f X.env (eval e X.env) = eval e X.env) : PE X (.Attribute e f pos) (tFld K ta f) := hK ▸ pe_fld he hb
end
end SX
set_option Elab.async false
set_option linter.all false
set_option maxRecDepth 100000
namespace SX
open PySem PySem.Spec L2
/-- data as it stands in the heap itself -/
def Da (K : PySem.W.Frag) (G : Hp) (M : Mem) (v : V) (d : PyData) : Prop := ∀ G1 H F, Ex G G1 → Me G1 (M ++ F) H → Dp K H v d
section
variable {E : XK} {K : PySem.W.Frag} {σ : L2.St} {G G' H : Hp} {M M1 M2 M3 F : Mem} {R : Post} {P P' : Po} {te ta tb : TE} {tt : TT} {t u : TS} {x y z v : V} {d e : PyData} {ds : List PyData} {a b : Bool} {i : Nat}
theorem Da.of (h : Dp K G v d) : Da K G M v d := fun _ _ _ e m => dm h (e.trans m.ex)
theorem Da.ex (h : Da K G M v d) (e : Ex G G') : Da K G' M v d := fun G1 H F e1 m => h G1 H F (e.trans e1) m
theorem Da.lst {p : Addr} {xs : List V} (h : AtL K G M p xs) (hd : DpAll K G xs ds) : Da K G M (.ref p) (.list ds) := fun G1 H F e m => .lst (h G1 H F e m) (dma hd (e.trans m.ex))
theorem ev_isiA {T : String} (hT : T = "int" ∨ T = "bool" ∨ T = "tuple" ∨ T = "list" ∨ T = "str") (h : Ev ta σ G M (isV x M1)) (hd : Da K G M1 x d) : Ev (tCB (rIsi K) (tCons ta (tCons (tC (.ty T)) tNil))) σ G M (isV (.bl (isTy d T)) M1) :=
  ev_CB (Ps := [fun _ v => v = x, fun _ v => v = .ty T]) (ea_cons h (ea_cons ev_c ea_nil)) fun G1 H F vs e m p Q q => by
    match vs, p with
    | [v, c], ⟨p1, p2, _⟩ =>
      subst p1 p2
      have p1 := hd G1 H F e m
      refine ⟨v, .ty T, .type (tyName d), .type T, isTy d T, rfl, .ty T, tyx_of p1, kit_ty ?_, q _ _ _ _ (Ex.refl _) m ⟨rfl, rfl⟩⟩
      unfold isTy
      cases p1 <;> dsimp only [tyName] <;> rcases hT with rfl | rfl | rfl | rfl | rfl <;> decide +kernel
theorem atI_int {α : Type} {xs : List α} {i : Int} {x : α} (h0 : 0 ≤ i) (h : xs[i.toNat]? = some x) : atI xs i = some x := by
  have := L2.atI_nat (j := i.toNat) h
  rwa [Int.toNat_of_nonneg h0] at this
/-- a new instance -/
theorem ev_make {α : Type} {pre : α → Hp → Mem → List V → Prop} {post : α → Mem → Post} {tA : TA} {E : XK} {C : Addr} {Ps : List (Hp → V → Prop)} (xx : Addr → Addr → α) (h : EvA tA σ G M Ps M1)
    (hp : ∀ G1 p dx vs, Ex G G1 → AllP G1 Ps vs → pre (xx p dx) G1 (M1 ++ [(p, .ins C dx [])]) (.ref p :: vs))
    (hq : ∀ G1 p dx v M2, Ex G G1 → post (xx p dx) (M1 ++ [(p, .ins C dx [])]) G1 v M2 → v = .non ∧ R G1 (.ref p) M2) : Ev (tMake C (spec pre post) [] E tA) σ G M R := fun G1 H F e m Q q =>
  h G1 H F e m _ fun vs G2 H2 e2 m2 a p dx hpn hdn hne => by
    have hp2 : upd H2 dx (.own p) p = none := by rw [upd_ne hne.symm]; exact hpn
    refine ⟨xx p dx, G2, _, F, (m2.new hdn).newMid hp2, by rw [List.append_nil]; exact hp G2 p dx vs (e.trans e2) a, fun v G3 M3 H3 e3 m3 r => ?_⟩
    obtain ⟨rfl, r3⟩ := hq G3 p dx v M3 ((e.trans e2).trans e3) r
    exact ⟨rfl, q _ G3 M3 H3 (e2.trans e3) m3 r3⟩
/-- o.f = e -/
theorem sv_fld {tv : TE} {f : Str} {p C dx : Addr} {fs : List (Str × V)} {n : Nat} (h : Ev tv σ G M R) (h1 : ∀ G1 v M1, Ex G G1 → R G1 v M1 → Ev ta σ G1 M1 (isV (.ref p) M1) ∧ M1[n]? = some (p, .ins C dx fs)) (hc : Cls K C) (hn : NoAttr K C f) (hl : fs.length < 1000)
    (q : ∀ G1 G2 v M1, Ex G G1 → Ex G1 G2 → R G1 v M1 → P.nx G2 σ (M1.set n (p, .ins C dx (putF f v fs)))) : Sv E (sFld K ta tv f) σ G M P := fun G1 H F D e m hd =>
  h G1 H F e m _ fun v G2 M2 H2 e2 m2 r2 => by
    obtain ⟨ha, hM⟩ := h1 G2 v M2 (e.trans e2) r2
    refine ha G2 H2 F (Ex.refl _) m2 _ fun w G3 M3 H3 e3 m3 r3 => ?_
    obtain ⟨rfl, rfl⟩ := r3
    exact ⟨p, C, dx, fs, rfl, m3.getF hM, hc, hn, hl, hd.nx _ _ _ _ (e2.trans e3) (m3.putF hM) (q G2 G3 v _ (e.trans e2) e3 r2)⟩
end
structure Deck where
  a : Int
  b : Int
  c : Int
def Deck.ho (D : Deck) : HO := .lst [.int D.a, .int D.b, .int D.c]
def stir (c b : Int) : Int := ((((c * 48271 + b * 69621) % 2147483647) * ((c * 48271 + b * 69621) % 2147483647) + b) % 2147483629 * 40692) % 2147483399
/-- what is drawn, the deck then -/
def dv (D : Deck) (n : Int) : Int := if D.a > 0 then D.a % n else (stir D.c (D.b + 1) / 8) % n
def dn (D : Deck) (n : Int) : Deck := if D.a > 0 then ⟨D.a / n, D.b, D.c⟩ else ⟨D.a, D.b + 1, D.c⟩
theorem dv_lo {D : Deck} {n : Int} (h : 0 < n) : 0 ≤ dv D n := by
  unfold dv
  split <;> exact Int.emod_nonneg _ (by omega)
theorem dv_hi {D : Deck} {n : Int} (h : 0 < n) : dv D n < n := by
  unfold dv
  split <;> exact Int.emod_lt_of_pos _ h
abbrev drawPre : (Addr × Nat × Deck × Int) → Hp → Mem → List V → Prop := fun x G M vs => vs = [.ref x.1, .int x.2.2.2] ∧ 0 < x.2.2.2 ∧ x.2.2.2 < 2 ^ 200 ∧ M[x.2.1]? = some (x.1, x.2.2.1.ho)
abbrev drawPost : (Addr × Nat × Deck × Int) → Mem → Post := fun x M => isV (.int (dv x.2.2.1 x.2.2.2)) (M.set x.2.1 (x.1, (dn x.2.2.1 x.2.2.2).ho))
theorem ev_draw {σ : L2.St} {G : Hp} {M : Mem} {tA : TA} {E : XK} {dk : Addr} {D : Deck} {n : Int} {M1 : Mem} (i : Nat) (h : EvA tA σ G M [fun _ v => v = .ref dk, fun _ v => v = .int n] M1) (hi : M1[i]? = some (dk, D.ho)) (h0 : 0 < n) (h1 : n < 2 ^ 200) :
    Ev (tCall (spec drawPre drawPost) [] E tA) σ G M (isV (.int (dv D n)) (M1.set i (dk, (dn D n).ho))) :=
  ev_call (dk, i, D, n) h fun G1 vs e a => by
    match vs, a with
    | [v, w], ⟨p1, p2, _⟩ =>
      subst p1 p2
      exact ⟨rfl, h0, h1, hi⟩
end SX
set_option Elab.async false
set_option linter.all false
set_option maxRecDepth 100000
namespace SX
open PySem PySem.Spec L2
def isInt : PyData → Bool
  | .int _ => true
  | _ => false
def intOf : PyData → Int
  | .int n => n
  | _ => 0
def isWhole (d : PyData) (lo hi : Int) : Bool := isInt d && (decide (lo ≤ intOf d) && decide (intOf d ≤ hi))
theorem isInt_of {d : PyData} (h : isTy d "int" = true) (h2 : isTy d "bool" = false) : d = .int (intOf d) := by
  cases d with
  | int n => rfl
  | bool b =>
    have : isTy (.bool b) "bool" = true := by show isTyS "bool" "bool" = true; decide +kernel
    rw [this] at h2
    cases h2
  | none => exact absurd h (by show ¬ (isTyS "NoneType" "int" = true); decide +kernel)
  | str s => exact absurd h (by show ¬ (isTyS "str" "int" = true); decide +kernel)
  | list s => exact absurd h (by show ¬ (isTyS "list" "int" = true); decide +kernel)
  | tuple s => exact absurd h (by show ¬ (isTyS "tuple" "int" = true); decide +kernel)
  | dict s => exact absurd h (by show ¬ (isTyS "dict" "int" = true); decide +kernel)
theorem isTy_int (n : Int) : isTy (.int n) "int" = true := by show isTyS "int" "int" = true; decide +kernel
theorem isTy_int_b (n : Int) : isTy (.int n) "bool" = false := by show isTyS "int" "bool" = false; decide +kernel
theorem isTy_tup (n : List PyData) : isTy (.tuple n) "tuple" = true := by show isTyS "tuple" "tuple" = true; decide +kernel
theorem isTy_lst (n : List PyData) : isTy (.list n) "list" = true := by show isTyS "list" "list" = true; decide +kernel
theorem isInt_ty (d : PyData) : (isTy d "int" && !isTy d "bool") = isInt d := by
  cases h : (isTy d "int" && !isTy d "bool") with
  | true =>
    simp only [Bool.and_eq_true, Bool.not_eq_true'] at h
    rw [isInt_of h.1 h.2]
    rfl
  | false =>
    cases d with
    | int n =>
      rw [isTy_int, isTy_int_b] at h
      cases h
    | _ => rfl
theorem tup_of {d : PyData} (h : isTy d "tuple" = true) : ∃ ds, d = .tuple ds := by
  cases d with
  | tuple ds => exact ⟨ds, rfl⟩
  | int n => exact absurd h (by show ¬ (isTyS "int" "tuple" = true); decide +kernel)
  | bool b => exact absurd h (by show ¬ (isTyS "bool" "tuple" = true); decide +kernel)
  | none => exact absurd h (by show ¬ (isTyS "NoneType" "tuple" = true); decide +kernel)
  | str s => exact absurd h (by show ¬ (isTyS "str" "tuple" = true); decide +kernel)
  | list s => exact absurd h (by show ¬ (isTyS "list" "tuple" = true); decide +kernel)
  | dict s => exact absurd h (by show ¬ (isTyS "dict" "tuple" = true); decide +kernel)
theorem lst_of {d : PyData} (h : isTy d "list" = true) : ∃ ds, d = .list ds := by
  cases d with
  | list ds => exact ⟨ds, rfl⟩
  | int n => exact absurd h (by show ¬ (isTyS "int" "list" = true); decide +kernel)
  | bool b => exact absurd h (by show ¬ (isTyS "bool" "list" = true); decide +kernel)
  | none => exact absurd h (by show ¬ (isTyS "NoneType" "list" = true); decide +kernel)
  | str s => exact absurd h (by show ¬ (isTyS "str" "list" = true); decide +kernel)
  | tuple s => exact absurd h (by show ¬ (isTyS "tuple" "list" = true); decide +kernel)
  | dict s => exact absurd h (by show ¬ (isTyS "dict" "list" = true); decide +kernel)
abbrev wholePre (K : PySem.W.Frag) : (PyData × Int × Int) → Hp → Mem → List V → Prop := fun x G M vs => ∃ v, vs = [v, .int x.2.1, .int x.2.2] ∧ Dp K G v x.1
abbrev wholePost : (PyData × Int × Int) → Mem → Post := fun x M => isV (.bl (isWhole x.1 x.2.1 x.2.2)) M
/-- one argument, any data; a truth value back -/
abbrev d1Pre (K : PySem.W.Frag) : PyData → Hp → Mem → List V → Prop := fun d G M vs => ∃ v, vs = [v] ∧ Dp K G v d
abbrev b1Post (f : PyData → Bool) : PyData → Mem → Post := fun d M => isV (.bl (f d)) M
theorem ev_whole {K : PySem.W.Frag} {σ : L2.St} {G : Hp} {M M1 : Mem} {tA : TA} {E : XK} {d : PyData} {lo hi : Int} (h : EvA tA σ G M [fun G v => Dp K G v d, fun _ v => v = .int lo, fun _ v => v = .int hi] M1) :
    Ev (tCall (spec (wholePre K) wholePost) [] E tA) σ G M (isV (.bl (isWhole d lo hi)) M1) :=
  ev_call (d, lo, hi) h fun G1 vs e a => by
    match vs, a with
    | [v, w, u], ⟨p1, p2, p3, _⟩ =>
      subst p2 p3
      exact ⟨v, rfl, p1⟩
theorem ev_d1 {K : PySem.W.Frag} {σ : L2.St} {G : Hp} {M M1 : Mem} {ta : TE} {E : XK} {d : PyData} {f : PyData → Bool} (h : Ev ta σ G M (isD K d M1)) :
    Ev (tCall (spec (d1Pre K) (b1Post f)) [] E (tCons ta tNil)) σ G M (isV (.bl (f d)) M1) :=
  ev_call d (ea_cons h ea_nil) fun G1 vs e a => by
    match vs, a with
    | [v], ⟨p1, _⟩ => exact ⟨v, rfl, p1⟩
def horner (base : Int) (figs : List Int) (last : Int) : Int := figs.foldr (fun f v => v * base + f) last
def colD (c : List Int) : PyData := .tuple (c.map .int)
def isCol (base rows : Int) : PyData → Bool
  | .tuple ds => decide ((ds.length : Int) = rows) && ds.all fun d => isWhole d 0 (base - 1)
  | _ => false
def areCols (base rows : Int) : PyData → Bool
  | .list ds => ds.all fun d => isCol base rows d
  | _ => false
def GoodCol (b r : Int) (c : List Int) : Prop := (c.length : Int) = r ∧ ∀ f ∈ c, 0 ≤ f ∧ f < b
theorem isCol_good {b r : Int} {c : List Int} (h : GoodCol b r c) : isCol b r (colD c) = true := by
  unfold isCol colD
  simp only [List.length_map, Bool.and_eq_true, decide_eq_true_eq, List.all_eq_true, List.mem_map]
  refine ⟨h.1, ?_⟩
  rintro d ⟨f, hf, rfl⟩
  have := h.2 f hf
  exact Bool.and_eq_true_iff.mpr ⟨rfl, Bool.and_eq_true_iff.mpr ⟨decide_eq_true this.1, decide_eq_true (show f ≤ b - 1 by omega)⟩⟩
theorem areCols_good {b r : Int} {cs : List (List Int)} (h : ∀ c ∈ cs, GoodCol b r c) : areCols b r (.list (cs.map colD)) = true := by
  unfold areCols
  simp only [List.all_eq_true, List.mem_map]
  rintro d ⟨c, hc, rfl⟩
  exact isCol_good (h c hc)
def valueOf (b : Int) (cs : List (List Int)) : Int := horner b (cs.map List.sum) 0
theorem s_br : ¬ (("_base" : Str) = "_rows") := by decide +kernel
theorem s_bc : ¬ (("_base" : Str) = "_columns") := by decide +kernel
theorem s_rc : ¬ (("_rows" : Str) = "_columns") := by decide +kernel
def shF (b r : V) (l : V) : List (Str × V) := putF "_columns" l (putF "_rows" r (putF "_base" b []))
theorem shF_b {b r l : V} : (shF b r l).lookup ("_base" : Str) = some b := by
  unfold shF
  rw [lookup_putF, if_neg s_bc, lookup_putF, if_neg s_br, lookup_putF, if_pos rfl]
theorem shF_r {b r l : V} : (shF b r l).lookup ("_rows" : Str) = some r := by
  unfold shF
  rw [lookup_putF, if_neg s_rc, lookup_putF, if_pos rfl]
theorem shF_c {b r l : V} : (shF b r l).lookup ("_columns" : Str) = some l := by
  unfold shF
  rw [lookup_putF, if_pos rfl]
/-- a sheet at p, whoever owns its list -/
def ShAt (K : PySem.W.Frag) (C : Addr) (G : Hp) (M : Mem) (p : Addr) (b r : Int) (cs : List (List Int)) : Prop :=
  ∃ dx l xs, At G M p (.ins C dx (shF (.int b) (.int r) (.ref l))) ∧ AtL K G M l xs ∧ DpAll K G xs (cs.map colD)
theorem ShAt.ex {K : PySem.W.Frag} {C : Addr} {G G' : Hp} {M : Mem} {p : Addr} {b r : Int} {cs : List (List Int)} (h : ShAt K C G M p b r cs) (e : Ex G G') : ShAt K C G' M p b r cs := by
  obtain ⟨dx, l, xs, h1, h2, h3⟩ := h
  exact ⟨dx, l, xs, h1.ex e, h2.ex e, dma h3 e⟩
/-- a promise of a sheet's reading method -/
abbrev shPre (K : PySem.W.Frag) (C : Addr) : (Addr × Int × Int × List (List Int)) → Hp → Mem → List V → Prop := fun x G M vs => vs = [.ref x.1] ∧ ShAt K C G M x.1 x.2.1 x.2.2.1 x.2.2.2
theorem kept_map {α : Type} (l : List α) (f : α → PyData) : kept (l.map f).length (fun _ => true) (fun i => ((l.map f)[i]?).getD .none) = l.map f := by
  rw [kept_all]
  apply List.ext_getElem?
  intro i
  rw [List.getElem?_map, List.getElem?_map]
  by_cases h : i < l.length
  · rw [List.getElem?_range (by rw [List.length_map]; exact h), List.getElem?_eq_getElem h]
    simp [List.getElem?_map, h]
  · rw [List.getElem?_eq_none (by simp; omega), List.getElem?_eq_none (by omega)]
    rfl
theorem kept_ids (ds : List PyData) : kept ds.length (fun _ => true) (fun i => (ds[i]?).getD .none) = ds := by
  have := kept_map ds id
  simpa using this
theorem kept_ext {n : Nat} {ds : List PyData} {fd : Nat → PyData} (hl : ds.length = n) (h : ∀ i d, ds[i]? = some d → fd i = d) : kept n (fun _ => true) fd = ds := by
  rw [kept_all]
  apply List.ext_getElem?
  intro i
  rw [List.getElem?_map]
  by_cases hi : i < n
  · rw [List.getElem?_range hi]
    have e : ds[i]? = some ds[i] := List.getElem?_eq_getElem (by omega)
    rw [e]
    exact congrArg some (h i _ e)
  · rw [List.getElem?_eq_none (by simp; omega), List.getElem?_eq_none (by omega)]
    rfl
/-- the list of the script -/
def spLaw (K : PySem.W.Frag) : Sp := fun vs H Q _ => ∃ (a : Addr) (ns : List Int), vs = [.ref a] ∧ SqL K H a (ns.map V.int) ∧ ns.length ≤ 63 ∧ ∀ H', Q (.bl true) H'
abbrev lawPre (K : PySem.W.Frag) : List Int → Hp → Mem → List V → Prop := fun ns G M vs => ∃ v, vs = [v] ∧ Dp K G v (.list (ns.map .int)) ∧ ns.length ≤ 63 ∧ M = []
abbrev lawPost : List Int → Mem → Post := fun _ M G v M' => v = .bl true
theorem law_fin {P : Program} {w : World} {K : PySem.W.Frag} {mg : Str → Option Value} {base : Heap} {CX : CXT} {k : Nat} {f : Addr} {fd : FuncData} {ps : List Str} (F : FnOk P w K mg base CX k f fd ps (spec (lawPre K) lawPost)) : FnOk P w K mg base CX k f fd ps (spLaw K) :=
  F.imp fun vs H Q E h => by
    obtain ⟨a, ns, rfl, hs, hl, q⟩ := h
    refine ⟨ns, H, [], [], ⟨Ex.refl H, fun p hp => (by cases hp), List.nodup_nil⟩, ⟨.ref a, rfl, .lst hs (ints_dpAll ns), hl, rfl⟩, fun v G' M' H' _ _ r => ?_⟩
    subst r
    exact q H'
end SX
namespace SX
open PySem PySem.Spec L2
section
variable {K : PySem.W.Frag} {σ : L2.St} {G : Hp} {M M1 : Mem} {tl te : TE} {own' : List Nat} {k : Nat} {ds : List PyData}
theorem et_yes : EvT tYes σ G M true M := fun _ _ _ _ m _ q => q _ _ (Ex.refl _) m
theorem kept_bools {f : PyData → Bool} : kept ds.length (fun _ => true) (fun i => .bool (f ((ds[i]?).getD .none))) = (ds.map f).map .bool := by
  refine kept_ext (by simp) fun i d hd => ?_
  rw [List.map_map, List.getElem?_map] at hd
  cases q : ds[i]? with
  | none => rw [q] at hd; cases hd
  | some z => rw [q] at hd; simpa using hd
theorem all_map_id {f : PyData → Bool} : (ds.map f).all id = ds.all f := by simp [List.all_map, Function.comp_def]
theorem ev_bsT {f : PyData → Bool} (hs : Ev tl σ G M (isD K (.tuple ds) M1)) (hn : ds.length ≤ 100000)
    (he : ∀ (i : Nat) d x G', ds[i]? = some d → Ex G G' → Dp K G' x d → Ev te ((wipe σ own').set k (some x)) G' M1 (isV (.bl (f d)) M1)) (hw : ∀ x, wipe ((wipe σ own').set k (some x)) own' = wipe σ own') :
    Ev (tLc (iTup K tl) (gName k) tYes te own') σ G M (isD K (.list ((ds.map f).map .bool)) M1) := by
  rw [← kept_bools]
  refine Ev.frz (ev_lcT (K := K) (fun _ => true) (fun _ => M1) _ hs hn (fun _ _ _ _ _ _ _ => et_yes) (fun i d x G' hd e dx _ => ?_) (fun _ _ => rfl) hw)
  rw [hd]
  exact ev_bD (he i d x G' hd e dx)
theorem ev_allT {f : PyData → Bool} (hs : Ev tl σ G M (isD K (.tuple ds) M1)) (hn : ds.length ≤ 100000)
    (he : ∀ (i : Nat) d x G', ds[i]? = some d → Ex G G' → Dp K G' x d → Ev te ((wipe σ own').set k (some x)) G' M1 (isV (.bl (f d)) M1)) (hw : ∀ x, wipe ((wipe σ own').set k (some x)) own' = wipe σ own') :
    Ev (tCB (rAll K) (tCons (tLc (iTup K tl) (gName k) tYes te own') tNil)) σ G M (isV (.bl (ds.all f)) M1) := by
  rw [← all_map_id]
  exact ev_all (ev_bsT hs hn he hw)
end
end SX
namespace SX
open PySem PySem.Spec L2
abbrev placePre (K : PySem.W.Frag) : (Int × List Int × Int) → Hp → Mem → List V → Prop := fun x G M vs => ∃ v, vs = [.int x.1, v, .int x.2.2] ∧ Dp K G v (.list (x.2.1.map .int)) ∧ -(2 ^ 64) < x.1 ∧ x.1 < 2 ^ 64
abbrev placePost : (Int × List Int × Int) → Mem → Post := fun x M => isV (.int (horner x.1 x.2.1 x.2.2)) M
def dlen : PyData → Nat
  | .tuple ds => ds.length
  | .list ds => ds.length
  | _ => 0
/-- (base, rows, data): a truth value back; what is long is not let -/
abbrev colPre (K : PySem.W.Frag) : (Int × Int × PyData) → Hp → Mem → List V → Prop := fun x G M vs => ∃ v, vs = [.int x.1, .int x.2.1, v] ∧ Dp K G v x.2.2 ∧ dlen x.2.2 ≤ 100000
abbrev colPost (f : Int → Int → PyData → Bool) : (Int × Int × PyData) → Mem → Post := fun x M => isV (.bl (f x.1 x.2.1 x.2.2)) M
theorem ev_col {K : PySem.W.Frag} {σ : L2.St} {G : Hp} {M M1 : Mem} {tA : TA} {E : XK} {f : Int → Int → PyData → Bool} {d : PyData} {b r : Int} (h : EvA tA σ G M [fun _ v => v = .int b, fun _ v => v = .int r, fun G v => Dp K G v d] M1) (hz : dlen d ≤ 100000) :
    Ev (tCall (spec (colPre K) (colPost f)) [] E tA) σ G M (isV (.bl (f b r d)) M1) :=
  ev_call (b, r, d) h fun G1 vs e a => by
    match vs, a with
    | [v, w, u], ⟨p1, p2, p3, _⟩ =>
      subst p1 p2
      exact ⟨u, rfl, p3, hz⟩
end SX
namespace SX
open PySem PySem.Spec L2
theorem At.more {G : Hp} {M M' : Mem} {a : Addr} {o : HO} (h : At G M a o) : At G (M ++ M') a o := fun G1 H F e m => h G1 H (M' ++ F) e (by rw [List.append_assoc] at m; exact m)
theorem AtL.more {K : PySem.W.Frag} {G : Hp} {M M' : Mem} {a : Addr} {xs : List V} (h : AtL K G M a xs) : AtL K G (M ++ M') a xs := fun G1 H F e m => h G1 H (M' ++ F) e (by rw [List.append_assoc] at m; exact m)
/-- data; a list may be owned, its items stand still -/
def Dt (K : PySem.W.Frag) (G : Hp) (M : Mem) (v : V) (d : PyData) : Prop := Dp K G v d ∨ ∃ a xs ds, v = .ref a ∧ d = .list ds ∧ AtL K G M a xs ∧ DpAll K G xs ds
theorem Dt.ex {K : PySem.W.Frag} {G G' : Hp} {M : Mem} {v : V} {d : PyData} (h : Dt K G M v d) (e : Ex G G') : Dt K G' M v d := by
  rcases h with h | ⟨a, xs, ds, h1, h2, h3, h4⟩
  · exact .inl (dm h e)
  · exact .inr ⟨a, xs, ds, h1, h2, h3.ex e, dma h4 e⟩
theorem Dt.da {K : PySem.W.Frag} {G : Hp} {M : Mem} {v : V} {d : PyData} (h : Dt K G M v d) : Da K G M v d := by
  rcases h with h | ⟨a, xs, ds, rfl, rfl, h3, h4⟩
  · exact .of h
  · exact .lst h3 h4
theorem Dt.lst {K : PySem.W.Frag} {G : Hp} {M : Mem} {v : V} {ds : List PyData} (h : Dt K G M v (.list ds)) : ∃ a xs, v = .ref a ∧ AtL K G M a xs ∧ DpAll K G xs ds := by
  rcases h with h | ⟨a, xs, ds', h1, h2, h3, h4⟩
  · obtain ⟨a, xs, h1, h2, h3⟩ := dp_lst h
    exact ⟨a, xs, h1, .G h2, h3⟩
  · cases h2
    exact ⟨a, xs, h1, h3, h4⟩
abbrev colsPre (K : PySem.W.Frag) : (Int × Int × PyData) → Hp → Mem → List V → Prop := fun x G M vs => ∃ v, vs = [.int x.1, .int x.2.1, v] ∧ Dt K G M v x.2.2 ∧ dlen x.2.2 ≤ 100000 ∧ ∀ ds, x.2.2 = .list ds → ∀ c ∈ ds, dlen c ≤ 100000
theorem ev_cols {K : PySem.W.Frag} {σ : L2.St} {G : Hp} {M M1 : Mem} {tA : TA} {E : XK} {f : Int → Int → PyData → Bool} {d : PyData} {b r : Int} {x : V} (h : EvA tA σ G M [fun _ v => v = .int b, fun _ v => v = .int r, fun _ v => v = x] M1) (hd : Dt K G M1 x d) (hz : dlen d ≤ 100000) (hy : ∀ ds, d = .list ds → ∀ c ∈ ds, dlen c ≤ 100000) :
    Ev (tCall (spec (colsPre K) (colPost f)) [] E tA) σ G M (isV (.bl (f b r d)) M1) :=
  ev_call (b, r, d) h fun G1 vs e a => by
    match vs, a with
    | [v, w, u], ⟨p1, p2, p3, _⟩ =>
      subst p1 p2 p3
      exact ⟨u, rfl, hd.ex e, hz, hy⟩
/-- good arguments of a sheet -/
structure GoodSh (b r : Int) (cs : List (List Int)) : Prop where
  b2 : 2 ≤ b
  b12 : b ≤ 12
  r1 : 1 ≤ r
  r4 : r ≤ 4
  len : cs.length ≤ 10000
  col : ∀ c ∈ cs, GoodCol b r c
theorem dlen_colD (c : List Int) : dlen (colD c) = c.length := by simp [dlen, colD]
theorem GoodSh.clen {b r : Int} {cs : List (List Int)} (h : GoodSh b r cs) {c : List Int} (hc : c ∈ cs) : c.length ≤ 4 := by
  have := (h.col c hc).1
  have := h.r4
  omega
/-- a sheet is made: x = (p, dx, b, r, cs); columns a list of data that may be owned -/
abbrev mkShPre (K : PySem.W.Frag) (C : Addr) : (Addr × Addr × Int × Int × List (List Int)) → Hp → Mem → List V → Prop := fun x G M vs => ∃ a xs M0, vs = [.ref x.1, .int x.2.2.1, .int x.2.2.2.1, .ref a] ∧ M = M0 ++ [(x.1, .ins C x.2.1 [])] ∧ AtL K G M0 a xs ∧ DpAll K G xs (x.2.2.2.2.map colD) ∧ GoodSh x.2.2.1 x.2.2.2.1 x.2.2.2.2
abbrev mkShPost (K : PySem.W.Frag) (C : Addr) : (Addr × Addr × Int × Int × List (List Int)) → Mem → Post := fun x M G v M' => v = .non ∧ ∃ l xs M0, M = M0 ++ [(x.1, .ins C x.2.1 [])] ∧ M' = M0 ++ [(x.1, .ins C x.2.1 (shF (.int x.2.2.1) (.int x.2.2.2.1) (.ref l))), (l, .lst xs)] ∧ DpAll K G xs (x.2.2.2.2.map colD)
end SX
namespace SX
open PySem PySem.Spec L2
abbrev shGPre (K : PySem.W.Frag) (C : Addr) : (Addr × Int × Int × List (List Int)) → Hp → Mem → List V → Prop := fun x G M vs => shPre K C x G M vs ∧ x.2.2.2.length ≤ 100000 ∧ (-(2 ^ 64) < x.2.1 ∧ x.2.1 < 2 ^ 64)
abbrev shIxPre (K : PySem.W.Frag) (C : Addr) : ((Addr × Int × Int × List (List Int)) × Int × List Int) → Hp → Mem → List V → Prop := fun x G M vs => vs = [.ref x.1.1, .int x.2.1] ∧ ShAt K C G M x.1.1 x.1.2.1 x.1.2.2.1 x.1.2.2.2 ∧ 0 ≤ x.2.1 ∧ x.1.2.2.2[x.2.1.toNat]? = some x.2.2
/-- [e for x in l] over a list at an address that stands still -/
theorem ev_mapA {K : PySem.W.Frag} {σ : L2.St} {G : Hp} {M M1 : Mem} {tl te : TE} {own' : List Nat} {k : Nat} {p : Addr} {xs : List V} {ds es : List PyData} (fd : Nat → PyData) (hs : Ev tl σ G M (isV (.ref p) M1)) (hA : AtL K G M1 p xs) (hd : DpAll K G xs ds) (hn : ds.length ≤ 100000)
    (he : ∀ (i : Nat) d x G', ds[i]? = some d → Ex G G' → Dp K G' x d → Ev te ((wipe σ own').set k (some x)) G' M1 (isD K (fd i) M1)) (hw : ∀ x, wipe ((wipe σ own').set k (some x)) own' = wipe σ own')
    (hk : kept ds.length (fun _ => true) fd = es) : Ev (tLc (iList K tl) (gName k) tYes te own') σ G M (own K es M1) := fun G1 H F e m Q q =>
  hs G1 H F e m _ fun v G2 M2 H2 e2 m2 r2 => by
    obtain ⟨rfl, rfl⟩ := r2
    have hln := dpa_len hd
    refine ⟨p, rfl, ⟨xs, hA _ _ _ (e.trans e2) m2⟩, fun D hD => lc_list (K := K) (a := p) (xs := xs) (fun i H' => ∃ G' vs, Ex G2 G' ∧ Me G' (M2 ++ (D, .lst vs) :: F) H' ∧ DpAll K G' vs (kept i (fun _ => true) fd)) ?_ ?_ ?_ ?_⟩
    · exact ⟨G2, [], Ex.refl _, by rw [mem_mid]; exact m2.newMid hD, .nil⟩
    · rintro i H' _ ⟨G', vs, e', m', _⟩
      exact hA _ _ _ ((e.trans e2).trans e') m'
    · rintro i x H' hx ⟨G', vs, e', m', da⟩
      obtain ⟨d, hd', dx⟩ := dpa_atV hd hx
      have hi : i < xs.length := (List.getElem?_eq_some_iff.mp hx).1
      refine ⟨hw x, lc_turn (K := K) (fd := fd) (Mi := fun _ => M2) (b := true) et_yes (fun _ => he i d x G' hd' ((e.trans e2).trans e') (dm dx ((e.trans e2).trans e'))) (fun z => by cases z) m' e' da ?_ ?_⟩
      · rw [dpa_len da]
        have := kept_len i (fun _ => true) fd
        exact sz_ok (by omega)
      · intro G3 vs' H3 e3 m3 d3
        exact ⟨G3, vs', e3, m3, by rw [kept_succ]; exact d3⟩
    · rintro H' ⟨G', vs, e', m', da⟩
      rw [hln, hk] at da
      rw [mem_mid] at m'
      exact q _ G' _ H' (e2.trans e') m' ⟨D, vs, rfl, rfl, da⟩
end SX
namespace SX
open PySem PySem.Spec L2
section
variable {K : PySem.W.Frag} {σ : L2.St} {G : Hp} {M M1 : Mem} {tl te : TE} {own' : List Nat} {k : Nat} {ds : List PyData} {p : Addr} {xs : List V}
theorem ev_allA {f : PyData → Bool} (hs : Ev tl σ G M (isV (.ref p) M1)) (hA : AtL K G M1 p xs) (hd : DpAll K G xs ds) (hn : ds.length ≤ 100000)
    (he : ∀ (i : Nat) d x G', ds[i]? = some d → Ex G G' → Dp K G' x d → Ev te ((wipe σ own').set k (some x)) G' M1 (isV (.bl (f d)) M1)) (hw : ∀ x, wipe ((wipe σ own').set k (some x)) own' = wipe σ own') :
    Ev (tCB (rAll K) (tCons (tLc (iList K tl) (gName k) tYes te own') tNil)) σ G M (isV (.bl (ds.all f)) M1) := by
  rw [← all_map_id]
  refine ev_all (Ev.frz (ev_mapA (K := K) (fun i => .bool (f ((ds[i]?).getD .none))) hs hA hd hn (fun i d x G' h e dx => ?_) hw kept_bools))
  rw [h]
  exact ev_bD (he i d x G' h e dx)
/-- a sheet is made: the instance stands still, its list is owned -/
theorem ev_mkSh {tA : TA} {E : XK} {C a : Addr} {b r : Int} {cs : List (List Int)} (h : EvA tA σ G M [fun _ v => v = .int b, fun _ v => v = .int r, fun _ v => v = .ref a] M1) (hA : AtL K G M1 a xs) (hd : DpAll K G xs (cs.map colD)) (g : GoodSh b r cs) :
    Ev (tMake C (spec (mkShPre K C) (mkShPost K C)) [] E tA) σ G M (fun G1 v M' => ∃ p dx l ys, v = .ref p ∧ G1 p = some (.ins C dx (shF (.int b) (.int r) (.ref l))) ∧ M' = M1 ++ [(l, .lst ys)] ∧ DpAll K G1 ys (cs.map colD)) := by
  have h0 := ev_make (E := E) (C := C) (pre := mkShPre K C) (post := mkShPost K C) (R := fun G1 v M' => ∃ p dx l ys, v = .ref p ∧ M' = M1 ++ [(p, .ins C dx (shF (.int b) (.int r) (.ref l))), (l, .lst ys)] ∧ DpAll K G1 ys (cs.map colD)) (fun p dx => (p, dx, b, r, cs)) h
    (fun G1 p dx vs e q => by
      match vs, q with
      | [v1, v2, v3], ⟨p1, p2, p3, _⟩ =>
        subst p1 p2 p3
        exact ⟨a, xs, M1, rfl, rfl, hA.ex e, dma hd e, g⟩)
    (fun G1 p dx v M2 e q => by
      obtain ⟨rfl, l, ys, M0, e0, rfl, dd⟩ := q
      have := List.append_cancel_right e0
      subst this
      exact ⟨rfl, p, dx, l, ys, rfl, rfl, dd⟩)
  intro G1 H F e m Q q
  refine h0 G1 H F e m Q fun v G2 M2 H2 e2 m2 r2 => ?_
  obtain ⟨p, dx, l, ys, rfl, rfl, dd⟩ := r2
  rw [show (M1 ++ [(p, HO.ins C dx (shF (.int b) (.int r) (.ref l))), (l, HO.lst ys)]) ++ F = M1 ++ (p, HO.ins C dx (shF (.int b) (.int r) (.ref l))) :: ((l, HO.lst ys) :: F) by simp] at m2
  obtain ⟨m3, e3⟩ := m2.freezeMid
  refine q _ _ (M1 ++ [(l, .lst ys)]) H2 (e2.trans e3) (by rw [List.append_assoc]; exact m3) ⟨p, dx, l, ys, rfl, upd_same, rfl, dma dd e3⟩
end
end SX
set_option Elab.async false
set_option linter.all false
set_option maxRecDepth 100000
namespace SX
open PySem PySem.Spec L2
open PyData
structure Sh (n : Nat) (d : PyData) : Prop where
  lay : PyData.canLay0 d = true
  dep : PyData.depth d ≤ n
theorem Sh.ok {n : Nat} {d : PyData} (h : Sh n d) (hn : n ≤ 64 := by decide) : SeqAt.shaped d = true := Bool.and_eq_true_iff.mpr ⟨h.lay, decide_eq_true (Nat.le_trans h.dep hn)⟩
theorem sh_int {n : Nat} (i : Int) : Sh n (.int i) := ⟨by simp only [canLay0], by simp only [PyData.depth]; omega⟩
theorem sh_bl {n : Nat} (i : Bool) : Sh n (.bool i) := ⟨by simp only [canLay0], by simp only [PyData.depth]; omega⟩
theorem sh_non {n : Nat} : Sh n .none := ⟨by simp only [canLay0], by simp only [PyData.depth]; omega⟩
theorem sh_all {n : Nat} : ∀ {ds : List PyData}, (∀ d ∈ ds, Sh n d) → PyData.canLayAll0 ds = true ∧ PyData.depthAll ds ≤ n
  | [], _ => ⟨by simp only [canLayAll0], by simp only [PyData.depthAll]; omega⟩
  | d :: ds, h => by
    have h1 := h d List.mem_cons_self
    have h2 := sh_all (ds := ds) fun e he => h e (List.mem_cons_of_mem _ he)
    refine ⟨?_, ?_⟩
    · simp only [canLayAll0, h1.lay, h2.1, Bool.and_self]
    · simp only [PyData.depthAll]
      have := h1.dep
      omega
theorem sh_lst {n : Nat} {ds : List PyData} (h : ∀ d ∈ ds, Sh n d) : Sh (n + 1) (.list ds) := by
  obtain ⟨h1, h2⟩ := sh_all h
  exact ⟨by simp only [canLay0]; exact h1, by simp only [PyData.depth]; omega⟩
theorem sh_tup {n : Nat} {ds : List PyData} (h : ∀ d ∈ ds, Sh n d) : Sh (n + 1) (.tuple ds) := by
  obtain ⟨h1, h2⟩ := sh_all h
  exact ⟨by simp only [canLay0]; exact h1, by simp only [PyData.depth]; omega⟩
theorem sh_ints {n : Nat} (ns : List Int) : Sh (n + 1) (.list (ns.map PyData.int)) := sh_lst fun d hd => by
  obtain ⟨i, _, rfl⟩ := List.mem_map.mp hd
  exact sh_int i
theorem sh_col {n : Nat} (c : List Int) : Sh (n + 1) (colD c) := sh_tup fun d hd => by
  obtain ⟨i, _, rfl⟩ := List.mem_map.mp hd
  exact sh_int i
theorem sh_cols {n : Nat} (cs : List (List Int)) : Sh (n + 2) (.list (cs.map colD)) := sh_lst fun d hd => by
  obtain ⟨i, _, rfl⟩ := List.mem_map.mp hd
  exact sh_col i
theorem eqv_ints : ∀ (a b : List Int), PyData.eqvAll (a.map PyData.int) (b.map PyData.int) = decide (a = b)
  | [], [] => by simp [PyData.eqvAll]
  | [], _ :: _ => by simp [PyData.eqvAll]
  | _ :: _, [] => by simp [PyData.eqvAll]
  | x :: a, y :: b => by
    simp only [List.map_cons, PyData.eqvAll, PyData.eqv, eqv_ints a b]
    by_cases h : x = y <;> simp [h]
theorem eqv_lst (a b : List Int) : PyData.eqv (.list (a.map PyData.int)) (.list (b.map PyData.int)) = decide (a = b) := by
  simp only [PyData.eqv, eqv_ints]
theorem eqv_col (a b : List Int) : PyData.eqv (colD a) (colD b) = decide (a = b) := by
  unfold colD
  simp only [PyData.eqv, eqv_ints]
theorem eqv_colsA : ∀ (a b : List (List Int)), PyData.eqvAll (a.map colD) (b.map colD) = decide (a = b)
  | [], [] => by simp [PyData.eqvAll]
  | [], _ :: _ => by simp [PyData.eqvAll]
  | _ :: _, [] => by simp [PyData.eqvAll]
  | x :: a, y :: b => by
    simp only [List.map_cons, PyData.eqvAll, eqv_col, eqv_colsA a b]
    by_cases h : x = y <;> simp [h]
theorem eqv_cols (a b : List (List Int)) : PyData.eqv (.list (a.map colD)) (.list (b.map colD)) = decide (a = b) := by
  simp only [PyData.eqv, eqv_colsA]
def cellsOf (ns : List Int) : List Int := if ns = [] then [0] else ns.take 63
def deckOf (c : Int) : Deck := if 10 ^ 18 ≤ c then ⟨c - 10 ^ 18, 0, 1⟩ else ⟨0, 0, c % 2147483629 + 2⟩
abbrev cellsPre (K : PySem.W.Frag) : List Int → Hp → Mem → List V → Prop := fun ns G M vs => ∃ v, vs = [v] ∧ Dp K G v (.list (ns.map .int)) ∧ ns.length ≤ 63
abbrev cellsPost (K : PySem.W.Frag) : List Int → Mem → Post := fun ns M => isD K (.list ((cellsOf ns).map .int)) M
abbrev deckPre : Int → Hp → Mem → List V → Prop := fun c G M vs => vs = [.int c]
abbrev deckPost : Int → Mem → Post := fun c M G v M' => ∃ dk, v = .ref dk ∧ M' = M ++ [(dk, (deckOf c).ho)]
/-- a new list of ints, owned, every item known -/
theorem ev_lstI {σ : L2.St} {G : Hp} {M M1 : Mem} {t : TA} {xs : List V} (h : EvA t σ G M (xs.map fun x => fun _ v => v = x) M1) (hl : xs.length ≤ 1000) : Ev (tLst t) σ G M (fun G v M' => ∃ p, v = .ref p ∧ M' = M1 ++ [(p, .lst xs)]) := fun G1 H F e m Q q =>
  h G1 H F e m _ fun vs G2 H2 e2 m2 a => by
    have hv : vs = xs := by
      have : ∀ {xs vs : List V}, AllP G2 (xs.map fun x => fun _ v => v = x) vs → vs = xs := by
        intro xs
        induction xs with
        | nil =>
          intro vs a
          cases vs with
          | nil => rfl
          | cons _ _ => exact a.elim
        | cons x xs ih =>
          intro vs a
          cases vs with
          | nil => exact a.elim
          | cons v vs => rw [a.1, ih a.2]
      exact this a
    subst hv
    exact ⟨Nat.le_of_lt (small1000 hl), fun p hp => q _ _ _ _ e2 (m2.newMid hp) ⟨p, rfl, rfl⟩⟩
theorem cutD_take {ds : List PyData} {n : Nat} : cutD ds none (some (n : Int)) = ds.take n := by
  unfold cutD
  rw [HT.sIx_none, show HT.sIx ds.length ds.length (some (n : Int)) = min n ds.length from HT.sIx_nat _ _ _]
  simp
end SX
namespace SX
open PySem PySem.Spec L2
end SX
set_option Elab.async false
set_option linter.all false
set_option maxRecDepth 100000
namespace SX
open PySem PySem.Spec L2
/-- a list of columns, wherever it stands -/
structure ColsAt (K : PySem.W.Frag) (G : Hp) (M : Mem) (a : Addr) (cs : List (List Int)) : Prop where
  ex : ∃ xs, AtL K G M a xs ∧ DpAll K G xs (cs.map colD)
theorem ColsAt.up {K : PySem.W.Frag} {G G' : Hp} {M : Mem} {a : Addr} {cs : List (List Int)} (h : ColsAt K G M a cs) (e : Ex G G') : ColsAt K G' M a cs := by
  obtain ⟨xs, h1, h2⟩ := h.ex
  exact ⟨xs, h1.ex e, dma h2 e⟩
theorem ColsAt.of {K : PySem.W.Frag} {G : Hp} {M : Mem} {a : Addr} {cs : List (List Int)} (h : Dp K G (.ref a) (.list (cs.map colD))) : ColsAt K G M a cs := by
  obtain ⟨b, xs, e, hs, ha⟩ := dp_lst h
  cases e
  exact ⟨xs, .G hs, ha⟩
theorem ColsAt.da {K : PySem.W.Frag} {G : Hp} {M : Mem} {a : Addr} {cs : List (List Int)} (h : ColsAt K G M a cs) : Da K G M (.ref a) (.list (cs.map colD)) := by
  obtain ⟨xs, h1, h2⟩ := h.ex
  exact Da.lst h1 h2
theorem ColsAt.more {K : PySem.W.Frag} {G : Hp} {M M' : Mem} {a : Addr} {cs : List (List Int)} (h : ColsAt K G M a cs) : ColsAt K G (M ++ M') a cs := by
  obtain ⟨xs, h1, h2⟩ := h.ex
  exact ⟨xs, fun G1 H F e m => h1 G1 H (M' ++ F) e (by rw [List.append_assoc] at m; exact m), h2⟩
theorem ShAt.more {K : PySem.W.Frag} {C : Addr} {G : Hp} {M M' : Mem} {p : Addr} {b r : Int} {cs : List (List Int)} (h : ShAt K C G M p b r cs) : ShAt K C G (M ++ M') p b r cs := by
  obtain ⟨dx, l, xs, h1, h2, h3⟩ := h
  exact ⟨dx, l, xs, h1.more, h2.more, h3⟩
abbrev lvPre (K : PySem.W.Frag) : (Int × Addr × List (List Int)) → Hp → Mem → List V → Prop := fun x G M vs => vs = [.int x.1, .ref x.2.1] ∧ ColsAt K G M x.2.1 x.2.2 ∧ (∀ c ∈ x.2.2, -(2 ^ 64) < c.sum ∧ c.sum < 2 ^ 64) ∧ (-(2 ^ 64) < x.1 ∧ x.1 < 2 ^ 64)
abbrev lvPost : (Int × Addr × List (List Int)) → Mem → Post := fun x M => isV (.int (valueOf x.1 x.2.2)) M
theorem sum_lo : ∀ {c : List Int} {b : Int}, (∀ f ∈ c, 0 ≤ f ∧ f < b) → 0 ≤ c.sum ∧ c.sum ≤ c.length * b
  | [], b, _ => by simp
  | f :: c, b, h => by
    have h1 := h f List.mem_cons_self
    have h2 := sum_lo (c := c) fun g hg => h g (List.mem_cons_of_mem _ hg)
    simp only [List.sum_cons, List.length_cons, Int.natCast_add, Int.add_mul]
    omega
theorem GoodSh.sum {b r : Int} {cs : List (List Int)} (h : GoodSh b r cs) : ∀ c ∈ cs, -(2 ^ 64) < c.sum ∧ c.sum < 2 ^ 64 := fun c hc => by
  obtain ⟨h1, h2⟩ := sum_lo (h.col c hc).2
  have h3 := (h.col c hc).1
  have h4 := h.r4
  have h5 := h.b12
  have h6 := h.b2
  have : (c.length : Int) * b ≤ 4 * b := Int.mul_le_mul_of_nonneg_right (by omega) (by omega)
  omega
def drawsD (D : Deck) (b : Int) : Nat → Deck
  | 0 => D
  | n + 1 => dn (drawsD D b n) b
def drawsV (D : Deck) (b : Int) (n : Nat) : List Int := (List.range n).map fun i => dv (drawsD D b i) b
theorem drawsV_len (D : Deck) (b : Int) (n : Nat) : (drawsV D b n).length = n := by simp [drawsV]
theorem drawsV_mem {D : Deck} {b : Int} {n : Nat} (h : 0 < b) : ∀ f ∈ drawsV D b n, 0 ≤ f ∧ f < b := fun f hf => by
  obtain ⟨i, _, rfl⟩ := List.mem_map.mp hf
  exact ⟨dv_lo h, dv_hi h⟩
def colOf (D : Deck) (b r : Int) : List Int := if dv D 5 = 1 then List.replicate r.toNat (b - 1) else if dv D 5 = 0 then List.replicate r.toNat 0 else drawsV (dn D 5) b r.toNat
def colDk (D : Deck) (b r : Int) : Deck := drawsD (dn D 5) b r.toNat
theorem colOf_good {D : Deck} {b r : Int} (hb : 0 < b) (hr : 0 ≤ r) : GoodCol b r (colOf D b r) := by
  unfold colOf GoodCol
  split
  · refine ⟨by rw [List.length_replicate]; omega, fun f hf => ?_⟩
    rw [List.eq_of_mem_replicate hf]
    omega
  · split
    · refine ⟨by rw [List.length_replicate]; omega, fun f hf => ?_⟩
      rw [List.eq_of_mem_replicate hf]
      omega
    · exact ⟨by rw [drawsV_len]; omega, drawsV_mem hb⟩
abbrev lcolPre : (Addr × Nat × Deck × Int × Int) → Hp → Mem → List V → Prop := fun x G M vs => vs = [.ref x.1, .int x.2.2.2.1, .int x.2.2.2.2] ∧ 0 < x.2.2.2.1 ∧ x.2.2.2.1 < 2 ^ 200 ∧ 0 ≤ x.2.2.2.2 ∧ x.2.2.2.2 ≤ 1000 ∧ M[x.2.1]? = some (x.1, x.2.2.1.ho)
abbrev lcolPost (K : PySem.W.Frag) : (Addr × Nat × Deck × Int × Int) → Mem → Post := fun x M => isD K (colD (colOf x.2.2.1 x.2.2.2.1 x.2.2.2.2)) (M.set x.2.1 (x.1, (colDk x.2.2.1 x.2.2.2.1 x.2.2.2.2).ho))
theorem ev_lcol {K : PySem.W.Frag} {σ : L2.St} {G : Hp} {M M1 : Mem} {tA : TA} {E : XK} {dk : Addr} {D : Deck} {b r : Int} (i : Nat) (h : EvA tA σ G M [fun _ v => v = .ref dk, fun _ v => v = .int b, fun _ v => v = .int r] M1) (hi : M1[i]? = some (dk, D.ho)) (b0 : 0 < b) (b1 : b < 2 ^ 200) (r0 : 0 ≤ r) (r1 : r ≤ 1000) :
    Ev (tCall (spec lcolPre (lcolPost K)) [] E tA) σ G M (isD K (colD (colOf D b r)) (M1.set i (dk, (colDk D b r).ho))) :=
  ev_call (dk, i, D, b, r) h fun G1 vs e a => by
    match vs, a with
    | [v, w, u], ⟨p1, p2, p3, _⟩ =>
      subst p1 p2 p3
      exact ⟨rfl, b0, b1, r0, r1, hi⟩
/-- how many columns, the deck then -/
def manyOf (D : Deck) (most : Int) : Int := if dv (dn D 7) 3 = 0 then dv (dn (dn D 7) 3) (most + 1) else dv D 7
def manyDk (D : Deck) (most : Int) : Deck := if dv (dn D 7) 3 = 0 then dn (dn (dn D 7) 3) (most + 1) else dn (dn D 7) 3
def colsDk (D : Deck) (b r : Int) : Nat → Deck
  | 0 => D
  | n + 1 => colDk (colsDk D b r n) b r
def colsV (D : Deck) (b r : Int) (n : Nat) : List (List Int) := (List.range n).map fun i => colOf (colsDk D b r i) b r
def colsOf (D : Deck) (b r most : Int) : List (List Int) := colsV (manyDk D most) b r (manyOf D most).toNat
def colsEnd (D : Deck) (b r most : Int) : Deck := colsDk (manyDk D most) b r (manyOf D most).toNat
theorem manyOf_lo {D : Deck} {most : Int} (h : 0 ≤ most) : 0 ≤ manyOf D most := by
  unfold manyOf
  split
  · exact dv_lo (by omega)
  · exact dv_lo (by omega)
theorem manyOf_hi {D : Deck} {most : Int} (h : 0 ≤ most) : manyOf D most ≤ max 6 most := by
  unfold manyOf
  have h1 : dv (dn (dn D 7) 3) (most + 1) < most + 1 := dv_hi (by omega)
  have h2 : dv D 7 < 7 := dv_hi (by omega)
  split <;> omega
theorem colsOf_len {D : Deck} {b r most : Int} (h : 0 ≤ most) : ((colsOf D b r most).length : Int) ≤ max 6 most := by
  unfold colsOf colsV
  have := manyOf_hi (D := D) h
  have := manyOf_lo (D := D) h
  rw [List.length_map, List.length_range]
  omega
theorem colsOf_good {D : Deck} {b r most : Int} (hb : 0 < b) (hr : 0 ≤ r) : ∀ c ∈ colsOf D b r most, GoodCol b r c := fun c hc => by
  obtain ⟨i, _, rfl⟩ := List.mem_map.mp hc
  exact colOf_good hb hr
abbrev lcolsPre : (Addr × Nat × Deck × Int × Int × Int) → Hp → Mem → List V → Prop := fun x G M vs => vs = [.ref x.1, .int x.2.2.2.1, .int x.2.2.2.2.1, .int x.2.2.2.2.2] ∧ 0 < x.2.2.2.1 ∧ x.2.2.2.1 < 2 ^ 200 ∧ 0 ≤ x.2.2.2.2.1 ∧ x.2.2.2.2.1 ≤ 1000 ∧ 0 ≤ x.2.2.2.2.2 ∧ x.2.2.2.2.2 ≤ 1000 ∧ M[x.2.1]? = some (x.1, x.2.2.1.ho)
abbrev lcolsPost (K : PySem.W.Frag) : (Addr × Nat × Deck × Int × Int × Int) → Mem → Post := fun x M => own K ((colsOf x.2.2.1 x.2.2.2.1 x.2.2.2.2.1 x.2.2.2.2.2).map colD) (M.set x.2.1 (x.1, (colsEnd x.2.2.1 x.2.2.2.1 x.2.2.2.2.1 x.2.2.2.2.2).ho))
end SX
namespace SX
open PySem PySem.Spec L2
end SX
set_option Elab.async false
set_option linter.all false
set_option maxRecDepth 100000
namespace SX
open PySem PySem.Spec L2
section
variable {E : XK} {K : PySem.W.Frag} {σ : L2.St} {G G' H : Hp} {M M1 M2 M3 F : Mem} {R : Post} {P P' : Po} {te ta tb : TE} {t u : TS} {x y z : V} {i : Nat} {Xc : Value → Option Addr → Hp → Mem → Prop}
/-- an expression that raises, surely -/
def EvR (E : XK) (te : TE) (σ : L2.St) (G : Hp) (M : Mem) (Xc : Value → Option Addr → Hp → Mem → Prop) : Prop := ∀ G1 H F, Ex G G1 → Me G1 (M ++ F) H → (∀ c d G2 M2 H2, Ex G1 G2 → Me G2 (M2 ++ F) H2 → Xc c d G2 M2 → E c d H2) → ∀ Q : VK, te σ H Q
theorem sv_dropR (h : EvR E te σ G M P.ex) : Sv E (tDrop te) σ G M P := fun G1 H F D e m hd => h G1 H F e m hd.ex _
/-- try: body, except x as n: suite. The body's errors are Xc's, all of them the clause's -/
theorem sv_tryAs {tw : WX → TS} {ts : Addr → Value → Option Addr → TS} {c : Value} {Wout : WX} (Xc : Value → Option Addr → Hp → Mem → Prop) (hB : ∀ W : WX, Sv (fun cls d H => W cls d σ H) (tw W) σ G M { P with ex := Xc })
    (hS : ∀ cls d a G2 M2, Ex G G2 → Xc cls d G2 M2 → PySem.W.exmOne K cls c = some true ∧ Sv E (ts a cls d) (σ.set i (some (.ref a))) G2 M2 { P with nx := fun G3 σ' M3 => P.nx G3 (σ'.set i none) M3, bk := fun G3 σ' M3 => P.bk G3 (σ'.set i none) M3, ct := fun G3 σ' M3 => P.ct G3 (σ'.set i none) M3 }) :
    Sv E (fun D σ H => tw (wAs K c i ts Wout D) D σ H) σ G M P := fun G1 H F D e m hd =>
  hB (wAs K c i ts Wout D) G1 H F D e m ⟨hd.nx, hd.rt, hd.bk, hd.ct, fun cls d G2 M2 H2 e2 m2 xc =>
    ⟨true, (hS cls d 0 G2 M2 (e.trans e2) xc).1, fun _ a _ => (hS cls d a G2 M2 (e.trans e2) xc).2 G2 H2 F _ (Ex.refl _) m2 ⟨fun σ' G3 M3 H3 e3 m3 n => hd.nx _ G3 M3 H3 (e2.trans e3) m3 n, fun v G3 M3 H3 e3 m3 n => hd.rt v G3 M3 H3 (e2.trans e3) m3 n,
      fun σ' G3 M3 H3 e3 m3 n => hd.bk _ G3 M3 H3 (e2.trans e3) m3 n, fun σ' G3 M3 H3 e3 m3 n => hd.ct _ G3 M3 H3 (e2.trans e3) m3 n, fun c' d' G3 M3 H3 e3 m3 n => hd.ex c' d' G3 M3 H3 (e2.trans e3) m3 n⟩, fun z => by cases z⟩⟩
end
/-- isinstance(e, (A, B, ..)) of the error that the suite holds -/
def rIsET (K : PySem.W.Frag) (D a : Addr) : List V → Hp → VK → Prop := fun xs H Q => ∃ (tp : Addr) (cs : List V) (us : List Value) (b : Bool), xs = [.ref a, .ref tp] ∧ H tp = some (.tup cs) ∧ Paired ClsV cs us ∧ PySem.W.kitAny K (.ref D) us = some b ∧ Q (.bl b) H
section
variable {K : PySem.W.Frag} {σ : L2.St} {G : Hp} {M M1 : Mem} {ta : TE} {a D : Addr} {b : Bool}
theorem own_rel {C : Addr} : ∀ u, RelV (.ref C) u → u = .ref C := fun u h => h
theorem ty_rel {n : String} : ∀ u, RelV (.ty n) u → u = .type n := fun u h => h
theorem cls_paired : ∀ (cs : List Addr), Paired ClsV (cs.map V.ref) (cs.map Value.ref)
  | [] => .nil
  | c :: cs => .cons (.own c) (cls_paired cs)
end
end SX
set_option Elab.async false
set_option linter.all false
set_option maxRecDepth 100000
namespace SX
open PySem PySem.Spec L2
/-- what makes a sheet -/
def okSh (db dr dc : PyData) : Bool := isWhole db 2 12 && (isWhole dr 1 4 && areCols (intOf db) (intOf dr) dc)
structure MkS where
  p : Addr
  dx : Addr
  vb : V
  vr : V
  vc : V
  db : PyData
  dr : PyData
  dc : PyData
abbrev initPre (K : PySem.W.Frag) (C : Addr) : MkS → Hp → Mem → List V → Prop := fun x G M vs => vs = [.ref x.p, x.vb, x.vr, x.vc] ∧ ∃ M0, M = M0 ++ [(x.p, .ins C x.dx [])] ∧ Dp K G x.vb x.db ∧ Dp K G x.vr x.dr ∧ Dt K G M0 x.vc x.dc ∧ dlen x.dc ≤ 100000 ∧ ∀ ds, x.dc = .list ds → ∀ c ∈ ds, dlen c ≤ 100000
abbrev initPost (K : PySem.W.Frag) (C : Addr) : MkS → Mem → Post := fun x M G v M' => okSh x.db x.dr x.dc = true ∧ v = .non ∧ ∃ l xs M0 ds, M = M0 ++ [(x.p, .ins C x.dx [])] ∧ x.dc = .list ds ∧ M' = M0 ++ [(x.p, .ins C x.dx (shF x.vb x.vr (.ref l))), (l, .lst xs)] ∧ DpAll K G xs ds
abbrev initExc (CE : Addr) : MkS → Mem → Value → Option Addr → Hp → Mem → Prop := fun x M c d _ M' => okSh x.db x.dr x.dc = false ∧ c = .ref CE ∧ d = none ∧ M' = M
theorem okSh_good {b r : Int} {cs : List (List Int)} (g : GoodSh b r cs) : okSh (.int b) (.int r) (.list (cs.map colD)) = true := by
  have hw1 : isWhole (.int b) 2 12 = true := Bool.and_eq_true_iff.mpr ⟨rfl, Bool.and_eq_true_iff.mpr ⟨decide_eq_true g.b2, decide_eq_true g.b12⟩⟩
  have hw2 : isWhole (.int r) 1 4 = true := Bool.and_eq_true_iff.mpr ⟨rfl, Bool.and_eq_true_iff.mpr ⟨decide_eq_true g.r1, decide_eq_true g.r4⟩⟩
  unfold okSh
  rw [hw1, hw2]
  exact areCols_good g.col
theorem whole_int {d : PyData} {lo hi : Int} (h : isWhole d lo hi = true) : ∃ n, d = .int n ∧ lo ≤ n ∧ n ≤ hi := by
  unfold isWhole at h
  simp only [Bool.and_eq_true, decide_eq_true_eq] at h
  cases d with
  | int n => exact ⟨n, rfl, h.2.1, h.2.2⟩
  | _ => cases h.1
theorem isCol_of {b r : Int} {d : PyData} (h : isCol b r d = true) : ∃ c, d = colD c ∧ GoodCol b r c := by
  cases d with
  | tuple ds =>
    simp only [isCol, Bool.and_eq_true, decide_eq_true_eq, List.all_eq_true] at h
    obtain ⟨hl, ha⟩ := h
    refine ⟨ds.map intOf, ?_, by rw [List.length_map]; exact hl, fun f hf => ?_⟩
    · unfold colD
      rw [List.map_map]
      congr 1
      have : ds.map (PyData.int ∘ intOf) = ds.map id := by
        apply List.map_congr_left
        intro d hd
        obtain ⟨n, rfl, _⟩ := whole_int (ha d hd)
        rfl
      rw [this, List.map_id]
    · obtain ⟨d, hd, rfl⟩ := List.mem_map.mp hf
      obtain ⟨n, rfl, h1, h2⟩ := whole_int (ha d hd)
      exact ⟨h1, by show n < b; omega⟩
  | _ => cases h
abbrev newSh (K : PySem.W.Frag) (C : Addr) (b r : Int) (cs : List (List Int)) (M : Mem) : Post := fun G1 v M' => ∃ p dx l ys, v = .ref p ∧ G1 p = some (.ins C dx (shF (.int b) (.int r) (.ref l))) ∧ M' = M ++ [(l, .lst ys)] ∧ DpAll K G1 ys (cs.map colD)
end SX
namespace SX
open PySem PySem.Spec L2
/-- a + b of two lists, wherever they stand -/
def rCatS (K : PySem.W.Frag) : R2 := fun x y H Q => ∃ l b xs zs, x = .ref l ∧ y = .ref b ∧ SqL K H l xs ∧ SqL K H b zs ∧ xs.length + zs.length ≤ sizeLine ∧ ∀ p, H p = none → Q (.ref p) (upd H p (.lst (xs ++ zs)))
theorem op_catS {X : Cx} : OpR X (binaryOp .Add) (rCatS X.K) := by
  intro pins s σ H x y v u Q I rx ry h
  obtain ⟨l, b, xs, zs, rfl, rfl, hl, hb, hz, q⟩ := h
  cases (show v = Value.ref l from rx)
  cases (show u = Value.ref b from ry)
  obtain ⟨its, r, ⟨o, n, eo, oc, od, oda⟩, z1⟩ := I.list hl
  obtain ⟨its2, r2, ⟨o2, n2, eo2, oc2, od2, oda2⟩, z2⟩ := I.list hb
  obtain ⟨c1, d1, dt1, s1⟩ := o
  obtain ⟨c2, d2, dt2, s2⟩ := o2
  dsimp only at oc od oda oc2 od2 oda2
  subst oc od oda oc2 od2 oda2
  have sz : its.toArray.size + its2.toArray.size ≤ sizeLine := by rw [List.size_toArray, List.size_toArray, ← r.length, ← r2.length]; exact hz
  refine PySem.concat_meets ⟨_, eo, rfl⟩ ⟨_, eo2, rfl⟩ PySem.noFill_list_add PySem.seq_list_add PySem.F.slot_list_add PySem.F.entry_list_add (PySem.F.args_list_add_2 _ _) (PyProof.Rows.list_addW l b its.toArray its2.toArray n n2 none none s1 s2 sz) ⟨eo, eo2, ?_⟩
  have ea : its.toArray ++ its2.toArray = (its ++ its2).toArray := by simp
  rw [ea]
  exact ⟨.ref _, _, I.lnew (t' := s.toks) (r.append r2) (by rw [List.length_append]; exact hz), rfl, q _ I.fresh⟩
theorem k_cat {X : Cx} {K : PySem.W.Frag} (hK : X.K = K) : OpR X (binaryOp .Add) (rCatS K) := hK ▸ op_catS
section
variable {K : PySem.W.Frag} {σ : L2.St} {G : Hp} {M M1 : Mem} {ta tb te : TE} {ds es : List PyData} {p q C : Addr} {xs ys : List V} {E : XK} {b r : Int} {cs : List (List Int)}
/-- isinstance(o, C), o an instance of C -/
structure IsCls (K : PySem.W.Frag) (C : Addr) : Prop where
  ha : PySem.W.findIn K (.ref C) "__class__" = some (some (.builtin "object.__class__"))
  hn : PySem.W.specialIn K (.builtin "object.__class__") "__get__" = some (some (.builtin "getset_descriptor.__get__"))
  ht : PySem.W.takesIn K (.builtin "object.__class__") = some true
  hm : PySem.W.mroIn K C (.type "object") = some true
end
end SX
set_option Elab.async false
set_option linter.all false
set_option maxRecDepth 100000
namespace SX
open PySem PySem.Spec L2
section
variable {E : XK} {K : PySem.W.Frag} {σ : L2.St} {G G' H : Hp} {M M1 M2 M3 F : Mem} {R : Post} {P P' : Po} {te ta tb : TE} {tt tu : TT} {t u : TS} {x y z v : V} {d e : PyData} {ds : List PyData} {a b : Bool} {P1 P2 : Hp → V → Prop} {C : Addr} {Ps : List (Hp → V → Prop)}
/-- a sheet that stands still -/
def ShFz (K : PySem.W.Frag) (C : Addr) (b r : Int) (cs : List (List Int)) (G : Hp) (v : V) : Prop := ∃ p dx l xs, v = .ref p ∧ G p = some (.ins C dx (shF (.int b) (.int r) (.ref l))) ∧ SqL K G l xs ∧ DpAll K G xs (cs.map colD)
instance {b r : Int} {cs : List (List Int)} : Mono (ShFz K C b r cs) := ⟨fun G G' v e h => by
  obtain ⟨p, dx, l, xs, h1, h2, h3, h4⟩ := h
  exact ⟨p, dx, l, xs, h1, e _ _ h2, ex_l e h3, dma h4 e⟩⟩
theorem ShFz.at_ {b r : Int} {cs : List (List Int)} (h : ShFz K C b r cs G v) : ∃ p, v = .ref p ∧ ∀ M, ShAt K C G M p b r cs := by
  obtain ⟨p, dx, l, xs, h1, h2, h3, h4⟩ := h
  exact ⟨p, h1, fun M => ⟨dx, l, xs, .G h2, .G h3, h4⟩⟩
/-- the pairs of a sheet and its due columns -/
def OthF (K : PySem.W.Frag) (os : List (Addr × List (List Int))) (G : Hp) (v : V) : Prop := ∃ oa ws, v = .ref oa ∧ ws.length ≤ 1000 ∧ SqL K G oa ws ∧ ∀ (i : Nat) x, ws[i]? = some x → ∃ t q c cs', x = .ref t ∧ SqT K G t [.ref q, c] ∧ Dp K G c (.list (cs'.map colD)) ∧ (q, cs') ∈ os
instance {os : List (Addr × List (List Int))} : Mono (OthF K os) := ⟨fun G G' v e h => by
  obtain ⟨oa, ws, h1, h2, h3, h4⟩ := h
  refine ⟨oa, ws, h1, h2, ex_l e h3, fun i x hx => ?_⟩
  obtain ⟨t, q, c, cs', k1, k2, k3, k4⟩ := h4 i x hx
  exact ⟨t, q, c, cs', k1, ex_t e k2, dm k3 e, k4⟩⟩
end
end SX
namespace SX
open PySem PySem.Spec L2
abbrev powPre : (Int × Nat) → Hp → Mem → List V → Prop := fun x G M vs => vs = [.int x.1, .int (x.2 : Int)] ∧ (-(2 ^ 64) < x.1 ∧ x.1 < 2 ^ 64) ∧ x.2 ≤ 100000
abbrev powPost : (Int × Nat) → Mem → Post := fun x M => isV (.int (x.1 ^ x.2)) M
end SX
namespace SX
open PySem PySem.Spec L2
end SX
namespace SX
open PySem PySem.Spec L2
section
variable {K : PySem.W.Frag} {C : Addr} {σ : L2.St} {G : Hp} {M M1 M2 M3 M4 : Mem} {tA : TA} {E : XK} {ta tb tc td te tf : TE}
theorem allP2 {P1 P2 : Hp → V → Prop} : ∀ {vs : List V}, AllP G [P1, P2] vs → ∃ v w, vs = [v, w] ∧ P1 G v ∧ P2 G w
  | [v, w], ⟨a, b, _⟩ => ⟨v, w, rfl, a, b⟩
theorem allP3 {P1 P2 P3 : Hp → V → Prop} : ∀ {vs : List V}, AllP G [P1, P2, P3] vs → ∃ v w u, vs = [v, w, u] ∧ P1 G v ∧ P2 G w ∧ P3 G u
  | [v, w, u], ⟨a, b, c, _⟩ => ⟨v, w, u, rfl, a, b, c⟩
/-- (sheet, due columns) -/
def PrF (K : PySem.W.Frag) (q : Addr) (cs : List (List Int)) (G : Hp) (v : V) : Prop := ∃ t c, v = .ref t ∧ SqT K G t [.ref q, c] ∧ Dp K G c (.list (cs.map colD))
instance {q : Addr} {cs : List (List Int)} : Mono (PrF K q cs) := ⟨fun G G' v e h => by
  obtain ⟨t, c, h1, h2, h3⟩ := h
  exact ⟨t, c, h1, ex_t e h2, dm h3 e⟩⟩
end
end SX
namespace SX
open PySem PySem.Spec L2
end SX
set_option Elab.async false
set_option linter.all false
set_option maxRecDepth 100000
namespace SX
open PySem PySem.Spec L2
section
variable {E : XK} {K : PySem.W.Frag} {σ : L2.St} {G G' H : Hp} {M M1 M2 M3 F : Mem} {R : Post} {P P' : Po} {te ta tb : TE} {tt tu : TT} {t u : TS} {x y z v : V} {d e : PyData} {ds es : List PyData} {a b : Bool} {P1 P2 : Hp → V → Prop} {C : Addr} {Ps : List (Hp → V → Prop)}
theorem dpa_set : ∀ {xs : List V} {ds : List PyData} {i : Nat}, DpAll K G xs ds → Dp K G x d → DpAll K G (xs.set i x) (ds.set i d)
  | _, [], _, h, _ => by cases h; exact .nil
  | _, e :: ds, 0, h, hd => by
    cases h with
    | cons _ h2 => exact .cons hd h2
  | _, e :: ds, i + 1, h, hd => by
    cases h with
    | cons h1 h2 => exact .cons h1 (dpa_set (i := i) h2 hd)
theorem ev_catT (h1 : Ev ta σ G M (isD K (.tuple ds) M1)) (h2 : Ev tb σ G M1 (isD K (.tuple es) M2)) (hl : ds.length + es.length ≤ 100000) : Ev (tOp (rCatA K) ta tb) σ G M (isD K (.tuple (ds ++ es)) M2) :=
  ev_op h1 h2 fun G1 H F x' y' ex m p1 p2 Q k => by
    obtain ⟨p, xs, rfl, hx, dx⟩ := dp_tup p1
    obtain ⟨q, ys, rfl, hy, dy⟩ := dp_tup p2
    refine ⟨p, q, xs, ys, rfl, rfl, ex_t m.ex hx, ex_t m.ex hy, ?_, fun z => ?_, fun _ z => ?_, fun _ _ l hl => ?_⟩
    · rw [dpa_len dx, dpa_len dy]
      exact Nat.le_of_lt (sz_ok hl)
    · subst z
      have : ds = [] := List.length_eq_zero_iff.mp (by rw [← dpa_len dx]; rfl)
      subst this
      exact k _ G1 _ _ (Ex.refl _) m ⟨p2, rfl⟩
    · subst z
      have : es = [] := List.length_eq_zero_iff.mp (by rw [← dpa_len dy]; rfl)
      subst this
      rw [List.append_nil] at k
      exact k _ G1 _ _ (Ex.refl _) m ⟨p1, rfl⟩
    · have g1 := m.free hl
      exact k _ _ _ _ (Ex.new g1) (m.newF hl) ⟨.tup (SqT.of upd_same) (dma (dpa_app dx dy) (Ex.new g1)), rfl⟩
theorem ev_slT {tl th : TO} {lo hi : Option Int} (h : Ev te σ G M (isD K (.tuple ds) M1)) (hl : EvO tl σ G M1 lo M1) (hh : EvO th σ G M1 hi M1) : Ev (tSl (rSlA K) te tl th) σ G M (isD K (.tuple (cutD ds lo hi)) M1) := fun G1 H F e m Q q =>
  h G1 H F e m _ fun v G2 M2 H2 e2 m2 r => by
    obtain ⟨dv, rfl⟩ := r
    refine hl G2 H2 F (e.trans e2) m2 _ fun G3 H3 e3 m3 => hh G3 H3 F ((e.trans e2).trans e3) m3 _ fun G4 H4 e4 m4 => ?_
    obtain ⟨a, xs, rfl, hs, ha⟩ := dp_tup (dm dv (e3.trans e4))
    refine ⟨a, xs, rfl, ex_t m4.ex hs, fun z => ?_, fun _ p hp => ?_⟩
    · have hc : cutD ds lo hi = ds := by
        unfold cutD
        rw [← dpa_len ha, z.1, z.2, List.drop_zero, Nat.sub_zero, List.take_of_length_le (by rw [dpa_len ha]; exact Nat.le_refl _)]
      rw [hc] at q
      exact q _ G4 _ _ ((e2.trans e3).trans e4) m4 ⟨.tup hs ha, rfl⟩
    · have g1 := m4.free hp
      exact q _ _ _ _ (((e2.trans e3).trans e4).trans (Ex.new g1)) (m4.newF hp) ⟨.tup (SqT.of upd_same) (dma (dpa_cut ha lo hi) (Ex.new g1)), rfl⟩
/-- what is owned and not needed is forgotten -/
theorem sv_sub {M' : Mem} (hs : M'.Sublist M) (h : Sv E t σ G M' P) : Sv E t σ G M P := fun G1 H F D e m hd => h G1 H F D e (m.sub (hs.append_right F)) hd
end
end SX
namespace SX
open PySem PySem.Spec L2
section
variable {K : PySem.W.Frag} {C : Addr} {σ : L2.St} {G G' : Hp} {M M1 M2 Mx : Mem} {P : Po} {tA : TA} {E : XK} {ta tb tc td te tf : TE} {t u : TS}
theorem allP4 {P1 P2 P3 P4 : Hp → V → Prop} : ∀ {vs : List V}, AllP G [P1, P2, P3, P4] vs → ∃ v w u x, vs = [v, w, u, x] ∧ P1 G v ∧ P2 G w ∧ P3 G u ∧ P4 G x
  | [v, w, u, x], ⟨a, b, c, d, _⟩ => ⟨v, w, u, x, rfl, a, b, c, d⟩
def mem9 (L A : Nat → Addr) (X Z : Nat → List V) (hl : Addr) (hs : List V) : Mem := [(L 0, .lst (X 0)), (L 1, .lst (X 1)), (L 2, .lst (X 2)), (L 3, .lst (X 3)), (A 0, .lst (Z 0)), (A 1, .lst (Z 1)), (A 2, .lst (Z 2)), (A 3, .lst (Z 3)), (hl, .lst hs)]
def up {α : Type} (f : Nat → α) (k : Nat) (v : α) : Nat → α := fun j => if j = k then v else f j
variable {L A : Nat → Addr} {X Z : Nat → List V} {hl : Addr} {hs y : List V} {k : Nat}
theorem mem9_X (h : k < 4) : (mem9 L A X Z hl hs ++ Mx)[k]? = some (L k, .lst (X k)) := by
  match k, h with
  | 0, _ => rfl
  | 1, _ => rfl
  | 2, _ => rfl
  | 3, _ => rfl
theorem mem9_Z (h : k < 4) : (mem9 L A X Z hl hs ++ Mx)[4 + k]? = some (A k, .lst (Z k)) := by
  match k, h with
  | 0, _ => rfl
  | 1, _ => rfl
  | 2, _ => rfl
  | 3, _ => rfl
theorem up_same {α : Type} {f : Nat → α} {k : Nat} {v : α} : up f k v k = v := if_pos rfl
theorem up_ne {α : Type} {f : Nat → α} {k j : Nat} {v : α} (h : j ≠ k) : up f k v j = f j := if_neg h
/-- four sheets, their due columns, what was held -/
structure St9 (K : PySem.W.Frag) (C : Addr) (b r : Int) (many : Nat) (P dx L : Nat → Addr) (X Z : Nat → List V) (CS : Nat → List (List Int)) (hs : List V) (G : Hp) : Prop where
  sh : ∀ k, k < 4 → G (P k) = some (.ins C (dx k) (shF (.int b) (.int r) (.ref (L k))))
  dX : ∀ k, k < 4 → DpAll K G (X k) ((CS k).map colD)
  dZ : ∀ k, k < 4 → DpAll K G (Z k) ((CS k).map colD)
  g : ∀ k, k < 4 → GoodSh b r (CS k) ∧ (CS k).length = many
  h : ∀ x ∈ hs, ∃ t f d cs, x = .ref t ∧ SqT K G t [f, d] ∧ Dp K G f (.list (cs.map colD)) ∧ Dp K G d (.list (cs.map colD)) ∧ GoodSh b r cs
theorem St9.up {b r : Int} {many : Nat} {P dx : Nat → Addr} {CS : Nat → List (List Int)} (h : St9 K C b r many P dx L X Z CS hs G) (e : Ex G G') : St9 K C b r many P dx L X Z CS hs G' :=
  ⟨fun k hk => e _ _ (h.sh k hk), fun k hk => dma (h.dX k hk) e, fun k hk => dma (h.dZ k hk) e, h.g, fun x hx => by
    obtain ⟨t, f, d, cs, h1, h2, h3, h4, h5⟩ := h.h x hx
    exact ⟨t, f, d, cs, h1, ex_t e h2, dm h3 e, dm h4 e, h5⟩⟩
theorem St9.at_ {b r : Int} {many : Nat} {P dx : Nat → Addr} {CS : Nat → List (List Int)} (h : St9 K C b r many P dx L X Z CS hs G) (Mx : Mem) (k : Nat) (hk : k < 4) : ShAt K C G (mem9 L A X Z hl hs ++ Mx) (P k) b r (CS k) ∧ ColsAt K G (mem9 L A X Z hl hs ++ Mx) (A k) (CS k) ∧ GoodSh b r (CS k) :=
  ⟨⟨dx k, L k, X k, .G (h.sh k hk), .M (mem9_X hk), h.dX k hk⟩, ⟨Z k, .M (mem9_Z hk), h.dZ k hk⟩, (h.g k hk).1⟩
/-- a column set in one of them, in its due columns too -/
theorem St9.set {b r : Int} {many : Nat} {P dx : Nat → Addr} {CS : Nat → List (List Int)} (h : St9 K C b r many P dx L X Z CS hs G) {w j : Nat} {c : List Int} {y z : V} (hc : GoodCol b r c) (hy : Dp K G y (colD c)) (hz : Dp K G z (colD c)) :
    St9 K C b r many P dx L (SX.up X w ((X w).set j y)) (SX.up Z w ((Z w).set j z)) (SX.up CS w ((CS w).set j c)) hs G := by
  refine ⟨h.sh, fun k hk => ?_, fun k hk => ?_, fun k hk => ?_, h.h⟩
  · by_cases e : k = w
    · subst e
      rw [up_same, up_same, List.map_set]
      exact dpa_set (h.dX k hk) hy
    · rw [up_ne e, up_ne e]
      exact h.dX k hk
  · by_cases e : k = w
    · subst e
      rw [up_same, up_same, List.map_set]
      exact dpa_set (h.dZ k hk) hz
    · rw [up_ne e, up_ne e]
      exact h.dZ k hk
  · by_cases e : k = w
    · subst e
      rw [up_same]
      obtain ⟨g, hn⟩ := h.g k hk
      exact ⟨⟨g.b2, g.b12, g.r1, g.r4, by rw [List.length_set]; exact g.len, fun c' hc' => (List.mem_or_eq_of_mem_set hc').elim (g.col c') fun e => e ▸ hc⟩, by rw [List.length_set]; exact hn⟩
    · rw [up_ne e]
      exact h.g k hk
end
end SX
namespace SX
open PySem PySem.Spec L2
end SX
set_option Elab.async false
set_option linter.all false
set_option maxRecDepth 100000
namespace SX
open PySem PySem.Spec L2
end SX
namespace PySem.W
open PySem PySem.Calls PyProof.Rows
end PySem.W
namespace SX
open PySem PySem.Spec L2
section
variable {X : Cx} {CX : CXT} {k : Nat} {C D f : Addr} {fd : FuncData} {ps : List Str} {sp : Sp} {E : XK}
/-- one op other, of two own classes -/
def rBin2 (C D : Addr) (sp : Sp) (E : XK) : R2 := fun x y H Q => ∃ a dx fs b dy gs, x = .ref a ∧ y = .ref b ∧ H a = some (.ins C dx fs) ∧ H b = some (.ins D dy gs) ∧ sp [.ref a, .ref b] H Q E
end
def wrF (b l last : V) : List (Str × V) := putF "_last" last (putF "_figures" l (putF "_base" b []))
theorem s_bf : ¬ (("_base" : Str) = "_figures") := by decide +kernel
theorem s_bl : ¬ (("_base" : Str) = "_last") := by decide +kernel
theorem s_fl : ¬ (("_figures" : Str) = "_last") := by decide +kernel
theorem wrF_b {b l last : V} : (wrF b l last).lookup ("_base" : Str) = some b := by
  unfold wrF
  rw [lookup_putF, if_neg s_bl, lookup_putF, if_neg s_bf, lookup_putF, if_pos rfl]
theorem wrF_f {b l last : V} : (wrF b l last).lookup ("_figures" : Str) = some l := by
  unfold wrF
  rw [lookup_putF, if_neg s_fl, lookup_putF, if_pos rfl]
theorem wrF_l {b l last : V} : (wrF b l last).lookup ("_last" : Str) = some last := by
  unfold wrF
  rw [lookup_putF, if_pos rfl]
theorem wrF_no {b r l : V} {m : Str} (h1 : ¬ m = "_base") (h2 : ¬ m = "_figures") (h3 : ¬ m = "_last") : (wrF b l r).lookup m = none := by
  unfold wrF
  rw [lookup_putF, if_neg h3, lookup_putF, if_neg h2, lookup_putF, if_neg h1]
  rfl
/-- a result that stands still -/
def WrG (K : PySem.W.Frag) (C : Addr) (p : Addr) (b : Int) (figs : List Int) (last : Int) (G : Hp) : Prop := ∃ dx l xs, G p = some (.ins C dx (wrF (.int b) (.ref l) (.int last))) ∧ SqL K G l xs ∧ DpAll K G xs (figs.map .int)
theorem WrG.up {K : PySem.W.Frag} {C p : Addr} {b last : Int} {figs : List Int} {G G' : Hp} (h : WrG K C p b figs last G) (e : Ex G G') : WrG K C p b figs last G' := by
  obtain ⟨dx, l, xs, h1, h2, h3⟩ := h
  exact ⟨dx, l, xs, e _ _ h1, ex_l e h2, dma h3 e⟩
def WrFz (K : PySem.W.Frag) (C : Addr) (b : Int) (figs : List Int) (last : Int) (G : Hp) (v : V) : Prop := ∃ p, v = .ref p ∧ WrG K C p b figs last G
instance {K : PySem.W.Frag} {C : Addr} {b last : Int} {figs : List Int} : Mono (WrFz K C b figs last) := ⟨fun G G' v e h => by
  obtain ⟨p, h1, h2⟩ := h
  exact ⟨p, h1, h2.up e⟩⟩
abbrev wrPre (K : PySem.W.Frag) (C : Addr) : (Addr × Int × List Int × Int) → Hp → Mem → List V → Prop := fun x G M vs => vs = [.ref x.1] ∧ WrG K C x.1 x.2.1 x.2.2.1 x.2.2.2 G
abbrev wrGPre (K : PySem.W.Frag) (C : Addr) : (Addr × Int × List Int × Int) → Hp → Mem → List V → Prop := fun x G M vs => wrPre K C x G M vs ∧ (-(2 ^ 64) < x.2.1 ∧ x.2.1 < 2 ^ 64)
/-- made: x = (p, dx, base, figures, last); the figures may be owned -/
abbrev mkWrPre (K : PySem.W.Frag) (C : Addr) : (Addr × Addr × Int × List Int × Int) → Hp → Mem → List V → Prop := fun x G M vs => ∃ v M0, vs = [.ref x.1, .int x.2.2.1, v, .int x.2.2.2.2] ∧ M = M0 ++ [(x.1, .ins C x.2.1 [])] ∧ Dt K G M0 v (.list (x.2.2.2.1.map .int))
abbrev mkWrPost (K : PySem.W.Frag) (C : Addr) : (Addr × Addr × Int × List Int × Int) → Mem → Post := fun x M G v M' => v = .non ∧ ∃ l xs M0, M = M0 ++ [(x.1, .ins C x.2.1 [])] ∧ M' = M0 ++ [(x.1, .ins C x.2.1 (wrF (.int x.2.2.1) (.ref l) (.int x.2.2.2.2))), (l, .lst xs)] ∧ DpAll K G xs (x.2.2.2.1.map .int)
theorem ev_mkWr {K : PySem.W.Frag} {σ : L2.St} {G : Hp} {M M1 : Mem} {tA : TA} {E : XK} {C : Addr} {b last : Int} {figs : List Int} {Pv : Hp → V → Prop} (h : EvA tA σ G M [fun _ v => v = .int b, Pv, fun _ v => v = .int last] M1) (hd : ∀ G1 v, Ex G G1 → Pv G1 v → Dt K G1 M1 v (.list (figs.map .int))) :
    Ev (tMake C (spec (mkWrPre K C) (mkWrPost K C)) [] E tA) σ G M (isP (WrFz K C b figs last) M1) := by
  have h0 := ev_make (E := E) (C := C) (pre := mkWrPre K C) (post := mkWrPost K C) (R := fun G1 v M' => ∃ p dx l xs, v = .ref p ∧ M' = M1 ++ [(p, .ins C dx (wrF (.int b) (.ref l) (.int last))), (l, .lst xs)] ∧ DpAll K G1 xs (figs.map .int)) (fun p dx => (p, dx, b, figs, last)) h
    (fun G1 p dx vs e q => by
      obtain ⟨v1, v2, v3, rfl, p1, p2, p3⟩ := allP3 q
      subst p1 p3
      exact ⟨v2, M1, rfl, rfl, hd G1 v2 e p2⟩)
    (fun G1 p dx v M2 e q => by
      obtain ⟨rfl, l, xs, M0, e0, rfl, dd⟩ := q
      have := List.append_cancel_right e0
      subst this
      exact ⟨rfl, p, dx, l, xs, rfl, rfl, dd⟩)
  intro G1 H F e m Q q
  refine h0 G1 H F e m Q fun v G2 M2 H2 e2 m2 r2 => ?_
  obtain ⟨p, dx, l, xs, rfl, rfl, dd⟩ := r2
  have e0 : M1 ++ [(p, HO.ins C dx (wrF (.int b) (.ref l) (.int last))), (l, .lst xs)] = (M1 ++ [(p, HO.ins C dx (wrF (.int b) (.ref l) (.int last)))]) ++ [(l, .lst xs)] := by simp
  rw [e0] at m2
  obtain ⟨m3, e3⟩ := m2.freezeLast
  obtain ⟨m4, e4⟩ := m3.freezeLast
  exact q _ _ M1 H2 ((e2.trans e3).trans e4) m4 ⟨⟨p, rfl, dx, l, xs, upd_same, SqL.of (e4 _ _ upd_same), dma dd (e3.trans e4)⟩, rfl⟩
end SX
namespace SX
open PySem PySem.Spec L2
abbrev restPre (K : PySem.W.Frag) (C : Addr) : ((Addr × Int × List Int × Int) × Int) → Hp → Mem → List V → Prop := fun x G M vs => vs = [.ref x.1.1, .int x.2] ∧ WrG K C x.1.1 x.1.2.1 x.1.2.2.1 x.1.2.2.2 G ∧ (-(2 ^ 64) < x.1.2.1 ∧ x.1.2.1 < 2 ^ 64) ∧ 0 < x.2
abbrev restPost : ((Addr × Int × List Int × Int) × Int) → Mem → Post := fun x M => isV (.int (horner x.1.2.1 x.1.2.2.1 x.1.2.2.2 % x.2)) M
end SX
namespace SX
open PySem PySem.Spec L2
abbrev wsubPre (K : PySem.W.Frag) (C D : Addr) : ((Addr × Int × List Int × Int) × (Addr × Int × Int × List (List Int))) → Hp → Mem → List V → Prop := fun x G M vs => vs = [.ref x.1.1, .ref x.2.1] ∧ WrG K C x.1.1 x.1.2.1 x.1.2.2.1 x.1.2.2.2 G ∧ ShAt K D G M x.2.1 x.2.2.1 x.2.2.2.1 x.2.2.2.2 ∧ (-(2 ^ 64) < x.1.2.1 ∧ x.1.2.1 < 2 ^ 64) ∧ (-(2 ^ 64) < x.2.2.1 ∧ x.2.2.1 < 2 ^ 64) ∧ x.2.2.2.2.length ≤ 100000
abbrev wsubPost : ((Addr × Int × List Int × Int) × (Addr × Int × Int × List (List Int))) → Mem → Post := fun x M => isV (.int (horner x.1.2.1 x.1.2.2.1 x.1.2.2.2 - valueOf x.2.2.1 x.2.2.2.2)) M
abbrev weqPre (K : PySem.W.Frag) (C : Addr) : ((Addr × Int × List Int × Int) × (Addr × Int × List Int × Int)) → Hp → Mem → List V → Prop := fun x G M vs => vs = [.ref x.1.1, .ref x.2.1] ∧ WrG K C x.1.1 x.1.2.1 x.1.2.2.1 x.1.2.2.2 G ∧ WrG K C x.2.1 x.2.2.1 x.2.2.2.1 x.2.2.2.2 G
abbrev weqPost : ((Addr × Int × List Int × Int) × (Addr × Int × List Int × Int)) → Mem → Post := fun x M => isV (.bl (decide (x.1.2 = x.2.2))) M
end SX
namespace SX
open PySem PySem.Spec L2
end SX
namespace SX
open PySem PySem.Spec L2
theorem atI_last {α : Type} {xs : List α} {x : α} (h : xs.getLast? = some x) : atI xs (-1) = some x := by
  rw [List.getLast?_eq_getElem?] at h
  have hl : xs.length - 1 < xs.length := (List.getElem?_eq_some_iff.mp h).1
  unfold atI ixN
  rw [if_neg (by decide), if_pos (by omega)]
  show xs[((-1 : Int) + xs.length).toNat]? = some x
  rw [show ((-1 : Int) + xs.length).toNat = xs.length - 1 by omega]
  exact h
end SX
set_option Elab.async false
set_option linter.all false
set_option maxRecDepth 100000
namespace SX
open PySem PySem.Spec L2
/-- where a sheet stands in the order -/
def placeD (b r : Int) (cs : List (List Int)) : PyData := .tuple [.int b, .int r, .int (cs.length : Int), .list (cs.map colD)]
end SX
namespace SX
open PySem PySem.Spec L2
section
variable {K : PySem.W.Frag} {σ : L2.St} {G : Hp} {M M1 M2 : Mem} {ta tb : TE} {E : XK} {C : Addr}
/-- the tuple that is compared -/
def PlF (l : Addr) (n : Nat) (b r : Int) (G : Hp) (v : V) : Prop := ∃ t, v = .ref t ∧ G t = some (.tup [.int b, .int r, .int (n : Int), .ref l])
instance {l : Addr} {n : Nat} {b r : Int} : Mono (PlF l n b r) := ⟨fun G G' v e h => by
  obtain ⟨t, h1, h2⟩ := h
  exact ⟨t, h1, e _ _ h2⟩⟩
/-- two sheets compared -/
abbrev cmpPre (K : PySem.W.Frag) (C : Addr) : ((Addr × Int × Int × List (List Int)) × (Addr × Int × Int × List (List Int))) → Hp → Mem → List V → Prop := fun x G M vs => vs = [.ref x.1.1, .ref x.2.1] ∧ ShAt K C G M x.1.1 x.1.2.1 x.1.2.2.1 x.1.2.2.2 ∧ ShAt K C G M x.2.1 x.2.2.1 x.2.2.2.1 x.2.2.2.2
abbrev cmpPost (f : PyData → PyData → Bool) : ((Addr × Int × Int × List (List Int)) × (Addr × Int × Int × List (List Int))) → Mem → Post := fun x M => isV (.bl (f (placeD x.1.2.1 x.1.2.2.1 x.1.2.2.2) (placeD x.2.2.1 x.2.2.2.1 x.2.2.2.2))) M
end
end SX
namespace SX
open PySem PySem.Spec L2
end SX
namespace SX
open PySem PySem.Spec L2
end SX
namespace SX
open PySem PySem.Spec L2
end SX
namespace SX
open PySem PySem.Spec L2
end SX
set_option Elab.async false
set_option linter.all false
set_option maxRecDepth 100000
namespace SX
open PySem PySem.Spec L2 PyProof.Rows
/-- what a set asks of what it may take -/
structure Elem (P : Program) (w : World) (κ : Type) [DecidableEq κ] where
  is : Heap → κ → Addr → Prop
  code : κ → Int
  toks : κ → Nat
  eqB : ∀ {A : Around} {E : Value → Shared → Prop} {s : Shared} {x y : κ} {a b : Addr} {Q : Bool → Shared → Prop}, A.units < cLine → is s.heap x a → is s.heap y b → Q (decide (x = y)) s → wpAny (model P w) A (eqBool (.ref a) (.ref b)) Q E s
  hash : ∀ {A : Around} {E : Value → Shared → Prop} {s : Shared} {x : κ} {a : Addr} {Q : Int → Shared → Prop}, A.units < cLine → is s.heap x a → Q (code x) { s with toks := s.toks + toks x } → wpAny (model P w) A (pyHash (.ref a)) Q E s
  quiet : ∀ {A : Around} {E : Value → Shared → Prop} {s : Shared} {x : κ} {a : Addr} {Q : Bool → Shared → Prop}, is s.heap x a → Q true s → wpAny (model P w) A (eqIsQuiet 8 (.ref a)) Q E s
  noCls : ∀ {A : Around} {E : Value → Shared → Prop} {s : Shared} {x : κ} {a : Addr} {Q : Bool → Shared → Prop}, is s.heap x a → Q false s → wpAny (model P w) A (ofAClassStatement 8 (.ref a)) Q E s
  byVal : ∀ {A : Around} {E : Value → Shared → Prop} {s : Shared} {x : κ} {a : Addr} {Q : Bool → Shared → Prop}, is s.heap x a → (∀ b, Q b s) → wpAny (model P w) A (hashByValue 8 (.ref a)) Q E s
  but : ∀ {h h' : Heap} {x : κ} {b a : Addr} {o : Obj} {es : Array (Int × Value)} {ep : Nat} {t : SetTable}, is h x b → h.get? a = some o → o.data = .set es ep t → Heap.SameBut a h h' → is h' x b
  keep : ∀ {h h' : Heap} {x : κ} {b : Addr}, is h x b → (∀ c o, h.get? c = some o → h'.get? c = some o) → is h' x b
section
variable {P : Program} {w : World} {κ : Type} [DecidableEq κ] (e : Elem P w κ) {A : Around} {E : Value → Shared → Prop} {s : Shared} {a : Addr} {L : List (Addr × κ)} {es : Array (Int × Value)} {ep : Nat} {t : SetTable}
def codes (L : List (Addr × κ)) : List Int := L.map fun p => e.code p.2
def entries (L : List (Addr × κ)) : List (Int × Value) := L.map fun p => (e.code p.2, Value.ref p.1)
/-- at a: a set that has just these -/
structure SetE (h : Heap) (a : Addr) (L : List (Addr × κ)) (es : Array (Int × Value)) (ep : Nat) (t : SetTable) : Prop where
  obj : ∃ o, h.get? a = some o ∧ o.ExactSet ∧ o.data = .set es ep t
  ent : es.toList = entries e L
  tab : TabOk t (codes e L)
  dif : (L.map (·.2)).Nodup
  mem : ∀ p ∈ L, e.is h p.2 p.1
  led : w.params.followText "set-order" = true ∨ t.led = true
  gap : 5 * L.length < 3 * t.mask
  few : L.length ≤ 60
variable {e}
theorem SetE.esz (R : SetE e s.heap a L es ep t) : es.size = L.length := by
  rw [← Array.length_toList, R.ent, entries, List.length_map]
theorem SetE.psz (R : SetE e s.heap a L es ep t) : t.place.size = L.length := by
  rw [R.tab.sz, codes, List.length_map]
theorem SetE.fit (R : SetE e s.heap a L es ep t) : t.fits es.size = true := by
  have h1 := R.psz
  have h2 := R.esz
  have h3 := R.gap
  simp only [SetTable.fits, SetTable.fill, R.tab.dm, Bool.and_eq_true, beq_iff_eq, decide_eq_true_eq]
  exact ⟨by omega, by simp only [List.size_toArray, List.length_nil]; omega⟩
theorem SetE.row (R : SetE e s.heap a L es ep t) {i : Nat} {p : Addr × κ} (h : L[i]? = some p) : es[i]? = some (e.code p.2, Value.ref p.1) := by
  have h2 : es.toList[i]? = some (e.code p.2, Value.ref p.1) := by rw [R.ent, entries, List.getElem?_map, h]; rfl
  simpa using h2
theorem SetE.code_at (R : SetE e s.heap a L es ep t) {i : Nat} {p : Addr × κ} (h : L[i]? = some p) : (es[i]?.map (·.1)).getD 0 = e.code p.2 := by
  rw [R.row h]
  rfl
theorem no_dummy (m : Nat) : ∀ (n : Nat) (p : SetTable.Probe), p.dummy = none → (nth m p n).dummy = none
  | 0, _, h => h
  | n + 1, p, h => no_dummy m n (adv m p) (by unfold adv; split <;> exact h)
abbrev startP (m : Nat) (c : Int) : SetTable.Probe := runAt m (SetTable.bits c % (m + 1)) (SetTable.bits c)
/-- asked of a list of such values, a search shows nothing -/
theorem unseen {k : κ} {b : Addr} (hk : e.is s.heap k b) {ys : List Value} (hy : ∀ y ∈ ys, ∃ k' c, y = Value.ref c ∧ e.is s.heap k' c) {Q : Bool → Shared → Prop} (h : Q false s) : wpAny (model P w) A (searchCouldBeSeen (.ref b) ys) Q E s := by
  unfold searchCouldBeSeen
  apply wpAny_bind
  refine wpAny_forIn_list _ (fun left r s' => (r.1 = none ∧ s' = s) ∧ ∀ y ∈ left, ∃ k' c, y = Value.ref c ∧ e.is s.heap k' c) _ ?_ ?_ _ _ ⟨⟨rfl, rfl⟩, hy⟩
  · rintro v left r s' ⟨⟨hr, rfl⟩, hall⟩
    obtain ⟨k', c, rfl, hc⟩ := hall v List.mem_cons_self
    have next := fun y (h' : y ∈ left) => hall y (List.mem_cons_of_mem _ h')
    dsimp only
    split
    · exact wpAny_pure ⟨⟨rfl, rfl⟩, next⟩
    · apply wpAny_bind
      apply e.quiet hk
      simp only [Bool.not_true, Bool.false_eq_true, if_false]
      apply wpAny_bind
      apply e.quiet hc
      simp only [Bool.not_true, Bool.false_eq_true, if_false]
      apply wpAny_bind
      apply e.noCls hk
      simp only [Bool.false_eq_true, if_false]
      apply wpAny_bind
      apply e.noCls hc
      simp only [Bool.false_eq_true, if_false]
      exact wpAny_pure ⟨⟨rfl, rfl⟩, next⟩
  · rintro ⟨r1, r2⟩ s' ⟨⟨hr, rfl⟩, _⟩
    cases (show r1 = none from hr)
    exact wpAny_pure h
/-- the search, from its c-th step on: what is sought is there, or a free place is found -/
theorem SetE.look (R : SetE e s.heap a L es ep t) {x : Addr} {k : κ} (hx : e.is s.heap k x) (hu : A.units < cLine) {m : Nat} (hm : t.mask = m) {K : Nat} (hKf : K < 10 * SetTable.turns m) (hK : way m (e.code k) K ∉ t.place.toList) (hKb : ∀ c, c < K → way m (e.code k) c ∈ t.place.toList)
    {Q : SetFound → Shared → Prop} (yes : k ∈ L.map (·.2) → Q (.there none) s) (no : k ∉ L.map (·.2) → Q (.free (way m (e.code k) K) false) s) :
    ∀ (f c : Nat) (st : Option SetTable.Probe), st.getD (t.probeStart (e.code k)) = nth m (startP m (e.code k)) c → c ≤ K → K < f + c → (∀ (i : Nat) (p : Addr × κ), L[i]? = some p → p.2 = k → ∃ c', (c ≤ c' ∧ c' < K) ∧ t.place.toList[i]? = some (way m (e.code k) c')) →
      wpAny (model P w) A (setSearchFrom a (.ref x) (e.code k) true f st) Q E s := by
  subst hm
  obtain ⟨o, ho, hex, hd⟩ := R.obj
  intro f
  induction f with
  | zero => intro c st _ h1 h2; omega
  | succ f ih =>
    intro c st hst hc hf hre
    have hnd := no_dummy t.mask c (startP t.mask (e.code k)) rfl
    have hj : ∀ q, (nth t.mask (nth t.mask (startP t.mask (e.code k)) c) q).j = way t.mask (e.code k) (c + q) := fun q => by rw [← nth_add]
    have spec := go_spec t R.tab.ris R.tab.dm (fun i => (es[i]?.map (·.1)).getD 0) (e.code k) (10 * SetTable.turns t.mask) (K - c) _ hnd (by omega) (fun q hq => by rw [hj]; exact hKb _ (by omega)) (by rw [hj, Nat.add_sub_cancel' hc]; exact hK)
    rw [setSearchFrom_succ]
    apply wpAny_bind
    refine wpAny_setState_of ho hd R.fit ?_
    dsimp only
    refine wp_if_neg (by unfold SetTable.gaveWay; rw [mask_odd R.tab.mok]; decide) ?_
    try apply wpAny_bind; apply wpAny_pure
    rcases spec with ⟨q, i, hq, hi, hh, hfst, hpr⟩ | ⟨hnone, hpr⟩
    · -- a place with the same code
      have hpr2 : t.probe (fun i => (es[i]?.map (·.1)).getD 0) (e.code k) (st.getD (t.probeStart (e.code k))) = some (.candidate (way t.mask (e.code k) (c + q)) i (nth t.mask (startP t.mask (e.code k)) (c + (q + 1)))) := by
        rw [hst, ← hj q, nth_add t.mask c _ (q + 1)]
        exact hpr
      rw [hpr2]
      dsimp only
      rw [hj] at hi
      have hiL : i < L.length := by
        have := (List.getElem?_eq_some_iff.mp hi).1
        rw [Array.length_toList, R.psz] at this
        exact this
      obtain ⟨p, hp⟩ : ∃ p, L[i]? = some p := ⟨_, List.getElem?_eq_getElem hiL⟩
      have hpL := List.mem_of_getElem? hp
      have live := slot_live R.tab.ris hi
      have body : wpAny (model P w) A (searchRest a (.ref x) (e.code k) true f es t (way t.mask (e.code k) (c + q)) i (nth t.mask (startP t.mask (e.code k)) (c + (q + 1)))) Q E s := by
        unfold searchRest
        rw [R.row hp]
        dsimp only
        apply wpAny_bind
        apply wpAny_holding
        apply e.eqB hu (R.mem p hpL) hx
        apply wpAny_bind
        refine wpAny_setState_of ho hd R.fit ?_
        dsimp only
        by_cases hkk : p.2 = k
        · rw [decide_eq_true hkk]
          exact wp_if_pos rfl (wpAny_pure (yes (List.mem_map.mpr ⟨p, hpL, hkk⟩)))
        · rw [decide_eq_false hkk]
          refine wp_if_neg (by decide) ?_
          try apply wpAny_bind; apply wpAny_pure
          have hsm : t.sameMemory t.moves t.mask = some true := by simp [SetTable.sameMemory]
          rw [hsm]
          simp only [if_true, live, R.row hp]
          apply wpAny_bind
          apply wpAny_isSame_ref_self
          apply wpAny_bind
          apply wpAny_pure
          simp only [if_true]
          refine wp_if_neg (by decide) ?_
          refine ih (c + (q + 1)) _ rfl (by omega) (by omega) fun i0 p0 h0 hk0 => ?_
          obtain ⟨c', ⟨b1, b2⟩, b3⟩ := hre i0 p0 h0 hk0
          refine ⟨c', ⟨?_, b2⟩, b3⟩
          rcases Nat.lt_trichotomy c' (c + q) with z | z | z
          · refine absurd ((R.code_at h0).trans (by rw [hk0])) (hfst (c' - c) i0 (by omega) ?_)
            rw [hj, Nat.add_sub_cancel' b1]
            exact b3
          · exfalso
            subst z
            have l2 := slot_live R.tab.ris b3
            rw [live] at l2
            cases l2
            rw [hp] at h0
            cases h0
            exact hkk hk0
          · omega
      by_cases hl : t.led = true
      · refine wp_if_neg (by rw [hl]; decide) ?_
        try apply wpAny_bind; apply wpAny_pure
        exact body
      · refine wp_if_pos (by simpa using hl) ?_
        apply wpAny_bind
        refine unseen hx (fun y hy => ?_) ?_
        · simp only [List.mem_map, Array.mem_toList_iff, Array.mem_filter] at hy
          obtain ⟨en, ⟨hen, _⟩, rfl⟩ := hy
          have hen : en ∈ es.toList := by simpa using hen
          rw [R.ent, entries, List.mem_map] at hen
          obtain ⟨p2, h2, rfl⟩ := hen
          exact ⟨p2.2, p2.1, rfl, R.mem p2 h2⟩
        · refine wp_if_neg (by decide) ?_
          try apply wpAny_bind; apply wpAny_pure
          exact body
    · -- a free place
      have hpr2 : t.probe (fun i => (es[i]?.map (·.1)).getD 0) (e.code k) (st.getD (t.probeStart (e.code k))) = some (.empty (way t.mask (e.code k) K) none) := by
        rw [hst, show way t.mask (e.code k) K = way t.mask (e.code k) (c + (K - c)) by rw [Nat.add_sub_cancel' hc], ← hj]
        exact hpr
      rw [hpr2]
      dsimp only
      refine wpAny_pure (no fun hm => ?_)
      obtain ⟨p0, h0, hk0⟩ := List.mem_map.mp hm
      obtain ⟨i0, h00⟩ := List.mem_iff_getElem?.mp h0
      obtain ⟨c', ⟨b1, b2⟩, b3⟩ := hre i0 p0 h00 hk0
      refine absurd ((R.code_at h00).trans (by rw [hk0])) (hnone (c' - c) i0 (by omega) ?_)
      rw [hj, Nat.add_sub_cancel' b1]
      exact b3
end
end SX
namespace SX
open PySem PySem.Spec L2 PyProof.Rows
end SX
namespace SX
open PySem PySem.Spec L2 PyProof.Rows
section
variable {P : Program} {w : World} {κ : Type} [DecidableEq κ] {e : Elem P w κ} {A : Around} {E : Value → Shared → Prop} {s : Shared}
/-- what is taken of the first i -/
def Tkn (ks : List (Addr × κ)) (i : Nat) (L : List (Addr × κ)) : Prop := (∀ p ∈ L, p ∈ ks.take i) ∧ (∀ p ∈ ks.take i, p.2 ∈ L.map (·.2)) ∧ L.length ≤ i
theorem Tkn.start (ks : List (Addr × κ)) : Tkn ks 0 [] := And.intro (fun _ h => by cases h) (And.intro (fun _ h => by rw [List.take_zero] at h; cases h) (Nat.le_refl _))
end
end SX
namespace SX
open PySem PySem.Spec L2 PyProof.Rows
end SX
set_option Elab.async false
set_option linter.all false
set_option maxRecDepth 100000
namespace SX
open PySem PySem.Spec L2 PyProof.Rows
end SX
set_option Elab.async false
set_option linter.all false
set_option maxRecDepth 100000
namespace SX
open PySem PySem.Spec PyProof.Rows L2
end SX
namespace SX
open PySem PySem.Spec L2
end SX
set_option Elab.async false
set_option linter.all false
set_option maxRecDepth 100000
namespace SX
open PySem PySem.Spec L2 PyProof.Rows
/-- the context of such an __init__'s body: the cell of its class is a free name -/
def cxS (CX : CXT) (P : Program) (w : World) (K : PySem.W.Frag) (mg : Str → Option Value) (base : Heap) (N : List Str) (qual : Str) (scope : Scope) (f : Addr) (cd : Value) (cc : Addr) (A : Around) (outer : List Env) (s : Shared) (H : Hp) (E : XK) : Cx where
  prog := P
  w := w
  K := K
  mg := mg
  base := base
  A := A.deeper (PySem.W.ksEnv qual scope s.heap.objs.size f cd cc)
  N := N
  s_0 := s
  H_0 := H
  env := PySem.W.ksEnv qual scope s.heap.objs.size f cd cc
  outer := outer
  stack := PySem.W.ksEnv qual scope s.heap.objs.size f cd cc :: outer
  ex := []
  calm := true
  fn := fun _ => false
  pn := []
  xe := fun e s' => wpAny (model P w) (A.deeper (PySem.W.ksEnv qual scope s.heap.objs.size f cd cc)) (leaving (PySem.W.ksEnv qual scope s.heap.objs.size f cd cc) e) (fun _ s'' => CX outer H s E e s'') (fun e' s'' => CX outer H s E e' s'') s'
theorem inv_startS {CX : CXT} {P : Program} {w : World} {K : PySem.W.Frag} {mg : Str → Option Value} {base : Heap} {qual : Str} {scope : Scope} {f cc : Addr} {cd : Value} {A : Around} {outer : List Env} {s : Shared} {H : Hp} {E : XK} {u0 u1 : Value} {v0 v1 : V} {h1 : Heap} {tk : Nat} {oc : Obj} {cv : Option Value}
    (hkind : scope.kind = .function) (hf : ∀ x, scope.names.lookup x = some .cell ∨ scope.names.lookup x = some .free → x = "__class__") (h0 : scope.names.lookup ("self" : Str) = some .local) (h1' : scope.names.lookup ("index" : Str) = some .local)
    (hcc : base.get? cc = some oc) (hoc : oc.data = .cell cv) (hd : A.handled = none) (e0 : Env0 P w K mg base A outer s H) (r0 : RelV v0 u0) (r1 : RelV v1 u1)
    (hns : h1.Ns s.heap.objs.size (fun x => [(("self" : Str), u0), ("index", u1)].reverse.lookup x)) (hk : ∀ b o, s.heap.get? b = some o → h1.get? b = some o) :
    Inv (cxS CX P w K mg base ["self", "index"] qual scope f cd cc A outer s H E) [] [some v0, some v1] H { s with heap := h1, toks := tk } := by
  have noA : ∀ b : Addr, b ∉ (cxS CX P w K mg base ["self", "index"] qual scope f cd cc A outer s H E).ex := fun b z => absurd (show b ∈ ([] : List Addr) from z) (by simp)
  have lk : ∀ (x : Str) (c : Addr), List.lookup x [(("__class__" : Str), cc)] = some c → x = "__class__" ∧ c = cc := fun x c z => by
    simp only [List.lookup] at z
    split at z
    · rename_i q
      exact ⟨by simpa using q, (Option.some.inj z).symm⟩
    · cases z
  refine ⟨⟨e0.mod, hkind, rfl, rfl, Nat.le_refl _, fun y z c h1 h2 => ?_, fun y hy => ?_, fun y c hh h => absurd hh (by show ¬ (false = true); decide), fun _ => hd, Around.frames_deeper e0.frames, .inr ⟨rfl, rfl⟩, fun b z => absurd z (noA b), e0.bs, e0.bsz, fun b _ _ => noA b, fun b z => absurd z (noA b), e0.funs, e0.frf⟩,
    rfl, e0.bare, Un.kept hk, ⟨_, hns, fun i y v h1 h2 h3 => ?_⟩, fun y c h => ?_, e0.hok.fresh (Nat.le_refl _), fun y c h => ?_, fun p hp => absurd (show p ∈ ([] : List (Addr × Obj)) from hp) (by simp), e0.hok.kept hk, rfl⟩
  · exact (lk y c h1).1.trans (lk z c h2).1.symm
  · have e : y = "__class__" := hf y hy
    subst e
    exact ⟨cc, rfl⟩
  · match i, h1, h2 with
    | 0, h1, h2 =>
      cases h1
      cases h2
      exact ⟨u0, r0, .inl ⟨h0, by rfl⟩⟩
    | 1, h1, h2 =>
      cases h1
      cases h2
      exact ⟨u1, r1, .inl ⟨h1', by rfl⟩⟩
    | n + 2, h1, h2 => cases h1
  · obtain ⟨_, rfl⟩ := lk y c h
    exact ⟨cv, oc, hk _ _ (e0.bs _ _ hcc).1, hoc⟩
  · obtain ⟨_, rfl⟩ := lk y c h
    exact (e0.bs _ _ hcc).2
section
variable {X : Cx} {pins : List (Addr × Obj)} {σ : L2.St} {H : Hp} {s : Shared} {a C u : Addr} {us : List Value} {Q : Value → Shared → Prop} {E : Value → Shared → Prop} {A : Around}
/-- the bound ValueError.__init__ is called: nothing of it is told -/
theorem call_mw (T : OexC X.K C) (I : Inv X pins σ H s) (e : H a = some (exo a C none)) (hu : s.heap.get? u = some (PySem.W.kxs_mw "ValueError.__init__" a)) (hl : us.length ≤ sizeLine) (h : ∀ s', Inv X pins σ H s' → Q .none s') :
    wpAny (model X.prog X.w) A (call (.ref u) us) Q E s := by
  obtain ⟨nm, q, N, bs, bm, sn, sub, ab, col, dd, k0, k1, k2, k3, k5, hC, hbm⟩ := T.cls
  obtain ⟨t1, ho⟩ := exo_at I.hok e
  obtain ⟨hp, g, d, t, os⟩ := s
  refine wpAny_call (codeAny_of_tree ?_)
  show wpAny _ A.in1 (callAny (.ref u) ⟨us, []⟩) _ _ _
  simp only [callAny]
  refine wpAny_bind (wpAny_load hu ?_)
  simp only [PySem.W.kxs_mw, show (Value.type "method-wrapper" == Value.type "method" || Value.type "method-wrapper" == Value.type "builtin_function_or_method" || Value.type "method-wrapper" == Value.type "method-wrapper") = true by decide, if_true]
  refine PySem.W.KFB.if_so (by decide) ?_
  refine wpAny_bind (PySem.W.check_bound_init F.excBase_ValueError.toExcCallFacts (I.kIn _ _ hC) ho rfl ?_)
  refine wpAny_bind (wpAny_pure (wpAny_pure ?_))
  refine ⟨plainId_quiet F.excBase_ValueError.init.plain _, codeAny_builtin F.excBase_ValueError.initEntry ?_⟩
  rw [Around.under_plainId F.excBase_ValueError.init.plain _]
  have fin : ∀ h', (∀ b o, b ≠ a → hp.get? b = some o → h'.get? b = some o) → (∃ t2 : Addr, h'.get? a = some (PySem.W.excObj C t2 none .none)) → Q .none ⟨h', g, d, t, os⟩ := fun h' k ⟨t2, hx⟩ => by
    have J := I.write (t' := t) (x := a) (e := a) (o := exo a C none) (by rw [e]; exact True.intro) (.inl rfl) k ⟨_, hx⟩ (exo_ok hx)
    have eu : upd H a (exo a C none) = H := by
      funext b
      by_cases hb : b = a
      · rw [hb, upd_same, e]
      · rw [upd_ne hb]
    rw [eu] at J
    exact h _ J
  exact PySem.W.exc_init_tree (cls := .ref C) (t0 := t1) (dv := none) (c2 := .none) (c3 := .none) (b4 := .bool false) ho hl fun h' k hx _ => fin h' k ⟨_, hx⟩
end
/-- what the text says of the class and of its __init__ -/
structure SupC (P : Program) (K : PySem.W.Frag) (mg : Str → Option Value) (C f : Addr) (fd : FuncData) (qual : Str) (st : Stmt) : Prop where
  fn : ∃ oc od osl dV kV doc pm ct cc cda, ∃ an : Option Addr, K.lookup f = some ⟨oc, od, .func fd, osl⟩ ∧ fd = PySem.W.ksFn "__init__" qual (defArgs st) (defBody st) (defScope st) dV kV doc pm an (.ref cda) ct cc ∧
    PySem.W.codeIn K (.ref cda) qual = true ∧ (∃ ccl cdd ccs file tf, ∃ vs : Array Value, K.lookup cda = some ⟨ccl, cdd, .fields vs, ccs⟩ ∧ vs[2]? = some (.str file tf) ∧ ((P.main.file : Str) == file) = true) ∧
    ∃ cl cld csl, K.lookup cc = some ⟨cl, cld, .cell (some (.ref C)), csl⟩
  T : OexC K C
  sub : PySem.W.mroIn K C (.ref C) = some true
  sup : mg "super" = none
  sb : PySem.W.subIn K (.ref C) (.type "ValueError") = some true
  si : PySem.W.ks_superIn K C C "__init__" = some (some (.builtin "ValueError.__init__"))
  tp : PySem.W.nsIn K cStatics "thirdparty.any" = some none
  no : PySem.W.findIn K (.ref C) "index" = some none
  top : (P.main.scope.names.lookup ("super" : Str)).isSome = false
/-- the def's scope and form -/
structure SupS (st : Stmt) : Prop where
  kind : (defScope st).kind = .function
  co : (defScope st).isCoroutine = false
  gen : (defScope st).isGenerator = false
  cell : ∀ x ∈ (defScope st).names, x.2 ≠ .cell
  free : ∀ x ∈ (defScope st).names, x.2 = .free → x.1 = "__class__"
  self : (defScope st).names.lookup ("self" : Str) = some .local
  index : (defScope st).names.lookup ("index" : Str) = some .local
  cls : (defScope st).names.lookup ("__class__" : Str) = some .free
  sup : (defScope st).names.lookup ("super" : Str) = some .globalImplicit
  par : ∃ ar, ((defArgs st).posonlyargs ++ (defArgs st).args).head? = some ar ∧ ar.arg = "self"
  body : ∃ t1 t2 n1 n2, ∃ p0 p1 p2 p3 p4 p5 p6 p7 p8 p9 q0 q1 q2 q3 : Pos,
    defBody st = [.Expr (.Call (.Attribute (.Call (.Name "super" p0) [] [] p1) "__init__" p2) [.JoinedStr [.Constant (.str t1) n1 p5, .FormattedValue (.Name "index" p6) (-1) none p7, .Constant (.str t2) n2 p8] p9] [] p3) p4,
      .Assign [.Attribute (.Name "self" q0) "index" q1] (.Name "index" q2) q3] ∧ t1.length ≤ 1000 ∧ t2.length ≤ 1000 ∧
    (∀ (qual : Str) (L f cc : Addr) (cd : Value), ∃ pl, eval (.Call (.Attribute (.Call (.Name "super" p0) [] [] p1) "__init__" p2) [.JoinedStr [.Constant (.str t1) n1 p5, .FormattedValue (.Name "index" p6) (-1) none p7, .Constant (.str t2) n2 p8] p9] [] p3) (PySem.W.ksEnv qual (defScope st) L f cd cc) = (do
      let ov ← attributeBase (.Call (.Name "super" p0) [] [] p1) "__init__" (PySem.W.ksEnv qual (defScope st) L f cd cc) (eval (.Call (.Name "super" p0) [] [] p1) (PySem.W.ksEnv qual (defScope st) L f cd cc))
      standAt p2.atName
      let (fx, first) ← holding [ov] (getMethod ov "__init__" pl)
      callWith p3 fx first (backTo p3 (starEach [.JoinedStr [.Constant (.str t1) n1 p5, .FormattedValue (.Name "index" p6) (-1) none p7, .Constant (.str t2) n2 p8] p9] (PySem.W.ksEnv qual (defScope st) L f cd cc))) [])) ∧
    (∀ (qual : Str) (L f cc : Addr) (cd : Value), swapsWith (.Call (.Attribute (.Call (.Name "super" p0) [] [] p1) "__init__" p2) [.JoinedStr [.Constant (.str t1) n1 p5, .FormattedValue (.Name "index" p6) (-1) none p7, .Constant (.str t2) n2 p8] p9] [] p3) none p4.line (PySem.W.ksEnv qual (defScope st) L f cd cc) = pure false) ∧
    (∀ (qual : Str) (L f cc : Addr) (cd : Value), swapsWith (.Name "index" q2) (some (.Attribute (.Name "self" q0) "index" q1)) q3.line (PySem.W.ksEnv qual (defScope st) L f cd cc) = pure false)
/-- self is a new one, index an integer: it bears it then -/
def spIdx (C : Addr) : Sp := fun vs H Q E => ∃ (a : Addr) (i : Int), vs = [.ref a, .int i] ∧ 0 ≤ i ∧ i < 1000 ∧ H a = some (exo a C none) ∧ ∀ dx, H dx = none → dx ≠ a → Q .non (upd (upd H dx (exd dx [("index", .int i)])) a (exo a C (some dx)))
theorem text_of_small : ∀ i : Fin 1000, (toString (i.val : Int) : Str).length ≤ 3 := by decide +kernel
section
open PySem.W
variable {CX : CXT} {P : Program} {w : World} {K : PySem.W.Frag} {mg : Str → Option Value} {base : Heap} {k : Nat} {f C : Addr} {fd : FuncData} {qual : Str} {st : Stmt}
theorem fn_super (S : SupC P K mg C f fd qual st) (Z : SupS st) : FnOk P w K mg base CX (k + 1) f fd ["self", "index"] (spIdx C) := by
  refine ⟨fun vs H Q E h => by obtain ⟨a, i, rfl, _⟩ := h; rfl, fun A outer s H args us vs Q E hr e0 hb r hsp => ?_⟩
  obtain ⟨a, i, rfl, hi0, hi1, ea, hq⟩ := hsp
  cases r with
  | @cons _ u0 _ ur ra rr =>
  cases rr with
  | @cons _ u1 _ ur2 rb rr =>
  cases rr
  obtain ⟨oc, od, osl, dV, kV, doc, pm, ct, cc, cda, an, lk, hfd, hcd, ⟨ccl, cdd, ccs, file, tf, cvs, hcode, hvs, hfile⟩, ⟨cl, cld, csl, hcell⟩⟩ := S.fn
  subst hfd
  obtain ⟨ar, har, harg⟩ := Z.par
  obtain ⟨t1, t2, n1, n2, p0, p1, p2, p3, p4, p5, p6, p7, p8, p9, q0, q1, q2, q3, hbody, hl1, hl2, hev, hw1, hw2⟩ := Z.body
  have KX : K.In s.heap := e0.mod.kin.keeps fun b o e => (e0.bs b o e).1
  have lim : s.heap.NoLimit := e0.mod.nolimit.keeps fun b o e => (e0.bs b o e).1
  refine ks_codeAny_call_defAt (binds := [(("self" : Str), u0), ("index", u1)]) hr.depth (KX _ _ lk) rfl lim (codeRec_of KX hcd) rfl hb Z.cell (fun x hx => ?_) (fun h1 hns hk => ?_) Z.co Z.gen Z.kind
  · simp only [List.mem_cons, List.not_mem_nil, or_false] at hx
    rcases hx with rfl | rfl
    · exact Z.self
    · exact Z.index
  have I : L2.Inv (cxS CX P w K mg base ["self", "index"] qual (defScope st) f (.ref cda) cc A outer s H E) [] [some (.ref a), some (.int i)] H { s with heap := h1, toks := s.toks + 2 } :=
    inv_startS Z.kind (fun x hx => by
      rcases hx with hx | hx
      · exact absurd rfl (Z.cell _ (PySem.mem_of_lookup hx))
      · exact Z.free _ (PySem.mem_of_lookup hx) rfl) Z.self Z.index (e0.mod.kin _ _ hcell) rfl hr.hd e0 ra rb hns hk
  show _root_.PySem.wpAt (model P w) (A.deeper (ksEnv qual (defScope st) s.heap.objs.size f (.ref cda) cc)) (.func (defBody st) (ksEnv qual (defScope st) s.heap.objs.size f (.ref cda) cc)) (execs (defBody st) (ksEnv qual (defScope st) s.heap.objs.size f (.ref cda) cc)) _ _ _
  rw [hbody]
  obtain ⟨pl, hev⟩ := hev qual s.heap.objs.size f cc (.ref cda)
  refine ks_wpAt_execs_cons (ks_wpAt_Expr_any (ks_wpAt_MethodCall (pl := pl) ?_ hev) (by unfold interactive; rw [show (PySem.W.ksEnv qual (defScope st) s.heap.objs.size f (.ref cda) cc).scope.kind = .function from Z.kind]; rfl) (hw1 _ _ _ _ _))
  refine ks_wpAt_super_base (env := ksEnv qual (defScope st) s.heap.objs.size f (.ref cda) cc) Z.sup Z.cls (by decide) rfl (I.kIn _ _ lk) rfl har rfl (I.kIn _ _ hcode) rfl hvs hfile S.top ?_
  obtain ⟨mb, hb1, hb2⟩ := I.mod.blt
  refine ks_loadName_global Z.kind Z.sup (Calls.loadGlobal_builtin (I.mod.glob.keeps I.bk) S.sup (hb1.keeps I.bk) ((hb2 "super" (by decide)).trans (by first | rfl | decide +kernel)) ⟨rfl, ?_⟩)
  refine wpAny_loadName_free Z.kind Z.cls rfl ⟨_, I.kIn _ _ hcell, rfl⟩ ?_
  have hself : u0 = Value.ref a := ra
  rw [harg]
  refine wpAny_loadName_local Z.kind Z.self hns (v := u0) (by rfl) ?_
  subst hself
  obtain ⟨cnm, cq, cN, cbs, cbm, csn, csub, cab, ccol, cddd, k0, k1, k2, k3, k5, hC, hbm⟩ := S.T.cls
  obtain ⟨t0, ho⟩ := exo_at I.hok ea
  have hCh := I.kIn _ _ hC
  refine ks_wpAny_isType_cls hCh rfl ⟨rfl, ?_⟩
  refine ks_wpAny_call_super hCh rfl ho rfl (fun c z => by cases z) (looks_mroIn I.kIn S.sub) (fun h2 hso hk2 => ?_)
  have I2 := I.kept (t' := s.toks + 2) hk2
  have hcl : clsIn K C = some { name := cnm, bases := cbs, mro := .ref C :: cbm, ns := cN, qualname := cq, hasDict := true, slotNames := csn, subclasses := csub, abstract := cab, collection := ccol, hasDel := false } := by unfold clsIn; rw [hC] <;> rfl
  have hsi := S.si
  unfold ks_superIn at hsi
  rw [hcl] at hsi
  have haC : a ≠ C := fun z => by
    have q := (I.bs C _ (e0.mod.kin _ _ hC)).2
    rw [← z, ea] at q
    cases q
  have ho2 := hk2 _ _ ho
  have hin : Looks (model P w) h2 (isInstance (.ref a) (.type "ValueError")) true := (show InstAt h2 a _ C none from ⟨ho2, rfl, rfl, trivial⟩).type.andThen (looks_subIn I2.kIn S.sb)
  refine kxs_getMethod kxs_ValueError hso (looks_opaque I2.kIn S.tp) (l₀ := .ref C :: cbm) (fun A Q E s k q => wpAny_bind ((looks_clsIn I2.kIn hcl) A _ E s k (wpAny_pure q))) rfl I2.kIn hsi hin haC (by decide) ?_
  have hk3 : ∀ b o, h2.get? b = some o → (h2.push (kxs_mw "ValueError.__init__" a)).get? b = some o := fun b o e => Heap.get?_push_of_some _ e
  have hu : (h2.push (kxs_mw "ValueError.__init__" a)).get? h2.objs.size = some (kxs_mw "ValueError.__init__" a) := Heap.get?_push_at rfl rfl
  have I3 := (I2.kept (t' := s.toks + 2 + 1) hk3).pins_of (pins' := [(h2.objs.size, kxs_mw "ValueError.__init__" a)]) (fun p hp => by
    obtain rfl : p = (h2.objs.size, kxs_mw "ValueError.__init__" a) := by simpa using hp
    exact ⟨hu, I2.hok.fresh (Nat.le_refl _), fun z => absurd I2.lt (by rw [← z]; exact Nat.lt_irrefl _), I2.nofs (Nat.le_refl _), fun v z => by cases z⟩)
  have hA : PA (cxS CX P w K mg base ["self", "index"] qual (defScope st) f (.ref cda) cc A outer s H E) [.JoinedStr [.Constant (.str t1) n1 p5, .FormattedValue (.Name "index" p6) (-1) none p7, .Constant (.str t2) n2 p8] p9]
      (tCons (fun σ H Q => tJs [tC (.str t1), tFmt (tVar 1), tC (.str t2)] Str.empty σ H fun out H1 => Q (.str out) H1) tNil) := pa_cons (pe_joined (.cons pe_str (.cons (pe_fmt (pe_var rfl (Or.inl Z.index))) (.cons pe_str .nil)))) pa_nil
  have hlen : (toString i : Str).length ≤ 3 := by
    have q := text_of_small ⟨i.toNat, by omega⟩
    rwa [show (((⟨i.toNat, by omega⟩ : Fin 1000).val : Nat) : Int) = i from Int.toNat_of_nonneg hi0] at q
  have hlog : i.natAbs.log2 < 1920 := by
    rcases Nat.eq_zero_or_pos i.natAbs with z | z
    · rw [z]
      decide
    · exact (Nat.log2_lt (by omega)).mpr (Nat.lt_of_lt_of_le (show i.natAbs < 2 ^ 10 by omega) (Nat.pow_le_pow_right (i := 10) (j := 1920) (by decide) (by decide)))
  refine kxs_callWith (i := "ValueError.__init__") (x := a) rfl (Calls.evalArgs_plain ?_)
  have hz : ∀ (x y : Str), (x ++ y).length = x.length + y.length := fun x y => by simp [Str.length, Str.cps_append]
  have h0 : (Str.empty : Str).length = 0 := rfl
  have hsz := sizeLine_eq
  refine thn (hA.run p3 _ _ _ _ (fun vs H1 => ∃ z, vs = [.str z] ∧ H1 = H) I3 ?_) fun us s4 hh => ?_
  · refine ⟨t1, rfl, by rw [hz, h0, hsz]; omega, ?_⟩
    refine ⟨.int i, rfl, .inr ⟨i, rfl, hlog, toString i, rfl, by rw [hz, hz, h0, hsz]; omega, ?_⟩⟩
    exact ⟨t2, rfl, by rw [hz, hz, hz, h0, hsz]; omega, _, rfl, rfl⟩
  obtain ⟨vs, H1, I4, rvs, z, rfl, rfl⟩ := hh
  obtain ⟨hu4, _⟩ := I4.pin (h2.objs.size, kxs_mw "ValueError.__init__" a) (List.mem_append_right _ List.mem_cons_self)
  refine ⟨hu4, call_mw S.T I4 ea hu4 (by show us.length ≤ _; rw [← Paired.length rvs, hsz]; show 1 ≤ _; omega) fun s5 J => ?_⟩
  have hB : PSs (cxS CX P w K mg base ["self", "index"] qual (defScope st) f (.ref cda) cc A outer s H1 E) [.Assign [.Attribute (.Name "self" q0) "index" q1] (.Name "index" q2) q3] (tOst K "index" (tVar 0) (tVar 1)) :=
    pss_one (ps_ost (pe_var rfl (Or.inl Z.self)) (pe_var rfl (Or.inl Z.index)) (hw2 _ _ _ _ _))
  refine wpAt_of_wpAny (wpAny_mono (hB.run _ _ _ _ { nx := fun _ H' => Q .non H', rt := Q } J ?_) (fun fl s' hs => ?_) fun e s' hs => hs)
  · exact ⟨.int i, rfl, .ref a, rfl, a, C, rfl, S.T, S.no, .inl ⟨ea, fun dx n ne => hq dx n ne⟩⟩
  cases fl with
  | ret u =>
    obtain ⟨v, σ', H', J, rv, q⟩ := hs
    exact ⟨v, H', J.os, J.bare, J.base, J.hok, rv, q⟩
  | next =>
    obtain ⟨σ', H', J, q⟩ := hs
    exact ⟨.non, H', J.os, J.bare, J.base, J.hok, rfl, q⟩
  | brk =>
    obtain ⟨_, _, _, q⟩ := hs
    exact False.elim q
  | cont =>
    obtain ⟨_, _, _, q⟩ := hs
    exact False.elim q
end
/-- what a raise of it wants -/
structure SupI (K : PySem.W.Frag) (C f : Addr) (fd : FuncData) : Prop where
  T : OexC K C
  iC : PySem.W.findIn K (.ref C) "__init__" = some (some (.ref f))
  tI : PySem.W.typeIn K (.ref f) = some (.type "function")
  hb : Binds K fd ["self", "index"] []
theorem ps_raiseI {X : Cx} {W : WX} {x : Str} {C fI : Addr} {fd : FuncData} {k : Nat} {e : Expr} {ta : TA} {p pos pos' : Pos} (hc : X.calm = true) (tk : Takes X W) (S : SupI X.K C fI fd) (F1 : FnOk X.prog X.w X.K X.mg X.base CX0 k fI fd ["self", "index"] (spIdx C)) (hr : Room (k + 1) X.A) (hg : Gl X x) (hm : X.mg x = some (.ref C)) (ha : PA X [e] ta)
    (hdb : (x == ("__debug__" : Str)) = false := by decide) (he : starEach [e] X.env = (false, eval e X.env) :: starEach [] X.env := by rfl) (hpl : (backTo pos (starEach [] X.env)).any (·.1) = false := by rfl) :
    PS X (.Raise (some (.Call (.Name x p) [e] [] pos)) none pos') (fun _ σ H => tMkO C (spIdx C) [] ta σ H fun cls d H' => W cls d σ H') :=
  ps_raise hc tk (pmk_oex S.T S.iC S.tI F1 hr S.hb .nil pass0 hg hm ha hdb he hpl)
/-- its making: from the text -/
theorem supC_mk {P : Program} {K : PySem.W.Frag} {mg : Str → Option Value} {C f cc cda N : Addr} {qual : Str} {st : Stmt} {oc kV doc pm ct ccl cl : Value} {od an cdd cld dd : Option Addr} {osl ccs csl : Array (Option Value)} {vs : Array Value} {file : Str} {tf : Tok} {nm q : Str} {bs bm sub : List Value} {sn : List Str} {ab : Bool} {col : Option Bool} {k0 k1 k2 k3 k5 : Option Value}
    (lk : K.lookup f = some ⟨oc, od, .func (PySem.W.ksFn "__init__" qual (defArgs st) (defBody st) (defScope st) .none kV doc pm an (.ref cda) ct cc), osl⟩) (hcd : PySem.W.codeIn K (.ref cda) qual = true)
    (hcode : K.lookup cda = some ⟨ccl, cdd, .fields vs, ccs⟩) (hvs : vs[2]? = some (.str file tf)) (hfile : ((P.main.file : Str) == file) = true) (hcell : K.lookup cc = some ⟨cl, cld, .cell (some (.ref C)), csl⟩)
    (hC : K.lookup C = some (excClassObj nm q C N bs bm true sn sub ab col dd k0 k1 k2 k3 k5 "ValueError.__new__")) (hbm : PySem.HandSPX.refsVE bm = true)
    (sa : PySem.W.findIn K (.ref C) "__setattr__" = some (some (.builtin "object.__setattr__"))) (exC : PySem.W.subIn K (.ref C) (.type "BaseException") = some true) (tyC : PySem.W.typeIn K (.ref C) = some (.type "type")) (kC : PySem.W.keepIn K (.ref C) = true)
    (h1 : PySem.W.mroIn K C (.ref C) = some true) (h2 : mg "super" = none) (h3 : PySem.W.subIn K (.ref C) (.type "ValueError") = some true) (h4 : PySem.W.ks_superIn K C C "__init__" = some (some (.builtin "ValueError.__init__")))
    (h5 : PySem.W.nsIn K cStatics "thirdparty.any" = some none) (h6 : PySem.W.findIn K (.ref C) "index" = some none) (h7 : (P.main.scope.names.lookup ("super" : Str)).isSome = false) :
    SupC P K mg C f (PySem.W.ksFn "__init__" qual (defArgs st) (defBody st) (defScope st) .none kV doc pm an (.ref cda) ct cc) qual st :=
  ⟨⟨oc, od, osl, .none, kV, doc, pm, ct, cc, cda, an, lk, rfl, hcd, ⟨ccl, cdd, ccs, file, tf, vs, hcode, hvs, hfile⟩, ⟨cl, cld, csl, hcell⟩⟩, ⟨⟨nm, q, N, bs, bm, sn, sub, ab, col, dd, k0, k1, k2, k3, k5, hC, hbm⟩, sa, exC, tyC, kC⟩, h1, h2, h3, h4, h5, h6, h7⟩
theorem exc_cls {K : PySem.W.Frag} {D : Addr} (C : ExcC K D) : (PySem.W.clsIn K D).isSome = true := by
  obtain ⟨cd, hc, _⟩ := PySem.W.any_some C.hd
  rw [hc]
  rfl
def rIsCd (K : PySem.W.Frag) (cls : Value) (d : Option Addr) (a : Addr) : List V → Hp → VK → Prop := fun xs H Q => ∃ (D dd : Addr) (fs : List (Str × V)), cls = .ref D ∧ d = some dd ∧ H dd = some (.xd fs) ∧ ExcC K D ∧ rIsE K D a xs H Q
def rIsCTd (K : PySem.W.Frag) (cls : Value) (d : Option Addr) (a : Addr) : List V → Hp → VK → Prop := fun xs H Q => ∃ (D dd : Addr) (fs : List (Str × V)), cls = .ref D ∧ d = some dd ∧ H dd = some (.xd fs) ∧ ExcC K D ∧ rIsET K D a xs H Q
section
variable {X : Cx} {K : PySem.W.Frag} {a : Addr} {cls : Value} {d : Option Addr} {oe : Obj} {pn : List (Addr × Obj)}
theorem inst_d {pins : List (Addr × Obj)} {σ : L2.St} {H : Hp} {s : Shared} {D dd : Addr} {fs : List (Str × V)} (I : L2.Inv (X.suite a ((a, oe) :: pn)) pins σ H s) (hz : Zc (.ref D) (some dd) oe) (hf : ∃ vs, oe.data = .fields vs) (hd : H dd = some (.xd fs)) : ∃ od, PySem.W.InstAt s.heap a oe D (some od) := by
  obtain ⟨ha, _⟩ := I.pin (a, oe) (List.mem_append_left _ List.mem_cons_self)
  obtain ⟨vs, hv⟩ := hf
  have hx : ObjOk X.prog X.w H s.heap dd (.xd fs) := I.hok dd _ hd
  obtain ⟨mA, hns, hr⟩ := hx
  obtain ⟨od, ho, hl⟩ := lookIn_ns hns
  exact ⟨od, ha, hz.1, by unfold PySem.W.notCls; rw [hv] <;> rfl, by rw [hz.2]; exact ho⟩
theorem k_isCd (hK : X.K = K) (hz : Zc cls d oe) (hf : ∃ vs, oe.data = .fields vs) : CallR (X.suite a ((a, oe) :: pn)) (.builtin "isinstance") (rIsCd K cls d a) := by
  subst hK
  intro pins s σ H xs us Q I r h
  obtain ⟨D, dd, fs, rfl, rfl, hd, C, c, cv, b, rfl, hcv, e, q⟩ := h
  obtain ⟨u1, u2, rfl, r1, r2⟩ := vals2 r
  cases (show u1 = Value.ref a from r1)
  have ec := hcv _ r2
  subst ec
  obtain ⟨od, J⟩ := inst_d I hz hf hd
  exact PySem.W.kia_one (PySem.W.kitx_exc (exc_cls C) C.hg C.hk C.hs C.ha C.hn C.ht C.hm) I.kIn J e (fun z => nomatch z) fun tk => ⟨.bl b, H, I.kept (t' := tk) fun _ _ z => z, rfl, q⟩
theorem k_isCTd (hK : X.K = K) (hz : Zc cls d oe) (hf : ∃ vs, oe.data = .fields vs) : CallR (X.suite a ((a, oe) :: pn)) (.builtin "isinstance") (rIsCTd K cls d a) := by
  subst hK
  intro pins s σ H xs us Q I r h
  obtain ⟨D, dd, fs, rfl, rfl, hd, C, tp, cs, ws, b, rfl, hT, k, e, q⟩ := h
  obtain ⟨u1, u2, rfl, r1, r2⟩ := vals2 r
  cases (show u1 = Value.ref a from r1)
  cases (show u2 = Value.ref tp from r2)
  obtain ⟨_, its, rv, o, h1, h2, n, h3⟩ := (show ObjOk X.prog X.w H s.heap tp (.tup cs) from I.hok tp _ hT)
  have e3 := ClsV.all k rv
  subst e3
  obtain ⟨od, J⟩ := inst_d I hz hf hd
  obtain ⟨oc, od2, dt, sl⟩ := o
  simp only at h2 h3
  subst h2 h3
  exact PySem.W.kia_tup (PySem.W.kitx_exc (exc_cls C) C.hg C.hk C.hs C.ha C.hn C.ht C.hm) I.kIn J h1 e (fun z => nomatch z) fun tk => ⟨.bl b, H, I.tok tk, rfl, q⟩
end
end SX
set_option Elab.async false
set_option linter.all false
set_option maxRecDepth 100000
namespace SY
open PySem PySem.Spec L2 SX
/-- what is known of a value, and stays so -/
structure Pr where
  p : Hp → V → Prop
  m : ∀ G G' v, Ex G G' → p G v → p G' v
/-- what is known of an object that is owned -/
structure Ob where
  p : Hp → HO → Prop
  m : ∀ G G' o, Ex G G' → p G o → p G' o
abbrev Mp := List (Addr × Ob)
abbrev En := List (Option Pr)
def D (K : PySem.W.Frag) (d : PyData) : Pr := ⟨fun G v => Dp K G v d, fun _ _ _ e h => dm h e⟩
def Av (a : Addr) : Pr := ⟨fun _ v => v = .ref a, fun _ _ _ _ h => h⟩
def Cv (x : V) : Pr := ⟨fun _ v => v = x, fun _ _ _ _ h => h⟩
def OL (K : PySem.W.Frag) (ds : List PyData) : Ob := ⟨fun G o => ∃ vs, o = .lst vs ∧ DpAll K G vs ds, fun _ _ _ e h => by obtain ⟨vs, h1, h2⟩ := h; exact ⟨vs, h1, dma h2 e⟩⟩
def DKo (D : Deck) : Ob := ⟨fun _ o => o = D.ho, fun _ _ _ _ h => h⟩
def Sl (G : Hp) (σ : L2.St) (δ : En) : Prop := σ.length = δ.length ∧ ∀ (k : Nat) (P : Pr), δ[k]? = some (some P) → ∃ v, σ[k]? = some (some v) ∧ P.p G v
def Mm (G : Hp) : Mem → Mp → Prop
  | [], [] => True
  | m :: M, q :: μ => (m.1 = q.1 ∧ q.2.p G m.2) ∧ Mm G M μ
  | _, _ => False
abbrev AP (G : Hp) (Ps : List Pr) (vs : List V) : Prop := AllP G (Ps.map Pr.p) vs
section
variable {G G' : Hp} {σ : L2.St} {δ δ' : En} {M M1 M2 : Mem} {μ μ1 μ2 : Mp} {P : Pr} {v : V} {k i : Nat} {Ps : List Pr} {vs : List V}
theorem Sl.mono (h : Sl G σ δ) (e : Ex G G') : Sl G' σ δ := ⟨h.1, fun k P hk => by obtain ⟨v, h1, h2⟩ := h.2 k P hk; exact ⟨v, h1, P.m _ _ _ e h2⟩⟩
theorem Sl.get (h : Sl G σ δ) (hk : δ[k]? = some (some P)) : ∃ v, σ[k]? = some (some v) ∧ P.p G v := h.2 k P hk
theorem Sl.set (h : Sl G σ δ) (hp : P.p G v) : Sl G (σ.set k (some v)) (δ.set k (some P)) := ⟨by simp [h.1], fun j Q hj => by
  rw [List.getElem?_set] at hj ⊢
  split at hj
  · rename_i e
    subst e
    rw [if_pos rfl]
    split at hj
    · rename_i hl
      cases hj
      rw [if_pos (by rw [h.1]; exact hl)]
      exact ⟨v, rfl, hp⟩
    · cases hj
  · rename_i e
    rw [if_neg e]
    exact h.2 j Q hj⟩
theorem Sl.none (h : Sl G σ δ) : Sl G σ (δ.set k Option.none) := ⟨by simp [h.1], fun j Q hj => by
  rw [List.getElem?_set] at hj
  split at hj
  · split at hj <;> cases hj
  · exact h.2 j Q hj⟩
theorem Sl.none2 (h : Sl G σ δ) : Sl G (σ.set k Option.none) (δ.set k Option.none) := ⟨by simp [h.1], fun j Q hj => by
  rw [List.getElem?_set] at hj ⊢
  split at hj
  · split at hj <;> cases hj
  · rename_i e
    rw [if_neg e]
    exact h.2 j Q hj⟩
/-- less is known of the slots -/
def Le (δ δ' : En) : Prop := δ.length = δ'.length ∧ ∀ (k : Nat) (P : Pr), δ'[k]? = some (some P) → ∃ P0 : Pr, δ[k]? = some (some P0) ∧ ∀ G v, P0.p G v → P.p G v
theorem Sl.le (h : Sl G σ δ) (l : Le δ δ') : Sl G σ δ' := ⟨h.1.trans l.1, fun k P hk => by
  obtain ⟨P0, h1, h2⟩ := l.2 k P hk
  obtain ⟨v, h3, h4⟩ := h.2 k P0 h1
  exact ⟨v, h3, h2 _ _ h4⟩⟩
theorem Le.nil : Le [] [] := ⟨rfl, fun k P h => by simp at h⟩
theorem Le.same {p : Option Pr} (l : Le δ δ') : Le (p :: δ) (p :: δ') := ⟨by simp [l.1], fun k P h => by
  cases k with
  | zero => exact ⟨P, h, fun _ _ z => z⟩
  | succ k => exact l.2 k P h⟩
theorem Le.drop {p : Option Pr} (l : Le δ δ') : Le (p :: δ) (Option.none :: δ') := ⟨by simp [l.1], fun k P h => by
  cases k with
  | zero => cases h
  | succ k => exact l.2 k P h⟩
theorem Le.imp {p p' : Pr} (hp : ∀ G v, p.p G v → p'.p G v) (l : Le δ δ') : Le (some p :: δ) (some p' :: δ') := ⟨by simp [l.1], fun k P h => by
  cases k with
  | zero => cases h; exact ⟨p, rfl, hp⟩
  | succ k => exact l.2 k P h⟩
theorem Le.refl : ∀ δ : En, Le δ δ := fun δ => ⟨rfl, fun k P h => ⟨P, h, fun _ _ z => z⟩⟩
def wipeY (δ : En) : List Nat → En
  | [] => δ
  | v :: vs => (wipeY δ vs).set v Option.none
theorem Sl.wipe (h : Sl G σ δ) : ∀ vs : List Nat, Sl G (L2.wipe σ vs) (wipeY δ vs)
  | [] => h
  | _ :: vs => (Sl.wipe h vs).none2
theorem wipe_get {σ : L2.St} {j : Nat} : ∀ {vs : List Nat}, (wipe σ vs)[j]? = if j ∈ vs ∧ j < σ.length then some Option.none else σ[j]?
  | [] => by simp [wipe]
  | v :: vs => by
    unfold wipe
    rw [List.getElem?_set, wipe_get (vs := vs)]
    by_cases h : v = j
    · subst h
      by_cases hl : v < σ.length
      · simp [wipe_length, hl]
      · simp [wipe_length, hl, Nat.not_lt.mp hl]
    · simp [h, Ne.symm h]
/-- slots that differ only at these -/
def Same (σ σ' : L2.St) (vs : List Nat) : Prop := σ'.length = σ.length ∧ ∀ j, j ∉ vs → σ'[j]? = σ[j]?
theorem Same.refl (σ : L2.St) (vs : List Nat) : Same σ σ vs := ⟨rfl, fun _ _ => rfl⟩
theorem Same.trans {σ σ1 σ2 : L2.St} {vs : List Nat} (a : Same σ σ1 vs) (b : Same σ1 σ2 vs) : Same σ σ2 vs := ⟨b.1.trans a.1, fun j h => (b.2 j h).trans (a.2 j h)⟩
theorem Same.set {σ : L2.St} {vs : List Nat} {x : Option V} (h : k ∈ vs) : Same σ (σ.set k x) vs := ⟨by simp, fun j hj => List.getElem?_set_ne fun e => hj (by rw [← e]; exact h)⟩
theorem Same.wipe {σ σ' : L2.St} {vs : List Nat} (h : Same σ σ' vs) : wipe σ' vs = wipe σ vs := by
  apply List.ext_getElem?
  intro j
  rw [wipe_get, wipe_get, h.1]
  by_cases hj : j ∈ vs
  · by_cases hl : j < σ.length
    · simp [hj, hl]
    · have : σ'.length ≤ j := by rw [h.1]; omega
      simp [hj, hl, List.getElem?_eq_none this, List.getElem?_eq_none (Nat.not_lt.mp hl)]
  · simp [hj, h.2 j hj]
theorem wipe_wipe {σ : L2.St} {vs : List Nat} : wipe (wipe σ vs) vs = wipe σ vs := by
  apply List.ext_getElem?
  intro j
  rw [wipe_get, wipe_get, wipe_length]
  split <;> rfl
theorem Mm.mono : ∀ {M : Mem} {μ : Mp}, Mm G M μ → Ex G G' → Mm G' M μ
  | [], [], _, _ => trivial
  | _ :: _, q :: _, h, e => ⟨⟨h.1.1, q.2.m _ _ _ e h.1.2⟩, Mm.mono h.2 e⟩
  | [], _ :: _, h, _ => h.elim
  | _ :: _, [], h, _ => h.elim
theorem Mm.app : ∀ {M1 : Mem} {μ1 : Mp}, Mm G M1 μ1 → Mm G M2 μ2 → Mm G (M1 ++ M2) (μ1 ++ μ2)
  | [], [], _, h => h
  | _ :: _, _ :: _, h, h2 => ⟨h.1, Mm.app h.2 h2⟩
  | [], _ :: _, h, _ => h.elim
  | _ :: _, [], h, _ => h.elim
theorem Mm.cut : ∀ {μ1 : Mp} {M : Mem}, Mm G M (μ1 ++ μ2) → ∃ M1 M2, M = M1 ++ M2 ∧ Mm G M1 μ1 ∧ Mm G M2 μ2
  | [], M, h => ⟨[], M, rfl, trivial, h⟩
  | _ :: _, [], h => h.elim
  | _ :: _, m :: M, h => by
    obtain ⟨M1, M2, rfl, h1, h2⟩ := Mm.cut h.2
    exact ⟨m :: M1, M2, rfl, ⟨h.1, h1⟩, h2⟩
theorem Mm.get {a : Addr} {q : Ob} : ∀ {μ : Mp} {M : Mem} {i : Nat}, Mm G M μ → μ[i]? = some (a, q) → ∃ o, M[i]? = some (a, o) ∧ q.p G o
  | [], [], _, _, h => by simp at h
  | [], _ :: _, _, h, _ => h.elim
  | _ :: _, [], _, h, _ => h.elim
  | _ :: _, m :: _, 0, h, e => by
    cases e
    obtain ⟨b, o⟩ := m
    obtain ⟨⟨rfl, h2⟩, _⟩ := h
    exact ⟨o, rfl, h2⟩
  | _ :: _, _ :: _, i + 1, h, e => Mm.get (i := i) h.2 e
theorem Mm.set {a : Addr} {q q' : Ob} {o : HO} (hq : q'.p G o) : ∀ {μ : Mp} {M : Mem} {i : Nat}, Mm G M μ → μ[i]? = some (a, q) → Mm G (M.set i (a, o)) (μ.set i (a, q'))
  | [], [], _, _, h => by simp at h
  | [], _ :: _, _, h, _ => h.elim
  | _ :: _, [], _, h, _ => h.elim
  | _ :: _, _ :: _, 0, h, _ => ⟨⟨rfl, hq⟩, h.2⟩
  | _ :: _, _ :: _, i + 1, h, e => ⟨h.1, Mm.set hq (i := i) h.2 e⟩
theorem Mm.sub : ∀ {μ' μ : Mp}, μ'.Sublist μ → ∀ {M : Mem}, Mm G M μ → ∃ M', M'.Sublist M ∧ Mm G M' μ'
  | _, _, .slnil, [], h => ⟨[], .slnil, h⟩
  | _, _, .slnil, _ :: _, h => h.elim
  | _, _, .cons _ s, [], h => h.elim
  | _, _, .cons _ s, _ :: _, h => by
    obtain ⟨M', h1, h2⟩ := Mm.sub s h.2
    exact ⟨M', h1.cons _, h2⟩
  | _, _, .cons_cons _ s, [], h => h.elim
  | _, _, .cons_cons _ s, m :: _, h => by
    obtain ⟨M', h1, h2⟩ := Mm.sub s h.2
    exact ⟨m :: M', h1.cons_cons _, h.1, h2⟩
theorem Mm.nil (h : Mm G M []) : M = [] := by
  match M, h with
  | [], _ => rfl
theorem AP.mono : ∀ {Ps : List Pr} {vs : List V}, AP G Ps vs → Ex G G' → AP G' Ps vs
  | [], [], _, _ => trivial
  | P :: _, _ :: _, h, e => ⟨P.m _ _ _ e h.1, AP.mono h.2 e⟩
  | [], _ :: _, h, _ => h.elim
  | _ :: _, [], h, _ => h.elim
theorem AP.len : ∀ {Ps : List Pr} {vs : List V}, AP G Ps vs → vs.length = Ps.length
  | [], [], _ => rfl
  | _ :: _, _ :: _, h => by simp [AP.len h.2]
  | [], _ :: _, h => h.elim
  | _ :: _, [], h => h.elim
theorem AP.get : ∀ {Ps : List Pr} {vs : List V} {i : Nat} {P : Pr}, AP G Ps vs → Ps[i]? = some P → ∃ v, vs[i]? = some v ∧ P.p G v
  | [], _, _, _, _, e => by simp at e
  | _ :: _, [], _, _, h, _ => h.elim
  | _ :: _, v :: _, 0, _, h, e => by cases e; exact ⟨v, rfl, h.1⟩
  | _ :: _, _ :: _, i + 1, _, h, e => AP.get (i := i) h.2 e
theorem AP.dpa {K : PySem.W.Frag} : ∀ {ds : List PyData} {vs : List V}, AP G (ds.map (D K)) vs → DpAll K G vs ds
  | [], [], _ => .nil
  | _ :: _, _ :: _, h => .cons h.1 (AP.dpa h.2)
  | [], _ :: _, h => h.elim
  | _ :: _, [], h => h.elim
end
def E1 (te : TE) (δ : En) (μ : Mp) (P : Pr) (μ' : Mp) : Prop := ∀ σ G M, Sl G σ δ → Mm G M μ → Ev te σ G M (fun G' v M' => P.p G' v ∧ Mm G' M' μ')
def EY (te : TE) (δ : En) (μ : Mp) (R : Pr → Mp → Prop) : Prop := ∀ σ G M, Sl G σ δ → Mm G M μ → Ev te σ G M (fun G' v M' => ∃ P μ', R P μ' ∧ P.p G' v ∧ Mm G' M' μ')
def T1 (tt : TT) (δ : En) (μ : Mp) (b : Bool) (μ' : Mp) : Prop := ∀ σ G M, Sl G σ δ → Mm G M μ → ∀ G1 H F, Ex G G1 → Me G1 (M ++ F) H → ∀ Q : Bool → Hp → Prop, (∀ G2 M2 H2, Ex G1 G2 → Me G2 (M2 ++ F) H2 → Mm G2 M2 μ' → Q b H2) → tt σ H Q
def EA (ta : TA) (δ : En) (μ : Mp) (Ps : List Pr) (μ' : Mp) : Prop := ∀ σ G M, Sl G σ δ → Mm G M μ → ∀ G1 H F, Ex G G1 → Me G1 (M ++ F) H → ∀ Q : List V → Hp → Prop, (∀ vs G2 M2 H2, Ex G1 G2 → Me G2 (M2 ++ F) H2 → AP G2 Ps vs → Mm G2 M2 μ' → Q vs H2) → ta σ H Q
/-- a new list, owned -/
def EO (K : PySem.W.Frag) (te : TE) (δ : En) (μ : Mp) (ds : List PyData) (μ' : Mp) : Prop := ∀ σ G M, Sl G σ δ → Mm G M μ → Ev te σ G M (fun G' v M' => ∃ p vs M0, v = .ref p ∧ M' = M0 ++ [(p, .lst vs)] ∧ DpAll K G' vs ds ∧ Mm G' M0 μ')
/-- a list (tuple) that can be read -/
def LR (K : PySem.W.Frag) (P : Pr) (μ : Mp) (ds : List PyData) : Prop := ∀ G v M, P.p G v → Mm G M μ → ∃ a xs, v = .ref a ∧ AtL K G M a xs ∧ DpAll K G xs ds
theorem LR.at {K : PySem.W.Frag} {P : Pr} {μ : Mp} {ds : List PyData} (h : LR K P μ ds) (G : Hp) (v : V) (M F : Mem) (H : Hp) (p : P.p G v) (mm : Mm G M μ) (m : Me G (M ++ F) H) : ∃ a xs, v = .ref a ∧ SqL K H a xs ∧ DpAll K G xs ds := by
  obtain ⟨a, xs, h1, h2, h3⟩ := h G v M p mm
  exact ⟨a, xs, h1, h2 G H F (Ex.refl _) m, h3⟩
/-- data that can be read -/
def DR (K : PySem.W.Frag) (P : Pr) (μ : Mp) (d : PyData) : Prop := ∀ G v M F H, P.p G v → Mm G M μ → Me G (M ++ F) H → Dp K H v d
section
variable {K : PySem.W.Frag} {te ta tb tc : TE} {tt tu : TT} {tA tr : TA} {δ δ' : En} {μ μ' μ0 μ1 μ2 μ3 : Mp} {P P1 P2 P3 : Pr} {Ps : List Pr} {R : Pr → Mp → Prop} {d e : PyData} {ds es : List PyData} {i j : Int} {a b c : Bool} {k : Nat} {ad : Addr} {s t : Str}
theorem lr_D : LR K (D K (.list ds)) μ ds := fun G v M p _ => by
  obtain ⟨a, xs, rfl, h1, h2⟩ := dp_lst p
  exact ⟨a, xs, rfl, .G h1, h2⟩
theorem lr_O (i : Nat) (h : μ[i]? = some (ad, OL K ds)) : LR K (Av ad) μ ds := fun G v M p mm => by
  obtain ⟨o, h1, vs, rfl, h2⟩ := mm.get h
  exact ⟨ad, vs, p, .M h1, h2⟩
theorem dr_D : DR K (D K d) μ d := fun G v M F H p _ m => dm p m.ex
theorem dr_L (h : LR K P μ ds) : DR K P μ (.list ds) := fun G v M F H p mm m => by
  obtain ⟨a, xs, rfl, h1, h2⟩ := h.at G v M F H p mm m
  exact .lst h1 (dma h2 m.ex)
theorem E1.imp (h : E1 te δ μ P μ') (f : ∀ G v, P.p G v → P1.p G v) : E1 te δ μ P1 μ' := fun σ G M s m => (h σ G M s m).imp fun G1 v M1 _ r => ⟨f _ _ r.1, r.2⟩
theorem E1.le (h : E1 te δ' μ P μ') (l : Le δ δ') : E1 te δ μ P μ' := fun σ G M s m => h σ G M (s.le l) m
theorem E1.y (h : E1 te δ μ P μ') : EY te δ μ (fun Q μ2 => Q = P ∧ μ2 = μ') := fun σ G M s m => (h σ G M s m).imp fun G1 v M1 _ r => ⟨P, μ', ⟨rfl, rfl⟩, r.1, r.2⟩
theorem EY.one (h : EY te δ μ (fun Q μ2 => Q = P ∧ μ2 = μ')) : E1 te δ μ P μ' := fun σ G M s m => (h σ G M s m).imp fun G1 v M1 _ r => by
  obtain ⟨_, _, ⟨rfl, rfl⟩, r1, r2⟩ := r
  exact ⟨r1, r2⟩
theorem EY.imp {R' : Pr → Mp → Prop} (h : EY te δ μ R) (f : ∀ P μ', R P μ' → R' P μ') : EY te δ μ R' := fun σ G M s m => (h σ G M s m).imp fun G1 v M1 _ r => by
  obtain ⟨P, μ', r0, r1, r2⟩ := r
  exact ⟨P, μ', f _ _ r0, r1, r2⟩
theorem EO.own (h : EO K te δ μ ds μ') : EY te δ μ (fun P μ2 => ∃ a, P = Av a ∧ μ2 = μ' ++ [(a, OL K ds)]) := fun σ G M s m => (h σ G M s m).imp fun G1 v M1 _ r => by
  obtain ⟨p, vs, M0, rfl, rfl, r1, r2⟩ := r
  exact ⟨Av p, _, ⟨p, rfl, rfl⟩, rfl, Mm.app r2 ⟨⟨rfl, vs, rfl, r1⟩, trivial⟩⟩
theorem EO.frz (h : EO K te δ μ ds μ') : E1 te δ μ (D K (.list ds)) μ' := fun σ G M s m G1 H F e m1 Q q => (h σ G M s m) G1 H F e m1 Q fun v G2 M2 H2 e2 m2 r => by
  obtain ⟨p, vs, M0, rfl, rfl, r1, r2⟩ := r
  obtain ⟨m3, e3⟩ := m2.freezeLast
  exact q _ _ M0 H2 (e2.trans e3) m3 ⟨.lst (SqL.of upd_same) (dma r1 e3), r2.mono e3⟩
theorem e_var (h : δ[k]? = some (some P)) : E1 (tVar k) δ μ P μ := fun σ G M s m G1 H F e m1 Q q => by
  obtain ⟨v, h1, h2⟩ := s.get h
  exact ⟨v, h1, q v G1 M H (Ex.refl _) m1 ⟨P.m _ _ _ e h2, m.mono e⟩⟩
theorem e_cst {x : V} (h : ∀ G, P.p G x) : E1 (tC x) δ μ P μ := fun σ G M s m G1 H F e m1 Q q => q x G1 M H (Ex.refl _) m1 ⟨h _, m.mono e⟩
theorem e_cI : E1 (tC (.int i)) δ μ (D K (.int i)) μ := e_cst fun _ => .int i
theorem e_cS : E1 (tC (.str s)) δ μ (D K (.str s)) μ := e_cst fun _ => .str s
theorem e_cB : E1 (tC (.bl b)) δ μ (D K (.bool b)) μ := e_cst fun _ => .bl b
theorem e_cN : E1 (tC .non) δ μ (D K .none) μ := e_cst fun _ => .non
/-- one, another, an operation on both -/
theorem e_op {r : R2} (h1 : E1 ta δ μ P1 μ1) (h2 : E1 tb δ μ1 P2 μ2) (hr : ∀ G H F M x y, Me G (M ++ F) H → Mm G M μ2 → P1.p G x → P2.p G y → ∀ Q : VK, (∀ v G2 M2 H2, Ex G G2 → Me G2 (M2 ++ F) H2 → P.p G2 v → Mm G2 M2 μ3 → Q v H2) → r x y H Q) : E1 (tOp r ta tb) δ μ P μ3 := fun σ G M s m G1 H F e m1 Q q =>
  h1 σ G M s m G1 H F e m1 _ fun x G2 M2 H2 e2 m2 r2 => h2 σ G2 M2 (s.mono (e.trans e2)) r2.2 G2 H2 F (Ex.refl _) m2 _ fun y G3 M3 H3 e3 m3 r3 =>
    hr G3 H3 F M3 x y m3 r3.2 (P1.m _ _ _ e3 r2.1) r3.1 Q fun v G4 M4 H4 e4 m4 p4 mm4 => q v G4 M4 H4 ((e2.trans e3).trans e4) m4 ⟨p4, mm4⟩
/-- .. by values -/
theorem e_opD {r : R2} (h1 : E1 ta δ μ (D K d) μ1) (h2 : E1 tb δ μ1 (D K e) μ2) (hr : ∀ G H x y, Dp K G x d → Dp K G y e → ∀ Q : VK, (∀ v, P.p G v → Q v H) → r x y H Q) : E1 (tOp r ta tb) δ μ P μ2 :=
  e_op h1 h2 fun G H F M x y m mm p1 p2 Q q => hr G H x y p1 p2 Q fun v pv => q v G M H (Ex.refl _) m pv mm
theorem e_I {C : Int → Int → Prop} {g : Int → Int → V} (h1 : E1 ta δ μ (D K (.int i)) μ1) (h2 : E1 tb δ μ1 (D K (.int j)) μ2) (hc : C i j) (hg : ∀ G, P.p G (g i j)) : E1 (tOp (rI C g) ta tb) δ μ P μ2 :=
  e_opD h1 h2 fun G H x y p1 p2 Q q => by
    rw [dp_int p1, dp_int p2]
    exact ⟨i, j, rfl, rfl, hc, q _ (hg G)⟩
theorem e_I0 {g : Int → Int → V} (h1 : E1 ta δ μ (D K (.int i)) μ1) (h2 : E1 tb δ μ1 (D K (.int j)) μ2) (hg : ∀ G, P.p G (g i j)) : E1 (tOp (rI0 g) ta tb) δ μ P μ2 :=
  e_opD h1 h2 fun G H x y p1 p2 Q q => by
    rw [dp_int p1, dp_int p2]
    exact ⟨i, j, rfl, rfl, q _ (hg G)⟩
theorem e_add (h1 : E1 ta δ μ (D K (.int i)) μ1) (h2 : E1 tb δ μ1 (D K (.int j)) μ2) : E1 (tOp (rI0 fun i j => .int (i + j)) ta tb) δ μ (D K (.int (i + j))) μ2 := e_I0 h1 h2 fun _ => .int _
theorem e_sub (h1 : E1 ta δ μ (D K (.int i)) μ1) (h2 : E1 tb δ μ1 (D K (.int j)) μ2) : E1 (tOp (rI0 fun i j => .int (i - j)) ta tb) δ μ (D K (.int (i - j))) μ2 := e_I0 h1 h2 fun _ => .int _
theorem e_mul (h1 : E1 ta δ μ (D K (.int i)) μ1) (h2 : E1 tb δ μ1 (D K (.int j)) μ2) (hc : CMul i j) : E1 (tOp (rI CMul fun i j => .int (i * j)) ta tb) δ μ (D K (.int (i * j))) μ2 := e_I h1 h2 hc fun _ => .int _
theorem e_mod (h1 : E1 ta δ μ (D K (.int i)) μ1) (h2 : E1 tb δ μ1 (D K (.int j)) μ2) (hc : 0 < j) : E1 (tOp (rI (fun _ j => 0 < j) fun i j => .int (i % j)) ta tb) δ μ (D K (.int (i % j))) μ2 := e_I h1 h2 hc fun _ => .int _
theorem e_div (h1 : E1 ta δ μ (D K (.int i)) μ1) (h2 : E1 tb δ μ1 (D K (.int j)) μ2) (hc : CDivW i j) : E1 (tOp (rI CDivW fun i j => .int (i / j)) ta tb) δ μ (D K (.int (i / j))) μ2 := e_I h1 h2 hc fun _ => .int _
theorem e_pow (h1 : E1 ta δ μ (D K (.int i)) μ1) (h2 : E1 tb δ μ1 (D K (.int j)) μ2) (hc : CPow i j) : E1 (tOp (rI CPow fun i j => .int (i ^ j.toNat)) ta tb) δ μ (D K (.int (i ^ j.toNat))) μ2 := e_I h1 h2 hc fun _ => .int _
theorem e_lt (h1 : E1 ta δ μ (D K (.int i)) μ1) (h2 : E1 tb δ μ1 (D K (.int j)) μ2) : E1 (tOp (rI0 fun i j => .bl (decide (i < j))) ta tb) δ μ (D K (.bool (decide (i < j)))) μ2 := e_I0 h1 h2 fun _ => .bl _
theorem e_le (h1 : E1 ta δ μ (D K (.int i)) μ1) (h2 : E1 tb δ μ1 (D K (.int j)) μ2) : E1 (tOp (rI0 fun i j => .bl (decide (i ≤ j))) ta tb) δ μ (D K (.bool (decide (i ≤ j)))) μ2 := e_I0 h1 h2 fun _ => .bl _
theorem e_gt (h1 : E1 ta δ μ (D K (.int i)) μ1) (h2 : E1 tb δ μ1 (D K (.int j)) μ2) : E1 (tOp (rI0 fun i j => .bl (decide (j < i))) ta tb) δ μ (D K (.bool (decide (j < i)))) μ2 := e_I0 h1 h2 fun _ => .bl _
theorem e_ge (h1 : E1 ta δ μ (D K (.int i)) μ1) (h2 : E1 tb δ μ1 (D K (.int j)) μ2) : E1 (tOp (rI0 fun i j => .bl (decide (j ≤ i))) ta tb) δ μ (D K (.bool (decide (j ≤ i)))) μ2 := e_I0 h1 h2 fun _ => .bl _
theorem e_eqI (h1 : E1 ta δ μ (D K (.int i)) μ1) (h2 : E1 tb δ μ1 (D K (.int j)) μ2) : E1 (tOp rEq ta tb) δ μ (D K (.bool (decide (i = j)))) μ2 :=
  e_opD h1 h2 fun G H x y p1 p2 Q q => by
    rw [dp_int p1, dp_int p2]
    exact ⟨rfl, q _ (by rw [show decide (V.int i = V.int j) = decide (i = j) by rw [decide_eq_decide]; exact ⟨fun h => by cases h; rfl, fun h => by rw [h]⟩]; exact .bl _)⟩
theorem e_neI (h1 : E1 ta δ μ (D K (.int i)) μ1) (h2 : E1 tb δ μ1 (D K (.int j)) μ2) : E1 (tOp rNe ta tb) δ μ (D K (.bool (!decide (i = j)))) μ2 :=
  e_opD h1 h2 fun G H x y p1 p2 Q q => by
    rw [dp_int p1, dp_int p2]
    exact ⟨rfl, q _ (by rw [show decide (V.int i = V.int j) = decide (i = j) by rw [decide_eq_decide]; exact ⟨fun h => by cases h; rfl, fun h => by rw [h]⟩]; exact .bl _)⟩
theorem e_eqS (h1 : E1 ta δ μ (D K (.str s)) μ1) (h2 : E1 tb δ μ1 (D K (.str t)) μ2) : E1 (tOp rEq ta tb) δ μ (D K (.bool (decide (s = t)))) μ2 :=
  e_opD h1 h2 fun G H x y p1 p2 Q q => by
    rw [dp_str p1, dp_str p2]
    exact ⟨rfl, q _ (by rw [show decide (V.str s = V.str t) = decide (s = t) by rw [decide_eq_decide]; exact ⟨fun h => by cases h; rfl, fun h => by rw [h]⟩]; exact .bl _)⟩
theorem e_neS (h1 : E1 ta δ μ (D K (.str s)) μ1) (h2 : E1 tb δ μ1 (D K (.str t)) μ2) : E1 (tOp rNe ta tb) δ μ (D K (.bool (!decide (s = t)))) μ2 :=
  e_opD h1 h2 fun G H x y p1 p2 Q q => by
    rw [dp_str p1, dp_str p2]
    exact ⟨rfl, q _ (by rw [show decide (V.str s = V.str t) = decide (s = t) by rw [decide_eq_decide]; exact ⟨fun h => by cases h; rfl, fun h => by rw [h]⟩]; exact .bl _)⟩
/-- scalars of unlike kinds are unlike -/
theorem e_eqNS (h1 : E1 ta δ μ (D K .none) μ1) (h2 : E1 tb δ μ1 (D K (.str t)) μ2) : E1 (tOp rEq ta tb) δ μ (D K (.bool false)) μ2 :=
  e_opD h1 h2 fun G H x y p1 p2 Q q => by
    rw [dp_non p1, dp_str p2]
    exact ⟨rfl, q _ (.bl _)⟩
theorem e_eqIS (h1 : E1 ta δ μ (D K (.int i)) μ1) (h2 : E1 tb δ μ1 (D K (.str t)) μ2) : E1 (tOp rEq ta tb) δ μ (D K (.bool false)) μ2 :=
  e_opD h1 h2 fun G H x y p1 p2 Q q => by
    rw [dp_int p1, dp_str p2]
    exact ⟨rfl, q _ (.bl _)⟩
theorem e_eqB (h1 : E1 ta δ μ (D K (.bool a)) μ1) (h2 : E1 tb δ μ1 (D K (.bool b)) μ2) : E1 (tOp rEq ta tb) δ μ (D K (.bool (decide (a = b)))) μ2 :=
  e_opD h1 h2 fun G H x y p1 p2 Q q => by
    rw [dp_bl p1, dp_bl p2]
    exact ⟨rfl, q _ (by rw [show decide (V.bl a = V.bl b) = decide (a = b) by rw [decide_eq_decide]; exact ⟨fun h => by cases h; rfl, fun h => by rw [h]⟩]; exact .bl _)⟩
theorem e_eqD (h1 : E1 ta δ μ P1 μ1) (h2 : E1 tb δ μ1 P2 μ2) (r1 : DR K P1 μ2 d) (r2 : DR K P2 μ2 e) (s1 : SeqAt.shaped d = true) (s2 : SeqAt.shaped e = true) (hb : PyData.eqv d e = b) : E1 (tOp (rEqD K) ta tb) δ μ (D K (.bool b)) μ2 :=
  e_op h1 h2 fun G H F M x y m mm p1 p2 Q q => ⟨d, e, r1 G x M F H p1 mm m, r2 G y M F H p2 mm m, s1, s2, by rw [hb]; exact q _ G M H (Ex.refl _) m (.bl _) mm⟩
theorem e_neD (h1 : E1 ta δ μ P1 μ1) (h2 : E1 tb δ μ1 P2 μ2) (r1 : DR K P1 μ2 d) (r2 : DR K P2 μ2 e) (s1 : SeqAt.shaped d = true) (s2 : SeqAt.shaped e = true) (hb : PyData.eqv d e = b) : E1 (tOp (rNeD K) ta tb) δ μ (D K (.bool (!b))) μ2 :=
  e_op h1 h2 fun G H F M x y m mm p1 p2 Q q => ⟨d, e, r1 G x M F H p1 mm m, r2 G y M F H p2 mm m, s1, s2, by rw [hb]; exact q _ G M H (Ex.refl _) m (.bl _) mm⟩
theorem e_inD (h1 : E1 ta δ μ P1 μ1) (h2 : E1 tb δ μ1 P2 μ2) (r1 : DR K P1 μ2 d) (r2 : DR K P2 μ2 (.list ds)) (s1 : SeqAt.shaped d = true) (s2 : SeqAt.shaped (.list ds) = true) (hb : (ds.any fun z => PyData.eqv z d) = b) : E1 (tOp (rInD K) ta tb) δ μ (D K (.bool b)) μ2 :=
  e_op h1 h2 fun G H F M x y m mm p1 p2 Q q => ⟨d, ds, r1 G x M F H p1 mm m, r2 G y M F H p2 mm m, s1, s2, by rw [hb]; exact q _ G M H (Ex.refl _) m (.bl _) mm⟩
theorem e_ninD (h1 : E1 ta δ μ P1 μ1) (h2 : E1 tb δ μ1 P2 μ2) (r1 : DR K P1 μ2 d) (r2 : DR K P2 μ2 (.list ds)) (s1 : SeqAt.shaped d = true) (s2 : SeqAt.shaped (.list ds) = true) (hb : (ds.any fun z => PyData.eqv z d) = b) : E1 (tOp (rNotInD K) ta tb) δ μ (D K (.bool (!b))) μ2 :=
  e_op h1 h2 fun G H F M x y m mm p1 p2 Q q => ⟨d, ds, r1 G x M F H p1 mm m, r2 G y M F H p2 mm m, s1, s2, by rw [hb]; exact q _ G M H (Ex.refl _) m (.bl _) mm⟩
def isNon : PyData → Bool
  | .none => true
  | _ => false
theorem dp_isNon {G : Hp} {v : V} (h : Dp K G v d) : decide (v = .non) = isNon d := by cases h <;> rfl
theorem e_un {r : V → Hp → VK → Prop} (h : E1 ta δ μ P1 μ1) (hr : ∀ G H F M x, Me G (M ++ F) H → Mm G M μ1 → P1.p G x → ∀ Q : VK, (∀ v G2 M2 H2, Ex G G2 → Me G2 (M2 ++ F) H2 → P.p G2 v → Mm G2 M2 μ2 → Q v H2) → r x H Q) : E1 (tUn r ta) δ μ P μ2 := fun σ G M s m G1 H F e m1 Q q =>
  h σ G M s m G1 H F e m1 _ fun x G2 M2 H2 e2 m2 r2 => hr G2 H2 F M2 x m2 r2.2 r2.1 Q fun v G4 M4 H4 e4 m4 p4 mm4 => q v G4 M4 H4 (e2.trans e4) m4 ⟨p4, mm4⟩
theorem e_neg (h : E1 ta δ μ (D K (.int i)) μ1) : E1 (tUn (rU fun i => .int (-i)) ta) δ μ (D K (.int (-i))) μ1 := e_un h fun G H F M x m mm p Q q => by
  rw [dp_int p]
  exact ⟨i, rfl, q _ G M H (Ex.refl _) m (.int _) mm⟩
theorem e_isN (h : E1 ta δ μ (D K d) μ1) : E1 (tIsN ta) δ μ (D K (.bool (isNon d))) μ1 := fun σ G M s m G1 H F e m1 Q q => h σ G M s m G1 H F e m1 _ fun x G2 M2 H2 e2 m2 r2 => q _ G2 M2 H2 e2 m2 ⟨by rw [dp_isNon r2.1]; exact .bl _, r2.2⟩
theorem e_notN (h : E1 ta δ μ (D K d) μ1) : E1 (tNotN ta) δ μ (D K (.bool (!isNon d))) μ1 := fun σ G M s m G1 H F e m1 Q q => h σ G M s m G1 H F e m1 _ fun x G2 M2 H2 e2 m2 r2 => q _ G2 M2 H2 e2 m2 ⟨by rw [dp_isNon r2.1]; exact .bl _, r2.2⟩
theorem e_isNP (h : E1 ta δ μ P μ1) (hn : ∀ G v, P.p G v → v ≠ .non) : E1 (tIsN ta) δ μ (D K (.bool false)) μ1 := fun σ G M s m G1 H F e m1 Q q => h σ G M s m G1 H F e m1 _ fun x G2 M2 H2 e2 m2 r2 => q _ G2 M2 H2 e2 m2 ⟨by rw [decide_eq_false (hn _ _ r2.1)]; exact .bl _, r2.2⟩
theorem e_and (h1 : E1 ta δ μ (D K (.bool a)) μ1) (h2 : a = true → E1 tb δ μ1 (D K (.bool b)) μ1) : E1 (tAndV ta tb) δ μ (D K (.bool (a && b))) μ1 := fun σ G M s m G1 H F e m1 Q q => h1 σ G M s m G1 H F e m1 _ fun x G2 M2 H2 e2 m2 r2 => by
  rw [dp_bl r2.1]
  refine ⟨a, rfl, ?_⟩
  cases a with
  | true =>
    rw [if_pos rfl]
    exact h2 rfl σ G2 M2 (s.mono (e.trans e2)) r2.2 G2 H2 F (Ex.refl _) m2 Q fun v G3 M3 H3 e3 m3 r3 => q v G3 M3 H3 (e2.trans e3) m3 r3
  | false =>
    rw [if_neg Bool.false_ne_true]
    exact q _ G2 M2 H2 e2 m2 ⟨.bl false, r2.2⟩
theorem e_or (h1 : E1 ta δ μ (D K (.bool a)) μ1) (h2 : a = false → E1 tb δ μ1 (D K (.bool b)) μ1) : E1 (tOrV ta tb) δ μ (D K (.bool (a || b))) μ1 := fun σ G M s m G1 H F e m1 Q q => h1 σ G M s m G1 H F e m1 _ fun x G2 M2 H2 e2 m2 r2 => by
  rw [dp_bl r2.1]
  refine ⟨a, rfl, ?_⟩
  cases a with
  | true =>
    rw [if_pos rfl]
    exact q _ G2 M2 H2 e2 m2 ⟨.bl true, r2.2⟩
  | false =>
    rw [if_neg Bool.false_ne_true]
    exact h2 rfl σ G2 M2 (s.mono (e.trans e2)) r2.2 G2 H2 F (Ex.refl _) m2 Q fun v G3 M3 H3 e3 m3 r3 => q v G3 M3 H3 (e2.trans e3) m3 r3
theorem e_not (h1 : E1 ta δ μ (D K (.bool a)) μ1) : E1 (tNotV ta) δ μ (D K (.bool (!a))) μ1 := fun σ G M s m G1 H F e m1 Q q => h1 σ G M s m G1 H F e m1 _ fun x G2 M2 H2 e2 m2 r2 => by
  rw [dp_bl r2.1]
  exact ⟨a, rfl, q _ G2 M2 H2 e2 m2 ⟨.bl _, r2.2⟩⟩
theorem t_B (h : E1 te δ μ (D K (.bool a)) μ1) : T1 (tB te) δ μ a μ1 := fun σ G M s m G1 H F e m1 Q q => h σ G M s m G1 H F e m1 _ fun x G2 M2 H2 e2 m2 r2 => by
  rw [dp_bl r2.1]
  exact ⟨a, rfl, q G2 M2 H2 e2 m2 r2.2⟩
theorem t_test (h : E1 te δ μ (D K (.bool a)) μ1) : T1 (tTest te) δ μ a μ1 := fun σ G M s m G1 H F e m1 Q q => h σ G M s m G1 H F e m1 _ fun x G2 M2 H2 e2 m2 r2 => by
  rw [dp_bl r2.1]
  exact ⟨a, rfl, q G2 M2 H2 e2 m2 r2.2⟩
theorem t_yes : T1 tYes δ μ true μ := fun σ G M s m G1 H F e m1 Q q => q G1 M H (Ex.refl _) m1 (m.mono e)
theorem t_not (h : T1 tt δ μ a μ1) : T1 (tNot tt) δ μ (!a) μ1 := fun σ G M s m G1 H F e m1 Q q => h σ G M s m G1 H F e m1 _ fun G2 M2 H2 e2 m2 r2 => q G2 M2 H2 e2 m2 r2
theorem t_and (h1 : T1 tt δ μ a μ1) (h2 : a = true → T1 tu δ μ1 b μ1) : T1 (tAnd tt tu) δ μ (a && b) μ1 := fun σ G M s m G1 H F e m1 Q q => h1 σ G M s m G1 H F e m1 _ fun G2 M2 H2 e2 m2 r2 => by
  cases a with
  | true =>
    show (if true = true then _ else _)
    rw [if_pos rfl]
    exact h2 rfl σ G2 M2 (s.mono (e.trans e2)) r2 G2 H2 F (Ex.refl _) m2 Q fun G3 M3 H3 e3 m3 r3 => q G3 M3 H3 (e2.trans e3) m3 r3
  | false =>
    show (if false = true then _ else _)
    rw [if_neg Bool.false_ne_true]
    exact q G2 M2 H2 e2 m2 r2
theorem t_or (h1 : T1 tt δ μ a μ1) (h2 : a = false → T1 tu δ μ1 b μ1) : T1 (tOr tt tu) δ μ (a || b) μ1 := fun σ G M s m G1 H F e m1 Q q => h1 σ G M s m G1 H F e m1 _ fun G2 M2 H2 e2 m2 r2 => by
  cases a with
  | true =>
    show (if true = true then _ else _)
    rw [if_pos rfl]
    exact q G2 M2 H2 e2 m2 r2
  | false =>
    show (if false = true then _ else _)
    rw [if_neg Bool.false_ne_true]
    exact h2 rfl σ G2 M2 (s.mono (e.trans e2)) r2 G2 H2 F (Ex.refl _) m2 Q fun G3 M3 H3 e3 m3 r3 => q G3 M3 H3 (e2.trans e3) m3 r3
/-- a if t else b -/
theorem e_if (h : T1 tt δ μ a μ1) (h1 : a = true → E1 ta δ μ1 P μ2) (h2 : a = false → E1 tb δ μ1 P μ2) : E1 (tIf tt ta tb) δ μ P μ2 := fun σ G M s m G1 H F e m1 Q q => h σ G M s m G1 H F e m1 _ fun G2 M2 H2 e2 m2 r2 => by
  cases a with
  | true =>
    show (if true = true then _ else _)
    rw [if_pos rfl]
    exact h1 rfl σ G2 M2 (s.mono (e.trans e2)) r2 G2 H2 F (Ex.refl _) m2 Q fun v G3 M3 H3 e3 m3 r3 => q v G3 M3 H3 (e2.trans e3) m3 r3
  | false =>
    show (if false = true then _ else _)
    rw [if_neg Bool.false_ne_true]
    exact h2 rfl σ G2 M2 (s.mono (e.trans e2)) r2 G2 H2 F (Ex.refl _) m2 Q fun v G3 M3 H3 e3 m3 r3 => q v G3 M3 H3 (e2.trans e3) m3 r3
theorem e_ifI (h : T1 tt δ μ a μ1) (h1 : a = true → E1 ta δ μ1 (D K (.int i)) μ2) (h2 : a = false → E1 tb δ μ1 (D K (.int j)) μ2) : E1 (tIf tt ta tb) δ μ (D K (.int (if a = true then i else j))) μ2 :=
  e_if h (fun z => by rw [if_pos z]; exact h1 z) (fun z => by rw [if_neg (by rw [z]; exact Bool.false_ne_true)]; exact h2 z)
theorem e_ifD (h : T1 tt δ μ a μ1) (h1 : a = true → E1 ta δ μ1 (D K d) μ2) (h2 : a = false → E1 tb δ μ1 (D K e) μ2) : E1 (tIf tt ta tb) δ μ (D K (if a = true then d else e)) μ2 :=
  e_if h (fun z => by rw [if_pos z]; exact h1 z) (fun z => by rw [if_neg (by rw [z]; exact Bool.false_ne_true)]; exact h2 z)
theorem e_ifP (h : T1 tt δ μ a μ1) (h1 : a = true → E1 ta δ μ1 P μ2) (h2 : a = false → E1 tb δ μ1 P1 μ2) : E1 (tIf tt ta tb) δ μ (if a = true then P else P1) μ2 :=
  e_if h (fun z => by rw [if_pos z]; exact h1 z) (fun z => by rw [if_neg (by rw [z]; exact Bool.false_ne_true)]; exact h2 z)
theorem e_ifTr (h : T1 tt δ μ a μ1) (ha : a = true) (h1 : E1 ta δ μ1 P μ2) : E1 (tIf tt ta tb) δ μ P μ2 := e_if h (fun _ => h1) fun z => by rw [ha] at z; cases z
theorem e_ifFa (h : T1 tt δ μ a μ1) (ha : a = false) (h1 : E1 tb δ μ1 P μ2) : E1 (tIf tt ta tb) δ μ P μ2 := e_if h (fun z => by rw [ha] at z; cases z) fun _ => h1
theorem e_chain {r r' : R2} {p p' : Int → Int → Bool} {x y z : Int} (h1 : E1 ta δ μ (D K (.int x)) μ1) (h2 : E1 tb δ μ1 (D K (.int y)) μ2) (h3 : E1 tc δ μ2 (D K (.int z)) μ2)
    (hr : ∀ H (Q : VK), Q (.bl (p x y)) H → r (.int x) (.int y) H Q) (hr' : ∀ H (Q : VK), Q (.bl (p' y z)) H → r' (.int y) (.int z) H Q) : E1 (tChain r r' ta tb tc) δ μ (D K (.bool (p x y && p' y z))) μ2 := fun σ G M s m G1 H F e m1 Q q =>
  h1 σ G M s m G1 H F e m1 _ fun v G2 M2 H2 e2 m2 r2 => by
    rw [dp_int r2.1]
    refine h2 σ G2 M2 (s.mono (e.trans e2)) r2.2 G2 H2 F (Ex.refl _) m2 _ fun v G3 M3 H3 e3 m3 r3 => ?_
    rw [dp_int r3.1]
    refine hr _ _ ⟨_, rfl, ?_⟩
    generalize p x y = pij at q ⊢
    cases pij with
    | true =>
      show (if true = true then _ else _)
      rw [if_pos rfl]
      refine h3 σ G3 M3 (s.mono ((e.trans e2).trans e3)) r3.2 G3 H3 F (Ex.refl _) m3 _ fun v G4 M4 H4 e4 m4 r4 => ?_
      rw [dp_int r4.1]
      exact hr' _ _ (q _ G4 _ H4 ((e2.trans e3).trans e4) m4 ⟨by rw [Bool.true_and]; exact .bl _, r4.2⟩)
    | false =>
      show (if false = true then _ else _)
      rw [if_neg Bool.false_ne_true]
      exact q _ G3 _ H3 (e2.trans e3) m3 ⟨by rw [Bool.false_and]; exact .bl _, r3.2⟩
theorem e_chLeLe {x y z : Int} (h1 : E1 ta δ μ (D K (.int x)) μ1) (h2 : E1 tb δ μ1 (D K (.int y)) μ2) (h3 : E1 tc δ μ2 (D K (.int z)) μ2) : E1 (tChain (rI0 fun i j => .bl (decide (i ≤ j))) (rI0 fun i j => .bl (decide (i ≤ j))) ta tb tc) δ μ (D K (.bool (decide (x ≤ y) && decide (y ≤ z)))) μ2 :=
  e_chain (p := fun i j => decide (i ≤ j)) (p' := fun i j => decide (i ≤ j)) h1 h2 h3 (fun _ _ q => ⟨_, _, rfl, rfl, q⟩) (fun _ _ q => ⟨_, _, rfl, rfl, q⟩)
theorem e_chLeLt {x y z : Int} (h1 : E1 ta δ μ (D K (.int x)) μ1) (h2 : E1 tb δ μ1 (D K (.int y)) μ2) (h3 : E1 tc δ μ2 (D K (.int z)) μ2) : E1 (tChain (rI0 fun i j => .bl (decide (i ≤ j))) (rI0 fun i j => .bl (decide (i < j))) ta tb tc) δ μ (D K (.bool (decide (x ≤ y) && decide (y < z)))) μ2 :=
  e_chain (p := fun i j => decide (i ≤ j)) (p' := fun i j => decide (i < j)) h1 h2 h3 (fun _ _ q => ⟨_, _, rfl, rfl, q⟩) (fun _ _ q => ⟨_, _, rfl, rfl, q⟩)
theorem a_nil : EA tNil δ μ [] μ := fun σ G M s m G1 H F e m1 Q q => q [] G1 M H (Ex.refl _) m1 trivial (m.mono e)
theorem a_cons (h1 : E1 ta δ μ P μ1) (h2 : EA tr δ μ1 Ps μ2) : EA (tCons ta tr) δ μ (P :: Ps) μ2 := fun σ G M s m G1 H F e m1 Q q =>
  h1 σ G M s m G1 H F e m1 _ fun v G2 M2 H2 e2 m2 r2 => h2 σ G2 M2 (s.mono (e.trans e2)) r2.2 G2 H2 F (Ex.refl _) m2 _ fun vs G3 M3 H3 e3 m3 a3 r3 => q (v :: vs) G3 M3 H3 (e2.trans e3) m3 ⟨P.m _ _ _ e3 r2.1, a3⟩ r3
theorem EA.imp {Ps' : List Pr} (h : EA tA δ μ Ps μ') (f : ∀ G vs, AP G Ps vs → AP G Ps' vs) : EA tA δ μ Ps' μ' := fun σ G M s m G1 H F e m1 Q q => h σ G M s m G1 H F e m1 Q fun vs G2 M2 H2 e2 m2 a2 r2 => q vs G2 M2 H2 e2 m2 (f _ _ a2) r2
/-- data alone -/
def ED (K : PySem.W.Frag) (tA : TA) (δ : En) (μ : Mp) (ds : List PyData) (μ' : Mp) : Prop := EA tA δ μ (ds.map (D K)) μ'
theorem d_nil : ED K tNil δ μ [] μ := a_nil
theorem d_cons (h1 : E1 ta δ μ (D K d) μ1) (h2 : ED K tr δ μ1 ds μ2) : ED K (tCons ta tr) δ μ (d :: ds) μ2 := a_cons h1 h2
/-- *xs among the items -/
theorem d_star (h1 : E1 te δ μ P μ1) (hl : LR K P μ1 ds) (h2 : ED K tr δ μ1 es μ1) (hs : δ = δ) : ED K (StX.tStar K te tr) δ μ (ds ++ es) μ1 := fun σ G M s m G1 H F e m1 Q q =>
  h1 σ G M s m G1 H F e m1 _ fun v G2 M2 H2 e2 m2 r2 => by
    obtain ⟨p, xs, rfl, h3, h4⟩ := hl.at G2 v M2 F H2 r2.1 r2.2 m2
    refine ⟨p, xs, rfl, .inr h3, h2 σ G2 M2 (s.mono (e.trans e2)) r2.2 G2 H2 F (Ex.refl _) m2 _ fun vs G3 M3 H3 e3 m3 a3 r3 => q _ G3 M3 H3 (e2.trans e3) m3 ?_ r3⟩
    have := dpa_app (dma h4 e3) (AP.dpa a3)
    clear q h2 h3 a3 m3 r3
    revert this
    generalize xs ++ vs = zs
    generalize ds ++ es = fs
    intro h
    induction fs generalizing zs with
    | nil => cases h; trivial
    | cons f fs ih =>
      cases h with
      | cons x y => exact ⟨x, ih _ y⟩
theorem e_tup (h : ED K tA δ μ ds μ') (hl : ds.length ≤ 1000) : E1 (tTup tA) δ μ (D K (.tuple ds)) μ' := fun σ G M s m G1 H F e m1 Q q =>
  h σ G M s m G1 H F e m1 _ fun vs G2 M2 H2 e2 m2 a2 r2 => ⟨by rw [dpa_len (AP.dpa a2)]; exact Nat.le_of_lt (small1000 hl), fun p hp => by
    have g2 := m2.free hp
    exact q _ _ _ _ (e2.trans (Ex.new g2)) (m2.newF hp) ⟨.tup (SqT.of upd_same) (dma (AP.dpa a2) (Ex.new g2)), r2.mono (Ex.new g2)⟩⟩
theorem o_lst (h : ED K tA δ μ ds μ') (hl : ds.length ≤ 100000) : EO K (tLst tA) δ μ ds μ' := fun σ G M s m G1 H F e m1 Q q =>
  h σ G M s m G1 H F e m1 _ fun vs G2 M2 H2 e2 m2 a2 r2 => ⟨by rw [dpa_len (AP.dpa a2)]; exact Nat.le_of_lt (sz_ok hl), fun p hp =>
    q _ _ _ _ e2 (m2.newMid hp) ⟨p, vs, M2, rfl, rfl, AP.dpa a2, r2⟩⟩
/-- tuples of any values -/
def Tp (Ps : List Pr) : Pr := ⟨fun G v => ∃ a vs, v = .ref a ∧ G a = some (.tup vs) ∧ AP G Ps vs, fun G G' v e h => by obtain ⟨a, vs, h1, h2, h3⟩ := h; exact ⟨a, vs, h1, e _ _ h2, AP.mono h3 e⟩⟩
def Lp (Ps : List Pr) : Pr := ⟨fun G v => ∃ a vs, v = .ref a ∧ G a = some (.lst vs) ∧ AP G Ps vs, fun G G' v e h => by obtain ⟨a, vs, h1, h2, h3⟩ := h; exact ⟨a, vs, h1, e _ _ h2, AP.mono h3 e⟩⟩
theorem e_tupP (h : EA tA δ μ Ps μ') (hl : Ps.length ≤ 1000) : E1 (tTup tA) δ μ (Tp Ps) μ' := fun σ G M s m G1 H F e m1 Q q =>
  h σ G M s m G1 H F e m1 _ fun vs G2 M2 H2 e2 m2 a2 r2 => ⟨by rw [AP.len a2]; exact Nat.le_of_lt (small1000 hl), fun p hp => by
    have g2 := m2.free hp
    exact q _ _ _ _ (e2.trans (Ex.new g2)) (m2.newF hp) ⟨⟨p, vs, rfl, upd_same, AP.mono a2 (Ex.new g2)⟩, r2.mono (Ex.new g2)⟩⟩
theorem e_lstP (h : EA tA δ μ Ps μ') (hl : Ps.length ≤ 1000) : E1 (tLst tA) δ μ (Lp Ps) μ' := fun σ G M s m G1 H F e m1 Q q =>
  h σ G M s m G1 H F e m1 _ fun vs G2 M2 H2 e2 m2 a2 r2 => ⟨by rw [AP.len a2]; exact Nat.le_of_lt (small1000 hl), fun p hp => by
    have g2 := m2.free hp
    exact q _ _ _ _ (e2.trans (Ex.new g2)) (m2.newF hp) ⟨⟨p, vs, rfl, upd_same, AP.mono a2 (Ex.new g2)⟩, r2.mono (Ex.new g2)⟩⟩
theorem ixLp {Ps : List Pr} {i : Int} {vs : List V} {G : Hp} (ha : AP G Ps vs) (hi : atI Ps i = some P) : ∃ v, atI vs i = some v ∧ P.p G v := by
  unfold atI at hi ⊢
  obtain ⟨k, hk, hd⟩ := Option.bind_eq_some_iff.mp hi
  obtain ⟨v, h1, h2⟩ := AP.get ha hd
  exact ⟨v, by rw [AP.len ha, hk]; exact h1, h2⟩
theorem e_ixTp (h1 : E1 ta δ μ (Tp Ps) μ1) (h2 : E1 tb δ μ1 (D K (.int i)) μ2) (hx : atI Ps i = some P) : E1 (tOp (rIxT K) ta tb) δ μ P μ2 :=
  e_op h1 h2 fun G H F M x y m mm p1 p2 Q q => by
    rw [dp_int p2]
    obtain ⟨a, vs, rfl, h3, h4⟩ := p1
    obtain ⟨v, h5, h6⟩ := ixLp h4 hx
    exact ⟨a, vs, i, v, rfl, rfl, SqT.of (m.ex _ _ h3), h5, q _ G M H (Ex.refl _) m h6 mm⟩
theorem e_ixLp (h1 : E1 ta δ μ (Lp Ps) μ1) (h2 : E1 tb δ μ1 (D K (.int i)) μ2) (hx : atI Ps i = some P) : E1 (tOp (rIxL K) ta tb) δ μ P μ2 :=
  e_op h1 h2 fun G H F M x y m mm p1 p2 Q q => by
    rw [dp_int p2]
    obtain ⟨a, vs, rfl, h3, h4⟩ := p1
    obtain ⟨v, h5, h6⟩ := ixLp h4 hx
    exact ⟨a, vs, i, v, rfl, rfl, SqL.of (m.ex _ _ h3), h5, q _ G M H (Ex.refl _) m h6 mm⟩
theorem dpa_ix {G : Hp} {vs : List V} (ha : DpAll K G vs ds) (hi : atI ds i = some d) : ∃ v, atI vs i = some v ∧ Dp K G v d := by
  unfold atI at hi ⊢
  obtain ⟨k, hk, hd⟩ := Option.bind_eq_some_iff.mp hi
  obtain ⟨v, h1, h2⟩ := dpa_at ha hd
  exact ⟨v, by rw [dpa_len ha, hk]; exact h1, h2⟩
theorem e_ixT (h1 : E1 ta δ μ (D K (.tuple ds)) μ1) (h2 : E1 tb δ μ1 (D K (.int i)) μ2) (hx : atI ds i = some d) : E1 (tOp (rIxT K) ta tb) δ μ (D K d) μ2 :=
  e_op h1 h2 fun G H F M x y m mm p1 p2 Q q => by
    rw [dp_int p2]
    obtain ⟨a, vs, rfl, h3, h4⟩ := dp_tup p1
    obtain ⟨v, h5, h6⟩ := dpa_ix h4 hx
    exact ⟨a, vs, i, v, rfl, rfl, ex_t m.ex h3, h5, q _ G M H (Ex.refl _) m h6 mm⟩
theorem e_ixL (h1 : E1 ta δ μ P1 μ1) (h2 : E1 tb δ μ1 (D K (.int i)) μ2) (hl : LR K P1 μ2 ds) (hx : atI ds i = some d) : E1 (tOp (rIxL K) ta tb) δ μ (D K d) μ2 :=
  e_op h1 h2 fun G H F M x y m mm p1 p2 Q q => by
    rw [dp_int p2]
    obtain ⟨a, vs, rfl, h3, h4⟩ := hl.at G x M F H p1 mm m
    obtain ⟨v, h5, h6⟩ := dpa_ix h4 hx
    exact ⟨a, vs, i, v, rfl, rfl, h3, h5, q _ G M H (Ex.refl _) m h6 mm⟩
theorem atI_map {α : Type} {enc : α → PyData} {xs : List α} {x : α} (h0 : 0 ≤ i) (h1 : i < xs.length) : atI (xs.map enc) i = some (enc (xs.getD i.toNat x)) := by
  unfold atI ixN
  have : i.toNat < xs.length := by omega
  rw [if_pos h0, if_pos (by simpa using h1)]
  simp [this]
theorem e_ixLI {xs : List Int} (h1 : E1 ta δ μ P1 μ1) (h2 : E1 tb δ μ1 (D K (.int i)) μ2) (hl : LR K P1 μ2 (xs.map .int)) (h : 0 ≤ i ∧ i < xs.length) : E1 (tOp (rIxL K) ta tb) δ μ (D K (.int (xs.getD i.toNat 0))) μ2 := e_ixL h1 h2 hl (atI_map h.1 h.2)
theorem e_ixLC {xs : List (List Int)} (h1 : E1 ta δ μ P1 μ1) (h2 : E1 tb δ μ1 (D K (.int i)) μ2) (hl : LR K P1 μ2 (xs.map colD)) (h : 0 ≤ i ∧ i < xs.length) : E1 (tOp (rIxL K) ta tb) δ μ (D K (colD (xs.getD i.toNat []))) μ2 := e_ixL h1 h2 hl (atI_map h.1 h.2)
theorem e_ixTI {xs : List Int} (h1 : E1 ta δ μ (D K (.tuple (xs.map .int))) μ1) (h2 : E1 tb δ μ1 (D K (.int i)) μ2) (h : 0 ≤ i ∧ i < xs.length) : E1 (tOp (rIxT K) ta tb) δ μ (D K (.int (xs.getD i.toNat 0))) μ2 := e_ixT h1 h2 (atI_map h.1 h.2)
theorem e_ixLM {α : Type} {enc : α → PyData} {xs : List α} (x : α) (h1 : E1 ta δ μ P1 μ1) (h2 : E1 tb δ μ1 (D K (.int i)) μ2) (hl : LR K P1 μ2 (xs.map enc)) (h : 0 ≤ i ∧ i < xs.length) : E1 (tOp (rIxL K) ta tb) δ μ (D K (enc (xs.getD i.toNat x))) μ2 := e_ixL h1 h2 hl (atI_map h.1 h.2)
theorem e_CB {r : List V → Hp → VK → Prop} (h : EA tA δ μ Ps μ1) (hr : ∀ G H F M vs, Me G (M ++ F) H → Mm G M μ1 → AP G Ps vs → ∀ Q : VK, (∀ v G2 M2 H2, Ex G G2 → Me G2 (M2 ++ F) H2 → P.p G2 v → Mm G2 M2 μ2 → Q v H2) → r vs H Q) : E1 (tCB r tA) δ μ P μ2 := fun σ G M s m G1 H F e m1 Q q =>
  h σ G M s m G1 H F e m1 _ fun vs G2 M2 H2 e2 m2 a2 r2 => hr G2 H2 F M2 vs m2 r2 a2 Q fun v G3 M3 H3 e3 m3 p3 mm3 => q v G3 M3 H3 (e2.trans e3) m3 ⟨p3, mm3⟩
theorem e_CB1 {r : List V → Hp → VK → Prop} (h : E1 ta δ μ P1 μ1) (hr : ∀ G H F M v, Me G (M ++ F) H → Mm G M μ1 → P1.p G v → ∀ Q : VK, (∀ v G2 M2 H2, Ex G G2 → Me G2 (M2 ++ F) H2 → P.p G2 v → Mm G2 M2 μ2 → Q v H2) → r [v] H Q) : E1 (tCB r (tCons ta tNil)) δ μ P μ2 :=
  e_CB (a_cons h a_nil) fun G H F M vs m mm p Q q => by
    match vs, p with
    | [v], ⟨p1, _⟩ => exact hr G H F M v m mm p1 Q q
theorem e_isi {T : String} (h : E1 ta δ μ (D K d) μ1) (hT : T = "int" ∨ T = "bool" ∨ T = "tuple" ∨ T = "list" ∨ T = "str") : E1 (tCB (rIsi K) (tCons ta (tCons (tC (.ty T)) tNil))) δ μ (D K (.bool (isTy d T))) μ1 :=
  e_CB (a_cons h (a_cons (e_cst (P := Cv (.ty T)) fun _ => rfl) a_nil)) fun G H F M vs m mm p Q q => by
    match vs, p with
    | [v, c], ⟨p1, p2, _⟩ =>
      have p2 : c = .ty T := p2
      subst p2
      have p1 : Dp K G v d := p1
      refine ⟨v, .ty T, .type (tyName d), .type T, isTy d T, rfl, .ty T, tyx_of (dm p1 m.ex), kit_ty ?_, q _ G M H (Ex.refl _) m (.bl _) mm⟩
      unfold isTy
      cases p1 <;> dsimp only [tyName] <;> rcases hT with rfl | rfl | rfl | rfl | rfl <;> decide +kernel
theorem e_len (h : E1 ta δ μ P1 μ1) (hl : LR K P1 μ1 ds) : E1 (tCB (rLenS K) (tCons ta tNil)) δ μ (D K (.int (ds.length : Int))) μ1 :=
  e_CB1 h fun G H F M v m mm p Q q => by
    obtain ⟨a, xs, rfl, h3, h4⟩ := hl.at G v M F H p mm m
    exact ⟨a, xs, rfl, .inl h3, q _ G M H (Ex.refl _) m (by rw [dpa_len h4]; exact .int _) mm⟩
theorem e_lenT (h : E1 ta δ μ (D K (.tuple ds)) μ1) : E1 (tCB (rLenS K) (tCons ta tNil)) δ μ (D K (.int (ds.length : Int))) μ1 :=
  e_CB1 h fun G H F M v m mm p Q q => by
    obtain ⟨a, xs, rfl, h3, h4⟩ := dp_tup p
    exact ⟨a, xs, rfl, .inr (ex_t m.ex h3), q _ G M H (Ex.refl _) m (by rw [dpa_len h4]; exact .int _) mm⟩
theorem o_list (h : E1 ta δ μ P1 μ1) (hl : LR K P1 μ1 ds) : EO K (tCB (rListS K) (tCons ta tNil)) δ μ ds μ1 := fun σ G M s m G1 H F e m1 Q q =>
  h σ G M s m G1 H F e m1 _ fun v G2 M2 H2 e2 m2 r2 => by
    obtain ⟨a, xs, rfl, h3, h4⟩ := hl.at G2 v M2 F H2 r2.1 r2.2 m2
    exact ⟨a, xs, rfl, .inl h3, fun l hl => q _ G2 _ _ e2 (m2.newMid hl) ⟨l, xs, M2, rfl, rfl, h4, r2.2⟩⟩
theorem o_listT (h : E1 ta δ μ (D K (.tuple ds)) μ1) : EO K (tCB (rListS K) (tCons ta tNil)) δ μ ds μ1 := fun σ G M s m G1 H F e m1 Q q =>
  h σ G M s m G1 H F e m1 _ fun v G2 M2 H2 e2 m2 r2 => by
    obtain ⟨a, xs, rfl, h3, h4⟩ := dp_tup r2.1
    exact ⟨a, xs, rfl, .inr (ex_t m2.ex h3), fun l hl => q _ G2 _ _ e2 (m2.newMid hl) ⟨l, xs, M2, rfl, rfl, h4, r2.2⟩⟩
theorem e_tupL (h : E1 ta δ μ P1 μ1) (hl : LR K P1 μ1 ds) : E1 (tCB (rTupS K) (tCons ta tNil)) δ μ (D K (.tuple ds)) μ1 :=
  e_CB1 h fun G H F M v m mm p Q q => by
    obtain ⟨a, xs, rfl, h3, h4⟩ := hl.at G v M F H p mm m
    refine ⟨a, xs, rfl, .inl ⟨h3, fun l hl => ?_⟩⟩
    have g1 := m.free hl
    exact q _ _ M _ (Ex.new g1) (m.newF hl) (.tup (SqT.of upd_same) (dma h4 (Ex.new g1))) (mm.mono (Ex.new g1))
theorem e_tupT (h : E1 ta δ μ (D K (.tuple ds)) μ1) : E1 (tCB (rTupS K) (tCons ta tNil)) δ μ (D K (.tuple ds)) μ1 :=
  e_CB1 h fun G H F M v m mm p Q q => by
    obtain ⟨a, xs, rfl, h3, h4⟩ := dp_tup p
    exact ⟨a, xs, rfl, .inr ⟨ex_t m.ex h3, q _ G M H (Ex.refl _) m p mm⟩⟩
theorem e_int (h : E1 ta δ μ (D K (.int i)) μ1) : E1 (tCB rInt1 (tCons ta tNil)) δ μ (D K (.int i)) μ1 :=
  e_CB1 h fun G H F M v m mm p Q q => .inl ⟨i, by rw [dp_int p], q _ G M H (Ex.refl _) m (.int i) mm⟩
theorem e_intB (h : E1 ta δ μ (D K (.bool a)) μ1) : E1 (tCB rInt1 (tCons ta tNil)) δ μ (D K (.int (if a then 1 else 0))) μ1 :=
  e_CB1 h fun G H F M v m mm p Q q => .inr ⟨a, by rw [dp_bl p], q _ G M H (Ex.refl _) m (.int _) mm⟩
theorem e_sum {ns : List Int} (h : E1 ta δ μ P1 μ1) (hl : LR K P1 μ1 (ns.map .int)) : E1 (tCB (rSum K) (tCons ta tNil)) δ μ (D K (.int ns.sum)) μ1 :=
  e_CB1 h fun G H F M v m mm p Q q => by
    obtain ⟨a, xs, rfl, h3, h4⟩ := hl.at G v M F H p mm m
    rw [dpAll_ints h4] at h3
    exact ⟨a, ns, rfl, h3, q _ G M H (Ex.refl _) m (.int _) mm⟩
theorem e_sumT {ns : List Int} (h : E1 ta δ μ (D K (.tuple (ns.map .int))) μ1) : E1 (tCB (rSumT K) (tCons ta tNil)) δ μ (D K (.int ns.sum)) μ1 :=
  e_CB1 h fun G H F M v m mm p Q q => by
    obtain ⟨a, xs, rfl, h3, h4⟩ := dp_tup p
    rw [dpAll_ints h4] at h3
    exact ⟨a, ns, rfl, ex_t m.ex h3, q _ G M H (Ex.refl _) m (.int _) mm⟩
theorem e_sumC {c : List Int} (h : E1 ta δ μ (D K (colD c)) μ1) : E1 (tCB (rSumT K) (tCons ta tNil)) δ μ (D K (.int c.sum)) μ1 := e_sumT h
theorem e_all {bs : List Bool} (h : E1 ta δ μ (D K (.list (bs.map .bool))) μ1) : E1 (tCB (rAll K) (tCons ta tNil)) δ μ (D K (.bool (bs.all id))) μ1 :=
  e_CB1 h fun G H F M v m mm p Q q => by
    obtain ⟨a, xs, rfl, h3, h4⟩ := dp_lst p
    rw [dpAll_bls h4] at h3
    exact ⟨a, bs, rfl, ex_l m.ex h3, q _ G M H (Ex.refl _) m (.bl _) mm⟩
theorem e_any {bs : List Bool} (h : E1 ta δ μ (D K (.list (bs.map .bool))) μ1) : E1 (tCB (rAny K) (tCons ta tNil)) δ μ (D K (.bool (bs.any id))) μ1 :=
  e_CB1 h fun G H F M v m mm p Q q => by
    obtain ⟨a, xs, rfl, h3, h4⟩ := dp_lst p
    rw [dpAll_bls h4] at h3
    exact ⟨a, bs, rfl, ex_l m.ex h3, q _ G M H (Ex.refl _) m (.bl _) mm⟩
theorem o_cat (h1 : E1 ta δ μ P1 μ1) (h2 : E1 tb δ μ1 P2 μ2) (l1 : LR K P1 μ2 ds) (l2 : LR K P2 μ2 es) (hl : ds.length + es.length ≤ 100000) : EO K (tOp (rCatS K) ta tb) δ μ (ds ++ es) μ2 := fun σ G M s m G1 H F e m1 Q q =>
  h1 σ G M s m G1 H F e m1 _ fun x G2 M2 H2 e2 m2 r2 => h2 σ G2 M2 (s.mono (e.trans e2)) r2.2 G2 H2 F (Ex.refl _) m2 _ fun y G3 M3 H3 e3 m3 r3 => by
    obtain ⟨a, xs, rfl, h3, h4⟩ := l1.at G3 x M3 F H3 (P1.m _ _ _ e3 r2.1) r3.2 m3
    obtain ⟨b, ys, rfl, h5, h6⟩ := l2.at G3 y M3 F H3 r3.1 r3.2 m3
    refine ⟨a, b, xs, ys, rfl, rfl, h3, h5, ?_, fun p hp => ?_⟩
    · rw [dpa_len h4, dpa_len h6]
      exact Nat.le_of_lt (sz_ok hl)
    · exact q _ G3 _ _ (e2.trans e3) (m3.newMid hp) ⟨p, _, M3, rfl, rfl, dpa_app h4 h6, r3.2⟩
theorem o_catM {α : Type} {enc : α → PyData} {xs ys : List α} (h1 : E1 ta δ μ P1 μ1) (h2 : E1 tb δ μ1 P2 μ2) (l1 : LR K P1 μ2 (xs.map enc)) (l2 : LR K P2 μ2 (ys.map enc)) (hl : xs.length + ys.length ≤ 100000) : EO K (tOp (rCatS K) ta tb) δ μ ((xs ++ ys).map enc) μ2 := by
  rw [List.map_append]
  exact o_cat h1 h2 l1 l2 (by simpa using hl)
theorem e_catT (h1 : E1 ta δ μ (D K (.tuple ds)) μ1) (h2 : E1 tb δ μ1 (D K (.tuple es)) μ2) (hl : ds.length + es.length ≤ 100000) : E1 (tOp (rCatA K) ta tb) δ μ (D K (.tuple (ds ++ es))) μ2 := fun σ G M s m G1 H F e m1 Q q =>
  h1 σ G M s m G1 H F e m1 _ fun x G2 M2 H2 e2 m2 r2 => h2 σ G2 M2 (s.mono (e.trans e2)) r2.2 G2 H2 F (Ex.refl _) m2 _ fun y G3 M3 H3 e3 m3 r3 => by
    refine ev_catT (K := K) (ds := ds) (es := es) (σ := []) (G := G3) (M := M3) (ta := fun _ H Q => Q x H) (tb := fun _ H Q => Q y H) (M1 := M3) (M2 := M3) (fun G1 H F e m Q q => q x G1 _ H (Ex.refl _) m ⟨dm r2.1 (e3.trans e), rfl⟩) (fun G1 H F e m Q q => q y G1 _ H (Ex.refl _) m ⟨dm r3.1 e, rfl⟩) hl G3 H3 F (Ex.refl _) m3 Q fun v G4 M4 H4 e4 m4 r4 => ?_
    obtain ⟨r4, rfl⟩ := r4
    exact q v G4 _ H4 ((e2.trans e3).trans e4) m4 ⟨r4, r3.2.mono e4⟩
def cutG {α : Type} (xs : List α) (lo hi : Option Int) : List α := (xs.drop (HT.sIx xs.length 0 lo)).take (HT.sIx xs.length xs.length hi - HT.sIx xs.length 0 lo)
theorem cutG_map {α β : Type} (f : α → β) (xs : List α) (lo hi : Option Int) : cutG (xs.map f) lo hi = (cutG xs lo hi).map f := by
  unfold cutG
  simp [List.map_drop, List.map_take]
/-- a bound of a slice -/
def OY (to : TO) (δ : En) (μ : Mp) (o : Option Int) : Prop := ∀ σ G M, Sl G σ δ → Mm G M μ → ∀ G1 H F, Ex G G1 → Me G1 (M ++ F) H → ∀ Q : Option Int → Hp → Prop, (∀ G2 M2 H2, Ex G1 G2 → Me G2 (M2 ++ F) H2 → Mm G2 M2 μ → Q o H2) → to σ H Q
theorem y_none : OY tNoPart δ μ none := fun σ G M s m G1 H F e m1 Q q => q G1 M H (Ex.refl _) m1 (m.mono e)
theorem y_some (h : E1 ta δ μ (D K (.int i)) μ) : OY (tPart ta) δ μ (some i) := fun σ G M s m G1 H F e m1 Q q => h σ G M s m G1 H F e m1 _ fun x G2 M2 H2 e2 m2 r2 => by
  rw [dp_int r2.1]
  exact ⟨i, rfl, q G2 M2 H2 e2 m2 r2.2⟩
theorem o_sl {tl th : TO} {lo hi : Option Int} (h : E1 te δ μ P1 μ1) (hl : OY tl δ μ1 lo) (hh : OY th δ μ1 hi) (l : LR K P1 μ1 ds) : EO K (tSl (rSlL K) te tl th) δ μ (cutG ds lo hi) μ1 := fun σ G M s m G1 H F e m1 Q q =>
  h σ G M s m G1 H F e m1 _ fun x G2 M2 H2 e2 m2 r2 => hl σ G2 M2 (s.mono (e.trans e2)) r2.2 G2 H2 F (Ex.refl _) m2 _ fun G3 M3 H3 e3 m3 r3 => hh σ G3 M3 (s.mono ((e.trans e2).trans e3)) r3 G3 H3 F (Ex.refl _) m3 _ fun G4 M4 H4 e4 m4 r4 => by
    obtain ⟨a, xs, rfl, h3, h4⟩ := l.at G4 x M4 F H4 (P1.m _ _ _ (e3.trans e4) r2.1) r4 m4
    exact ⟨a, xs, rfl, h3, fun p hp => q _ G4 _ _ ((e2.trans e3).trans e4) (m4.newMid hp) ⟨p, _, M4, rfl, rfl, dpa_cut h4 lo hi, r4⟩⟩
theorem o_slM {α : Type} {enc : α → PyData} {xs : List α} {tl th : TO} {lo hi : Option Int} (h : E1 te δ μ P1 μ1) (hl : OY tl δ μ1 lo) (hh : OY th δ μ1 hi) (l : LR K P1 μ1 (xs.map enc)) : EO K (tSl (rSlL K) te tl th) δ μ ((cutG xs lo hi).map enc) μ1 := by
  rw [← cutG_map]
  exact o_sl h hl hh l
theorem e_slT {tl th : TO} {lo hi : Option Int} (h : E1 te δ μ (D K (.tuple ds)) μ1) (hl : OY tl δ μ1 lo) (hh : OY th δ μ1 hi) : E1 (tSl (rSlA K) te tl th) δ μ (D K (.tuple (cutG ds lo hi))) μ1 := fun σ G M s m G1 H F e m1 Q q =>
  h σ G M s m G1 H F e m1 _ fun x G2 M2 H2 e2 m2 r2 => hl σ G2 M2 (s.mono (e.trans e2)) r2.2 G2 H2 F (Ex.refl _) m2 _ fun G3 M3 H3 e3 m3 r3 => hh σ G3 M3 (s.mono ((e.trans e2).trans e3)) r3 G3 H3 F (Ex.refl _) m3 _ fun G4 M4 H4 e4 m4 r4 => by
    refine ev_slT (K := K) (ds := ds) (σ := []) (G := G4) (M := M4) (te := fun _ H Q => Q x H) (tl := fun _ H Q => Q lo H) (th := fun _ H Q => Q hi H) (M1 := M4) (fun G1 H F e m Q q => q x G1 _ H (Ex.refl _) m ⟨dm r2.1 ((e3.trans e4).trans e), rfl⟩) (fun G1 H F e m Q q => q G1 H (Ex.refl _) m) (fun G1 H F e m Q q => q G1 H (Ex.refl _) m) G4 H4 F (Ex.refl _) m4 Q fun v G5 M5 H5 e5 m5 r5 => ?_
    obtain ⟨r5, rfl⟩ := r5
    exact q v G5 _ H5 (((e2.trans e3).trans e4).trans e5) m5 ⟨r5, r4.mono e5⟩
theorem o_rev (h : E1 te δ μ P1 μ1) (l : LR K P1 μ1 ds) : EO K (tRevL K te) δ μ ds.reverse μ1 := fun σ G M s m G1 H F e m1 Q q =>
  h σ G M s m G1 H F e m1 _ fun v G2 M2 H2 e2 m2 r2 => by
    obtain ⟨a, xs, rfl, h3, h4⟩ := l.at G2 v M2 F H2 r2.1 r2.2 m2
    exact ⟨a, xs, rfl, h3, fun p hp => q _ G2 _ _ e2 (m2.newMid hp) ⟨p, _, M2, rfl, rfl, dpa_rev h4, r2.2⟩⟩
theorem o_revM {α : Type} {enc : α → PyData} {xs : List α} (h : E1 te δ μ P1 μ1) (l : LR K P1 μ1 (xs.map enc)) : EO K (tRevL K te) δ μ (xs.reverse.map enc) μ1 := by
  rw [List.map_reverse]
  exact o_rev h l
end
end SY
set_option Elab.async false
set_option linter.all false
set_option maxRecDepth 100000
namespace SY
open PySem PySem.Spec L2 SX
structure PY where
  nx : En → Mp → Prop
  rt : Pr → Mp → Prop := fun _ _ => False
  bk : En → Mp → Prop := fun _ _ => False
  ct : En → Mp → Prop := fun _ _ => False
  ex : Value → Option Addr → Mp → Prop := fun _ _ _ => False
def PY.po (P : PY) : Po where
  nx := fun G σ M => ∃ δ μ, P.nx δ μ ∧ Sl G σ δ ∧ Mm G M μ
  rt := fun G v M => ∃ Q μ, P.rt Q μ ∧ Q.p G v ∧ Mm G M μ
  bk := fun G σ M => ∃ δ μ, P.bk δ μ ∧ Sl G σ δ ∧ Mm G M μ
  ct := fun G σ M => ∃ δ μ, P.ct δ μ ∧ Sl G σ δ ∧ Mm G M μ
  ex := fun c d G M => ∃ μ, P.ex c d μ ∧ Mm G M μ
def S1 (E : XK) (t : TS) (δ : En) (μ : Mp) (P : PY) : Prop := ∀ σ G M, Sl G σ δ → Mm G M μ → Sv E t σ G M P.po
/-- a target takes a value; vs: the slots it stores -/
def G1 (g : TG) (P : Pr) (δ δ' : En) (vs : List Nat) : Prop := ∀ σ G M F H v, Sl G σ δ → P.p G v → Me G (M ++ F) H → ∀ Q : L2.St → Hp → Prop, (∀ σ', Sl G σ' δ' → Same σ σ' vs → Q σ' H) → g v σ H Q
def GS (g : TGs) (Ps : List Pr) (δ δ' : En) (vs : List Nat) : Prop := ∀ σ G M F H xs, Sl G σ δ → AP G Ps xs → Me G (M ++ F) H → ∀ Q : L2.St → Hp → Prop, (∀ σ', Sl G σ' δ' → Same σ σ' vs → Q σ' H) → g xs σ H Q
section
variable {E : XK} {K : PySem.W.Frag} {te ta tb tc : TE} {tt tu : TT} {tA tr : TA} {δ δ' δ1 δ2 : En} {μ μ' μ0 μ1 μ2 μ3 : Mp} {Q Q1 Q2 : Pr} {Ps : List Pr} {R : Pr → Mp → Prop} {d e : PyData} {ds es : List PyData} {i j : Int} {a b c : Bool} {k : Nat} {ad : Addr} {t u : TS} {P P' : PY} {g : TG} {gs : TGs} {vs : List Nat} {N : En → Mp → Prop}
theorem g_name (hk : k ∈ vs := by decide) : G1 (gName k) Q δ (δ.set k (some Q)) vs := fun σ G M F H v s p m q z => z _ (s.set p) (Same.set hk)
theorem G1.le {δ0 : En} (h : G1 g Q δ δ' vs) (l : Le δ0 δ) : G1 g Q δ0 δ' vs := fun σ G M F H v s => h σ G M F H v (s.le l)
theorem g_nil : GS gNil [] δ δ vs := fun σ G M F H xs s p m q z => by
  match xs, p with
  | [], _ => exact ⟨rfl, z _ s (Same.refl _ _)⟩
theorem g_cons (h1 : G1 g Q δ δ1 vs) (h2 : GS gs Ps δ1 δ2 vs) : GS (gCons g gs) (Q :: Ps) δ δ2 vs := fun σ G M F H xs s p m q z => by
  match xs, p with
  | x :: xs, p => exact ⟨x, xs, rfl, h1 σ G M F H x s p.1 m _ fun σ' s' w' => h2 σ' G M F H xs s' p.2 m _ fun σ2 s2 w2 => z σ2 s2 (w'.trans w2)⟩
theorem dpa_AP {G : Hp} : ∀ {ds : List PyData} {xs : List V}, DpAll K G xs ds → AP G (ds.map (D K)) xs
  | [], _, h => by cases h; trivial
  | d :: ds, _, h => by
    cases h with
    | cons x y => exact ⟨x, dpa_AP y⟩
theorem g_tup {n : Nat} (h : GS gs (ds.map (D K)) δ δ' vs) (hn : ds.length = n) : G1 (gTup K n gs) (D K (.tuple ds)) δ δ' vs := fun σ G M F H v s p m q z => by
  obtain ⟨a, xs, rfl, h3, h4⟩ := dp_tup p
  exact ⟨a, xs, rfl, ex_t m.ex h3, by rw [dpa_len h4, hn], h σ G M F H xs s (dpa_AP h4) m q z⟩
theorem g_tupP {n : Nat} (h : GS gs Ps δ δ' vs) (hn : Ps.length = n) : G1 (gTup K n gs) (Tp Ps) δ δ' vs := fun σ G M F H v s p m q z => by
  obtain ⟨a, xs, rfl, h3, h4⟩ := p
  exact ⟨a, xs, rfl, SqT.of (m.ex _ _ h3), by rw [AP.len h4, hn], h σ G M F H xs s h4 m q z⟩
theorem S1.le (h : S1 E t δ' μ P) (l : Le δ δ') : S1 E t δ μ P := fun σ G M s m => h σ G M (s.le l) m
theorem S1.imp (h : S1 E t δ μ P) (nx : ∀ δ μ, P.nx δ μ → P'.nx δ μ) (rt : ∀ q μ, P.rt q μ → P'.rt q μ) (bk : ∀ δ μ, P.bk δ μ → P'.bk δ μ) (ct : ∀ δ μ, P.ct δ μ → P'.ct δ μ) (ex : ∀ c d μ, P.ex c d μ → P'.ex c d μ) : S1 E t δ μ P' := fun σ G M s m =>
  (h σ G M s m).imp (fun _ _ _ _ ⟨x, y, h1, h2⟩ => ⟨x, y, nx _ _ h1, h2⟩) (fun _ _ _ _ ⟨x, y, h1, h2⟩ => ⟨x, y, rt _ _ h1, h2⟩) (fun _ _ _ _ ⟨x, y, h1, h2⟩ => ⟨x, y, bk _ _ h1, h2⟩) (fun _ _ _ _ ⟨x, y, h1, h2⟩ => ⟨x, y, ct _ _ h1, h2⟩) (fun _ _ _ _ _ ⟨y, h1, h2⟩ => ⟨y, ex _ _ _ h1, h2⟩)
theorem s_setY (h : EY te δ μ R) (k' : ∀ q μ', R q μ' → P.nx (δ.set k (some q)) μ') : S1 E (tAsg te (gName k)) δ μ P := fun σ G M s m =>
  sv_set (h σ G M s m) fun v G' M' e r => by
    obtain ⟨q, μ', r0, r1, r2⟩ := r
    exact ⟨_, _, k' q μ' r0, (s.mono e).set r1, r2⟩
theorem s_set (h : E1 te δ μ Q μ1) (k' : P.nx (δ.set k (some Q)) μ1) : S1 E (tAsg te (gName k)) δ μ P := s_setY h.y fun q μ' r => by
  obtain ⟨rfl, rfl⟩ := r
  exact k'
theorem s_letY (h : EY te δ μ R) (k' : ∀ q μ', R q μ' → S1 E u (δ.set k (some q)) μ' P) : S1 E (tSeq (tAsg te (gName k)) u) δ μ P := fun σ G M s m =>
  sv_let (h σ G M s m) fun v G' M' e r => by
    obtain ⟨q, μ', r0, r1, r2⟩ := r
    exact k' q μ' r0 _ G' M' ((s.mono e).set r1) r2
theorem s_let (h : E1 te δ μ Q μ1) (k' : S1 E u (δ.set k (some Q)) μ1 P) : S1 E (tSeq (tAsg te (gName k)) u) δ μ P := s_letY h.y fun q μ' r => by
  obtain ⟨rfl, rfl⟩ := r
  exact k'
/-- x = [..], owned -/
theorem s_own (h : EO K te δ μ ds μ1) (k' : ∀ ad, S1 E u (δ.set k (some (Av ad))) (μ1 ++ [(ad, OL K ds)]) P) : S1 E (tSeq (tAsg te (gName k)) u) δ μ P := s_letY h.own fun q μ' r => by
  obtain ⟨a, rfl, rfl⟩ := r
  exact k' a
theorem s_asg (h : E1 te δ μ Q μ1) (hg : G1 g Q δ δ' vs) (k' : P.nx δ' μ1) : S1 E (tAsg te g) δ μ P := fun σ G M s m G1 H F D e m1 hd =>
  h σ G M s m G1 H F e m1 _ fun v G2 M2 H2 e2 m2 r2 => hg σ G2 M2 F H2 v (s.mono (e.trans e2)) r2.1 m2 _ fun σ' s' _ => hd.nx _ G2 M2 H2 e2 m2 ⟨_, _, k', s', r2.2⟩
theorem s_seq (h : S1 E t δ μ { P with nx := N }) (k' : ∀ δ' μ', N δ' μ' → S1 E u δ' μ' P) : S1 E (tSeq t u) δ μ P := fun σ G M s m =>
  sv_seq (N := fun G σ M => ∃ δ μ, N δ μ ∧ Sl G σ δ ∧ Mm G M μ) (h σ G M s m) fun G' σ' M' e n => by
    obtain ⟨δ', μ', n0, n1, n2⟩ := n
    exact k' δ' μ' n0 σ' G' M' n1 n2
theorem s_let2 (h : E1 te δ μ Q μ1) (hg : G1 g Q δ δ' vs) (k' : S1 E u δ' μ1 P) : S1 E (tSeq (tAsg te g) u) δ μ P := s_seq (N := fun x y => x = δ' ∧ y = μ1) (s_asg h hg ⟨rfl, rfl⟩) fun x y r => by
  obtain ⟨rfl, rfl⟩ := r
  exact k'
theorem s_unp2 {i j : Nat} (h : E1 te δ μ (D K (.tuple [d, e])) μ1) (k' : S1 E u ((δ.set i (some (D K d))).set j (some (D K e))) μ1 P) : S1 E (tSeq (tAsg te (gTup K 2 (gCons (gName i) (gCons (gName j) gNil)))) u) δ μ P :=
  s_let2 h (g_tup (vs := [i, j]) (g_cons (g_name (by simp)) (g_cons (g_name (by simp)) g_nil)) rfl) k'
theorem s_unp3 {i j k : Nat} {d3 : PyData} (h : E1 te δ μ (D K (.tuple [d, e, d3])) μ1) (k' : S1 E u (((δ.set i (some (D K d))).set j (some (D K e))).set k (some (D K d3))) μ1 P) : S1 E (tSeq (tAsg te (gTup K 3 (gCons (gName i) (gCons (gName j) (gCons (gName k) gNil))))) u) δ μ P :=
  s_let2 h (g_tup (vs := [i, j, k]) (g_cons (g_name (by simp)) (g_cons (g_name (by simp)) (g_cons (g_name (by simp)) g_nil))) rfl) k'
theorem s_unp2P {i j : Nat} (h : E1 te δ μ (Tp [Q1, Q2]) μ1) (k' : S1 E u ((δ.set i (some Q1)).set j (some Q2)) μ1 P) : S1 E (tSeq (tAsg te (gTup K 2 (gCons (gName i) (gCons (gName j) gNil)))) u) δ μ P :=
  s_let2 h (g_tupP (vs := [i, j]) (g_cons (g_name (by simp)) (g_cons (g_name (by simp)) g_nil)) rfl) k'
theorem s_dropY (h : EY te δ μ R) (k' : ∀ q μ', R q μ' → P.nx δ μ') : S1 E (tDrop te) δ μ P := fun σ G M s m =>
  sv_drop (h σ G M s m) fun v G' M' e r => by
    obtain ⟨q, μ', r0, r1, r2⟩ := r
    exact ⟨_, _, k' q μ' r0, s.mono e, r2⟩
theorem s_drop (h : E1 te δ μ Q μ1) (k' : P.nx δ μ1) : S1 E (tDrop te) δ μ P := s_dropY h.y fun q μ' r => by
  obtain ⟨rfl, rfl⟩ := r
  exact k'
theorem s_do (h : E1 te δ μ Q μ1) (k' : S1 E u δ μ1 P) : S1 E (tSeq (tDrop te) u) δ μ P := s_seq (N := fun x y => x = δ ∧ y = μ1) (s_drop h ⟨rfl, rfl⟩) fun x y r => by
  obtain ⟨rfl, rfl⟩ := r
  exact k'
theorem s_retY (h : EY te δ μ R) (k' : ∀ q μ', R q μ' → P.rt q μ') : S1 E (tRet te) δ μ P := fun σ G M s m =>
  sv_ret (h σ G M s m) fun v G' M' e r => by
    obtain ⟨q, μ', r0, r1, r2⟩ := r
    exact ⟨q, μ', k' q μ' r0, r1, r2⟩
theorem s_ret (h : E1 te δ μ Q μ1) (k' : P.rt Q μ1) : S1 E (tRet te) δ μ P := s_retY h.y fun q μ' r => by
  obtain ⟨rfl, rfl⟩ := r
  exact k'
theorem s_next (k' : P.nx δ μ) : S1 E tNext δ μ P := fun σ G M s m => sv_next fun G' e => ⟨_, _, k', s.mono e, m.mono e⟩
theorem s_if (h : T1 tt δ μ a μ1) (k1 : a = true → S1 E t δ μ1 P) (k2 : a = false → S1 E u δ μ1 P) : S1 E (tIfS tt t u) δ μ P := fun σ G M s m G1 H F D e m1 hd =>
  h σ G M s m G1 H F e m1 _ fun G2 M2 H2 e2 m2 r2 => by
    cases a with
    | true =>
      show (if true = true then _ else _)
      rw [if_pos rfl]
      exact k1 rfl σ G2 M2 (s.mono (e.trans e2)) r2 G2 H2 F D (Ex.refl _) m2 (hd.up e2)
    | false =>
      show (if false = true then _ else _)
      rw [if_neg Bool.false_ne_true]
      exact k2 rfl σ G2 M2 (s.mono (e.trans e2)) r2 G2 H2 F D (Ex.refl _) m2 (hd.up e2)
/-- if .. : leaves; the rest (no else) -/
theorem s_ifr {r : TS} (h : T1 tt δ μ a μ1) (k1 : a = true → S1 E t δ μ1 { P with nx := fun δ' μ' => S1 E r δ' μ' P }) (k2 : a = false → S1 E r δ μ1 P) : S1 E (tSeq (tIfS tt t tNext) r) δ μ P :=
  s_seq (N := fun δ' μ' => S1 E r δ' μ' P) (s_if h k1 fun z => s_next (k2 z)) fun _ _ z => z
/-- the rest behind both branches -/
theorem s_ifs {r : TS} (h : T1 tt δ μ a μ1) (k1 : a = true → S1 E t δ μ1 { P with nx := fun δ' μ' => S1 E r δ' μ' P }) (k2 : a = false → S1 E u δ μ1 { P with nx := fun δ' μ' => S1 E r δ' μ' P }) : S1 E (tSeq (tIfS tt t u) r) δ μ P :=
  s_seq (N := fun δ' μ' => S1 E r δ' μ' P) (s_if h k1 k2) fun _ _ z => z
/-- the same state behind both -/
theorem s_ifj {r : TS} (N : En → Mp → Prop) (h : T1 tt δ μ a μ1) (k1 : a = true → S1 E t δ μ1 { P with nx := N }) (k2 : a = false → S1 E u δ μ1 { P with nx := N }) (k3 : ∀ δ' μ', N δ' μ' → S1 E r δ' μ' P) : S1 E (tSeq (tIfS tt t u) r) δ μ P :=
  s_seq (N := N) (s_if h k1 k2) k3
/-- what is owned and not needed is forgotten -/
theorem s_less (hs : μ'.Sublist μ) (h : S1 E t δ μ' P) : S1 E t δ μ P := fun σ G M s m => by
  obtain ⟨M', h1, h2⟩ := m.sub hs
  exact sv_sub h1 (h σ G M' s h2)
/-- an owned list, known at slot k, is frozen -/
theorem s_frz {μa μb : Mp} (k : Nat) (hk : δ[k]? = some (some (Av ad))) (h : S1 E t (δ.set k (some (D K (.list ds)))) (μa ++ μb) P) : S1 E t δ (μa ++ (ad, OL K ds) :: μb) P := fun σ G M s m => by
  obtain ⟨Ma, Mb', rfl, ma, mb⟩ := Mm.cut m
  obtain ⟨⟨p, o⟩, Mb, rfl⟩ : ∃ x y, Mb' = x :: y := by
    match Mb', mb with
    | x :: y, _ => exact ⟨x, y, rfl⟩
  obtain ⟨⟨h1, xs, rfl, h2⟩, mb⟩ := mb
  have h1 : p = ad := h1
  subst h1
  intro G1 H F D e m1 hd
  rw [List.append_assoc] at m1
  obtain ⟨m3, e3⟩ := m1.freezeMid
  have e13 := e.trans e3
  refine h σ _ (Ma ++ Mb) ⟨by simp [s.1], fun j q hj => ?_⟩ (Mm.app (ma.mono e13) (mb.mono e13)) _ H F D (Ex.refl _) (by rw [List.append_assoc]; exact m3) (hd.up e3)
  rw [List.getElem?_set] at hj
  split at hj
  · rename_i hkj
    subst hkj
    split at hj
    · cases hj
      obtain ⟨v, hv, hp⟩ := s.get hk
      have hp : v = .ref p := hp
      subst hp
      exact ⟨_, hv, .lst (SqL.of upd_same) (dma h2 e13)⟩
    · cases hj
  · obtain ⟨v, hv, hp⟩ := s.get hj
    exact ⟨v, hv, q.m _ _ _ e13 hp⟩
/-- l[i] = e of an owned list -/
theorem s_setIx {tx ti : TE} {n : Nat} {i : Int} (h : E1 te δ μ (D K d) μ1) (h1 : E1 tx δ μ1 (Av ad) μ1) (h2 : E1 ti δ μ1 (D K (.int i)) μ1) (hl : μ1[n]? = some (ad, OL K ds)) (hi : 0 ≤ i ∧ i < ds.length) (k' : P.nx δ (μ1.set n (ad, OL K (ds.set i.toNat d)))) : S1 E (tAsg te (gSub tx ti rSetL)) δ μ P := fun σ G M s m G1 H F DD e m1 hd =>
  h σ G M s m G1 H F e m1 _ fun v G2 M2 H2 e2 m2 r2 => h1 σ G2 M2 (s.mono (e.trans e2)) r2.2 G2 H2 F (Ex.refl _) m2 _ fun x G3 M3 H3 e3 m3 r3 => h2 σ G3 M3 (s.mono ((e.trans e2).trans e3)) r3.2 G3 H3 F (Ex.refl _) m3 _ fun y G4 M4 H4 e4 m4 r4 => by
    have hx : x = .ref ad := r3.1
    subst hx
    rw [dp_int r4.1]
    obtain ⟨o, h5, xs, rfl, h6⟩ := r4.2.get hl
    have hxl := dpa_len h6
    have hj : ixN xs.length i = some i.toNat := by
      unfold ixN
      rw [if_pos hi.1, if_pos (by rw [hxl]; exact hi.2)]
    refine ⟨ad, xs, i, i.toNat, rfl, rfl, m4.getF h5, hj, hd.nx _ G4 _ _ ((e2.trans e3).trans e4) (m4.putF h5) ⟨_, _, k', s.mono (((e.trans e2).trans e3).trans e4), Mm.set ?_ r4.2 hl⟩⟩
    exact ⟨_, rfl, dpa_set h6 (dm r2.1 (e3.trans e4))⟩
theorem e_append (n : Nat) (h : E1 te δ μ (Av ad) μ) (h2 : E1 ta δ μ (D K d) μ1) (hl0 : ∃ (n' : Nat) (ds' : List PyData), μ[n']? = some (ad, OL K ds')) (hl : μ1[n]? = some (ad, OL K ds)) (hz : ds.length ≤ 100000) :
    E1 (tBM K "list" rAppend te (tCons ta tNil)) δ μ (D K .none) (μ1.set n (ad, OL K (ds ++ [d]))) := fun σ G M s m G1 H F e m1 q z =>
  h σ G M s m G1 H F e m1 _ fun v G2 M2 H2 e2 m2 r2 => by
    have hv : v = .ref ad := r2.1
    subst hv
    obtain ⟨n', ds', hn'⟩ := hl0
    obtain ⟨o, h5, xs, rfl, h6⟩ := r2.2.get hn'
    refine ⟨.inl ⟨rfl, xs, SqL.of (m2.getF h5)⟩, h2 σ G2 M2 (s.mono (e.trans e2)) r2.2 G2 H2 F (Ex.refl _) m2 _ fun y G3 M3 H3 e3 m3 r3 => ?_⟩
    obtain ⟨o, h7, ys, rfl, h8⟩ := r3.2.get hl
    refine ⟨ad, ys, y, rfl, rfl, m3.getF h7, sz_ok (by rw [dpa_len h8]; exact hz), z _ G3 _ _ (e2.trans e3) (m3.putF h7) ⟨.non, Mm.set ?_ r3.2 hl⟩⟩
    exact ⟨_, rfl, dpa_app h8 (.cons r3.1 .nil)⟩
/-- a list that stands still in the heap -/
def Hl (K : PySem.W.Frag) (ds : List PyData) : Pr := ⟨fun G v => ∃ a xs, v = .ref a ∧ G a = some (.lst xs) ∧ DpAll K G xs ds, fun G G' v e h => by obtain ⟨a, xs, h1, h2, h3⟩ := h; exact ⟨a, xs, h1, e _ _ h2, dma h3 e⟩⟩
theorem EO.frzH (h : EO K te δ μ ds μ') : E1 te δ μ (Hl K ds) μ' := fun σ G M s m G1 H F e m1 Q q => (h σ G M s m) G1 H F e m1 Q fun v G2 M2 H2 e2 m2 r => by
  obtain ⟨p, vs, M0, rfl, rfl, r1, r2⟩ := r
  obtain ⟨m3, e3⟩ := m2.freezeLast
  exact q _ _ M0 H2 (e2.trans e3) m3 ⟨⟨p, vs, rfl, upd_same, dma r1 e3⟩, r2.mono e3⟩
theorem lr_H : LR K (Hl K ds) μ ds := fun G v M p _ => by
  obtain ⟨a, xs, rfl, h1, h2⟩ := p
  exact ⟨a, xs, rfl, .G (SqL.of h1), h2⟩
theorem e_extendH (n : Nat) (h : E1 te δ μ (Av ad) μ) (h2 : E1 ta δ μ (Hl K es) μ1) (hl0 : ∃ (n' : Nat) (ds' : List PyData), μ[n']? = some (ad, OL K ds')) (hl : μ1[n]? = some (ad, OL K ds)) (hz : ds.length + es.length ≤ 100000) :
    E1 (tBM K "list" rExtend te (tCons ta tNil)) δ μ (D K .none) (μ1.set n (ad, OL K (ds ++ es))) := fun σ G M s m G1 H F e m1 q z =>
  h σ G M s m G1 H F e m1 _ fun v G2 M2 H2 e2 m2 r2 => by
    have hv : v = .ref ad := r2.1
    subst hv
    obtain ⟨n', ds', hn'⟩ := hl0
    obtain ⟨o, h5, xs, rfl, h6⟩ := r2.2.get hn'
    refine ⟨.inl ⟨rfl, xs, SqL.of (m2.getF h5)⟩, h2 σ G2 M2 (s.mono (e.trans e2)) r2.2 G2 H2 F (Ex.refl _) m2 _ fun y G3 M3 H3 e3 m3 r3 => ?_⟩
    obtain ⟨b, zs, rfl, hb, h9⟩ := r3.1
    obtain ⟨o, h7, ys, rfl, h8⟩ := r3.2.get hl
    refine ⟨ad, b, ys, zs, rfl, rfl, m3.getF h7, m3.ex _ _ hb, by rw [dpa_len h8, dpa_len h9]; exact Nat.le_of_lt (sz_ok hz), z _ G3 _ _ (e2.trans e3) (m3.putF h7) ⟨.non, Mm.set ?_ r3.2 hl⟩⟩
    exact ⟨_, rfl, dpa_app h8 h9⟩
end
/-- a walk of n turns; X i is known of the i-th value -/
structure WkY (J : It) (n : Nat) (X : Nat → Pr) (G2 : Hp) (kp : Mp) : Prop where
  ex : ∃ (Gd : Hp → Prop) (Y : Nat → Hp → V → Hp → Prop), Walk J n Gd Y ∧ (∀ G3 M3 F3 H3 Mk, Ex G2 G3 → Me G3 (M3 ++ F3) H3 → Mk.Sublist M3 → Mm G3 Mk kp → Gd H3) ∧
    ∀ i G3 M3 F3 H3 x H4 Mk, i < n → Ex G2 G3 → Me G3 (M3 ++ F3) H3 → Mk.Sublist M3 → Mm G3 Mk kp → Y i H3 x H4 → ∃ G4, Ex G3 G4 ∧ Me G4 (M3 ++ F3) H4 ∧ (X i).p G4 x
def IY (wi : TI) (δ : En) (μ : Mp) (n : Nat) (X : Nat → Pr) (μ' : Mp) (kp : Mp := []) : Prop := ∀ σ G M, Sl G σ δ → Mm G M μ → ∀ G1 H F, Ex G G1 → Me G1 (M ++ F) H → ∀ Q : It → Hp → Prop,
  (∀ (J : It) G2 M2 H2, Ex G1 G2 → Me G2 (M2 ++ F) H2 → Mm G2 M2 μ' → WkY J n X G2 kp → Q J H2) → wi σ H Q
section
variable {E : XK} {K : PySem.W.Frag} {te ta tb tc : TE} {tt tu : TT} {tA tr : TA} {δ δ' δ1 δ2 : En} {μ μ' μ0 μ1 μ2 μ3 : Mp} {Q Q1 Q2 : Pr} {Ps : List Pr} {R : Pr → Mp → Prop} {d e : PyData} {ds es : List PyData} {i j : Int} {a b c : Bool} {k n : Nat} {ad : Addr} {t u : TS} {P P' : PY} {g : TG} {gs : TGs} {vs : List Nat} {wi : TI} {X : Nat → Pr}
/-- over data that stands still -/
theorem i_list (h : E1 te δ μ (D K (.list ds)) μ') : IY (iList K te) δ μ ds.length (fun i => D K ((ds[i]?).getD .none)) μ' := fun σ G M s m G1 H F e m1 Q q =>
  h σ G M s m G1 H F e m1 _ fun v G2 M2 H2 e2 m2 r2 => by
    obtain ⟨a, xs, rfl, hs, hd⟩ := dp_lst r2.1
    refine ⟨a, rfl, ⟨xs, ex_l m2.ex hs⟩, q _ G2 M2 H2 e2 m2 r2.2 ⟨⟨_, _, by rw [← dpa_len hd]; exact walk_list, fun G3 M3 F3 H3 _ e3 m3 _ _ => ex_l m3.ex (ex_l e3 hs), fun i G3 M3 F3 H3 x H4 Mk hi e3 m3 hsub hkp y => ?_⟩⟩⟩
    obtain ⟨rfl, hx⟩ := y
    obtain ⟨d, h1, h2⟩ := dpa_atV hd hx
    exact ⟨G3, Ex.refl _, m3, by rw [h1]; exact dm h2 e3⟩
theorem i_tup (h : E1 te δ μ (D K (.tuple ds)) μ') : IY (iTup K te) δ μ ds.length (fun i => D K ((ds[i]?).getD .none)) μ' := fun σ G M s m G1 H F e m1 Q q =>
  h σ G M s m G1 H F e m1 _ fun v G2 M2 H2 e2 m2 r2 => by
    obtain ⟨a, xs, rfl, hs, hd⟩ := dp_tup r2.1
    refine ⟨a, rfl, ⟨xs, ex_t m2.ex hs⟩, q _ G2 M2 H2 e2 m2 r2.2 ⟨⟨_, _, by rw [← dpa_len hd]; exact walk_tup, fun G3 M3 F3 H3 _ e3 m3 _ _ => ex_t m3.ex (ex_t e3 hs), fun i G3 M3 F3 H3 x H4 Mk hi e3 m3 hsub hkp y => ?_⟩⟩⟩
    obtain ⟨rfl, hx⟩ := y
    obtain ⟨d, h1, h2⟩ := dpa_atV hd hx
    exact ⟨G3, Ex.refl _, m3, by rw [h1]; exact dm h2 e3⟩
theorem i_rng1 (h : E1 te δ μ (D K (.int i)) μ') (hi : -(2 ^ 62) ≤ i ∧ i < 2 ^ 62) : IY (iRng1 (tCons te tNil)) δ μ i.toNat (fun k => D K (.int (k : Int))) μ' := fun σ G M s m G1 H F e m1 Q q =>
  (a_cons h a_nil) σ G M s m G1 H F e m1 _ fun ws G2 M2 H2 e2 m2 a2 r2 => by
    match ws, a2 with
    | [v], ⟨p1, _⟩ =>
    rw [dp_int p1]
    refine ⟨i, rfl, hi.1, hi.2, q _ G2 M2 H2 e2 m2 r2 ⟨⟨_, _, walk_range, fun _ _ _ _ _ _ _ _ _ => trivial, fun k G3 M3 F3 H3 x H4 Mk hk e3 m3 hsub hkp y => ?_⟩⟩⟩
    obtain ⟨rfl, rfl⟩ := y
    exact ⟨G3, Ex.refl _, m3, by show Dp K G3 (.int (0 + (k : Int))) _; rw [Int.zero_add]; exact .int _⟩
theorem i_rng2 (h : E1 ta δ μ (D K (.int i)) μ1) (h2 : E1 tb δ μ1 (D K (.int j)) μ') (hi : -(2 ^ 62) ≤ i ∧ i < 2 ^ 62 ∧ -(2 ^ 62) ≤ j ∧ j < 2 ^ 62) : IY (iRng2 (tCons ta (tCons tb tNil))) δ μ (j - i).toNat (fun k => D K (.int (i + (k : Int)))) μ' := fun σ G M s m G1 H F e m1 Q q =>
  (a_cons h (a_cons h2 a_nil)) σ G M s m G1 H F e m1 _ fun ws G2 M2 H2 e2 m2 a2 r2 => by
    match ws, a2 with
    | [v, w], ⟨p1, p2, _⟩ =>
    rw [dp_int p1, dp_int p2]
    refine ⟨i, j, rfl, hi, q _ G2 M2 H2 e2 m2 r2 ⟨⟨_, _, walk_range, fun _ _ _ _ _ _ _ _ _ => trivial, fun k G3 M3 F3 H3 x H4 Mk hk e3 m3 hsub hkp y => ?_⟩⟩⟩
    obtain ⟨rfl, rfl⟩ := y
    exact ⟨G3, Ex.refl _, m3, .int _⟩
/-- for: I by the turn -/
theorem s_for {kp : Mp} (I : Nat → En → Mp → Prop) (hw : IY wi δ μ n X μ1 kp) (h0 : I 0 δ μ1)
    (hb : ∀ i δ' μ', i < n → I i δ' μ' → ∃ δ'' ks, G1 g (X i) δ' δ'' ks ∧ S1 E t δ'' μ' { P with nx := I (i + 1), ct := I (i + 1), bk := P.nx })
    (he : ∀ δ' μ', I n δ' μ' → P.nx δ' μ') (hk : ∀ i δ' μ', I i δ' μ' → kp.Sublist μ' := by intros; exact List.nil_sublist _) : S1 E (tFor wi g t) δ μ P := fun σ G M s m G1 H F D e m1 hd =>
  hw σ G M s m G1 H F e m1 _ fun J G2 M2 H2 e2 m2 r2 => by
    intro ⟨⟨Gd, Y, W, hG, hY⟩⟩
    refine for_it W (fun i σ' H' => ∃ G' M' δ' μ', I i δ' μ' ∧ Ex G2 G' ∧ Me G' (M' ++ F) H' ∧ Sl G' σ' δ' ∧ Mm G' M' μ') ⟨G2, M2, δ, μ1, h0, Ex.refl _, m2, s.mono (e.trans e2), r2⟩ ?_ ?_ ?_
    · rintro i σ' H' _ ⟨G', M', δ', μ', ii, e', m', _, r'⟩
      obtain ⟨Mk, h1, h2⟩ := r'.sub (hk _ _ _ ii)
      exact hG G' M' F H' Mk e' m' h1 h2
    · rintro i x σ' H' H4 hi ⟨G', M', δ', μ', ii, e', m', s', r'⟩ y
      obtain ⟨Mk, hk1, hk2⟩ := r'.sub (hk _ _ _ ii)
      obtain ⟨G4, e4, m4, px⟩ := hY i G' M' F H' x H4 Mk hi e' m' hk1 hk2 y
      obtain ⟨δ'', ks, hg, hs⟩ := hb i δ' μ' hi ii
      refine hg σ' G4 M' F H4 x (s'.mono e4) px m4 _ fun σ5 s5 _ => hs σ5 G4 M' s5 (r'.mono e4) G4 H4 F _ (Ex.refl _) m4 ⟨?_, ?_, ?_, ?_, ?_⟩
      · exact fun σ2 G3 M3 H3 e3 m3 ⟨x, y, n1, n2, n3⟩ => ⟨G3, M3, x, y, n1, (e'.trans e4).trans e3, m3, n2, n3⟩
      · exact fun v G3 M3 H3 e3 m3 r => hd.rt v G3 M3 H3 (((e2.trans e').trans e4).trans e3) m3 r
      · exact fun v G3 M3 H3 e3 m3 r => hd.nx v G3 M3 H3 (((e2.trans e').trans e4).trans e3) m3 r
      · exact fun σ2 G3 M3 H3 e3 m3 ⟨x, y, n1, n2, n3⟩ => ⟨G3, M3, x, y, n1, (e'.trans e4).trans e3, m3, n2, n3⟩
      · exact fun c v G3 M3 H3 e3 m3 r => hd.ex c v G3 M3 H3 (((e2.trans e').trans e4).trans e3) m3 r
    · rintro σ' H' ⟨G', M', δ', μ', ii, e', m', s', r'⟩
      exact hd.nx σ' G' M' H' (e2.trans e') m' ⟨δ', μ', he _ _ ii, s', r'⟩
/-- [e for x in l if t]: owned; Ms: what else is owned, by the turn -/
theorem o_lc {kp : Mp} (Ms : Nat → Mp) (bb : Nat → Bool) (fd : Nat → PyData) (hw : IY wi δ μ n X (Ms 0) kp) (hn : n ≤ 100000)
    (hb : ∀ i, i < n → ∃ δ'', G1 g (X i) (wipeY δ vs) δ'' vs ∧ T1 tt δ'' (Ms i) (bb i) (Ms i) ∧ (bb i = true → E1 te δ'' (Ms i) (D K (fd i)) (Ms (i + 1))) ∧ (bb i = false → Ms (i + 1) = Ms i)) (hk : ∀ i, kp.Sublist (Ms i) := by intros; exact List.nil_sublist _) :
    EO K (tLc wi g tt te vs) δ μ (kept n bb fd) (Ms n) := fun σ G M s m G1 H F e m1 Q q =>
  hw σ G M s m G1 H F e m1 _ fun J G2 M2 H2 e2 m2 r2 => by
    rintro ⟨⟨Gd, Y, W, hG, hY⟩⟩ D hD
    refine lc_it W (fun i H' => ∃ G' M' ws, Ex G2 G' ∧ Me G' (M' ++ (D, .lst ws) :: F) H' ∧ Mm G' M' (Ms i) ∧ DpAll K G' ws (kept i bb fd)) ?_ ?_ ?_ ?_
    · exact ⟨G2, M2, [], Ex.refl _, by rw [mem_mid]; exact m2.newMid hD, r2, .nil⟩
    · rintro i H' _ ⟨G', M', ws, e', m', r', _⟩
      obtain ⟨Mk, h1, h2⟩ := r'.sub (hk i)
      exact hG G' M' _ H' Mk e' m' h1 h2
    · rintro i x H' H4 hi ⟨G', M', ws, e', m', r', da⟩ y
      obtain ⟨Mk, hk1, hk2⟩ := r'.sub (hk i)
      obtain ⟨G4, e4, m4, px⟩ := hY i G' M' _ H' x H4 Mk hi e' m' hk1 hk2 y
      obtain ⟨δ'', hg, ht, he, hno⟩ := hb i hi
      have s4 : Sl G4 (wipe σ vs) (wipeY δ vs) := (s.mono (((e.trans e2).trans e').trans e4)).wipe vs
      refine hg _ G4 M' _ H4 x s4 px m4 _ fun σ5 s5 w5 => ⟨by rw [w5.wipe, wipe_wipe], ht σ5 G4 M' s5 (r'.mono e4) G4 H4 _ (Ex.refl _) m4 _ fun G5 M5 H5 e5 m5 r5 => ?_⟩
      have hlw : ws.length ≤ i := by rw [dpa_len da]; exact kept_len i bb fd
      cases hbb : bb i with
      | true =>
        rw [if_pos rfl]
        refine he hbb σ5 G5 M5 (s5.mono e5) r5 G5 H5 _ (Ex.refl _) m5 _ fun y G6 M6 H6 e6 m6 r6 => ?_
        have hm : (M6 ++ (D, HO.lst ws) :: F)[M6.length]? = some (D, .lst ws) := by
          rw [List.getElem?_append_right (Nat.le_refl _), Nat.sub_self]
          rfl
        refine ⟨ws, m6.get hm, sz_ok (by omega), G6, M6, ws ++ [y], ((e'.trans e4).trans e5).trans e6, ?_, r6.2, ?_⟩
        · have := m6.put (o' := .lst (ws ++ [y])) hm
          rw [List.set_append_right _ _ (Nat.le_refl _), Nat.sub_self] at this
          exact this
        · rw [kept_succ, hbb, if_pos rfl]
          exact dpa_app (dma da ((e4.trans e5).trans e6)) (.cons r6.1 .nil)
      | false =>
        rw [if_neg Bool.false_ne_true]
        refine ⟨G5, M5, ws, (e'.trans e4).trans e5, m5, by rw [hno hbb]; exact r5, ?_⟩
        rw [kept_succ, hbb, if_neg Bool.false_ne_true, List.append_nil]
        exact dma da (e4.trans e5)
    · rintro H' ⟨G', M', ws, e', m', r', da⟩
      rw [mem_mid] at m'
      exact q _ G' _ H' (e2.trans e') m' ⟨D, ws, M', rfl, rfl, da, r'⟩
end
end SY
set_option Elab.async false
set_option linter.all false
set_option maxRecDepth 100000
namespace SY
open PySem PySem.Spec L2 SX
/-- less is told -/
def Imp (P Q : Pr) : Prop := ∀ G v, P.p G v → Q.p G v
theorem Imp.refl (P : Pr) : Imp P P := fun _ _ h => h
theorem imp_D {K : PySem.W.Frag} {d e : PyData} (h : d = e) : Imp (D K d) (D K e) := by rw [h]; exact Imp.refl _
theorem imp_H {K : PySem.W.Frag} {ds : List PyData} : Imp (Hl K ds) (D K (.list ds)) := fun G v h => by
  obtain ⟨a, xs, rfl, h1, h2⟩ := h
  exact .lst (SqL.of h1) h2
def ImpAll (K : PySem.W.Frag) : List Pr → List PyData → Prop
  | [], [] => True
  | P :: Ps, d :: ds => Imp P (D K d) ∧ ImpAll K Ps ds
  | _, _ => False
theorem impAll {K : PySem.W.Frag} {G : Hp} : ∀ {Ps : List Pr} {ds : List PyData} {vs : List V}, ImpAll K Ps ds → AP G Ps vs → DpAll K G vs ds
  | [], [], [], _, _ => .nil
  | _ :: _, _ :: _, _ :: _, h, a => .cons (h.1 _ _ a.1) (impAll h.2 a.2)
  | [], [], _ :: _, _, a => a.elim
  | _ :: _, _ :: _, [], _, a => a.elim
  | [], _ :: _, _, h, _ => h.elim
  | _ :: _, [], _, h, _ => h.elim
theorem imp_Tp {K : PySem.W.Frag} {Ps : List Pr} {ds : List PyData} (h : ImpAll K Ps ds) : Imp (Tp Ps) (D K (.tuple ds)) := fun G v p => by
  obtain ⟨a, vs, rfl, h1, h2⟩ := p
  exact .tup (SqT.of h1) (impAll h h2)
def startY (N : List Str) (Ps : List Pr) : En := Ps.map some ++ List.replicate (N.length - Ps.length) none
theorem sl_start {G : Hp} {N : List Str} {Ps : List Pr} {vs : List V} (h : AP G Ps vs) : Sl G (start N vs) (startY N Ps) := by
  have hl := AP.len h
  refine ⟨by simp [L2.start, startY, hl], fun k P hk => ?_⟩
  unfold startY at hk
  unfold L2.start
  rw [List.getElem?_append] at hk ⊢
  split at hk
  · rename_i hlt
    rw [List.getElem?_map] at hk
    cases q : Ps[k]? with
    | none => rw [q] at hk; cases hk
    | some p =>
      rw [q] at hk
      cases hk
      obtain ⟨v, h1, h2⟩ := AP.get h q
      rw [if_pos (by simpa [hl] using hlt)]
      exact ⟨v, by rw [List.getElem?_map, h1]; rfl, h2⟩
  · rw [List.getElem?_replicate] at hk
    split at hk <;> cases hk
/-- a promise: the arguments, what is owned there, what comes back and what is owned then -/
def sp {α : Type} (A : α → List Pr) (m : α → Mp) (pre : α → Prop) (R : α → Pr → Mp → Prop) : Sp :=
  spec (fun x G M vs => Mm G M (m x) ∧ AP G (A x) vs ∧ pre x) (fun x _ G v M' => ∃ Q μ', R x Q μ' ∧ Q.p G v ∧ Mm G M' μ')
/-- what is handed back is as promised -/
@[irreducible] def BackY {α : Type} (R : α → Pr → Mp → Prop) (x : α) (Q : Pr) (μ : Mp) : Prop := ∃ Q2 μ2, R x Q2 μ2 ∧ Imp Q Q2 ∧ μ2.Sublist μ
theorem backY_mk {α : Type} {R : α → Pr → Mp → Prop} {x : α} {Q Q2 : Pr} {μ μ2 : Mp} (h : R x Q2 μ2) (hi : Imp Q Q2) (hs : μ2.Sublist μ) : BackY R x Q μ := by
  unfold BackY
  exact ⟨Q2, μ2, h, hi, hs⟩
theorem backY_of {α : Type} {R : α → Pr → Mp → Prop} {x : α} {Q : Pr} {μ : Mp} (h : BackY R x Q μ) : ∃ Q2 μ2, R x Q2 μ2 ∧ Imp Q Q2 ∧ μ2.Sublist μ := by
  unfold BackY at h
  exact h
section
variable {P : Program} {w : World} {K : PySem.W.Frag} {mg : Str → Option Value} {base : Heap} {α : Type} {A : α → List Pr} {m : α → Mp} {pre : α → Prop} {R : α → Pr → Mp → Prop}
theorem fn_Y {x qual : Str} {st : Stmt} {f : Addr} {fd : FuncData} {N ps : List Str} {k : Nat} (F : Fun K x qual st f fd) (S : FnScope N ps (defScope st)) (len : ∀ x, (A x).length = ps.length)
    (body : ∀ (cdv : Value) (Ar : Around) (outer : List Env) (s : Shared) (H : Hp) (E : XK), Room k (Ar.deeper (PyProof.Rows.envOfC qual (defScope st) s.heap.objs.size f cdv)) →
      ∃ t, PSs (cxOf CX0 P w K mg base N qual (defScope st) f cdv Ar outer s H E).nox (defBody st) t ∧ ∀ x, pre x → S1 E t (startY N (A x)) (m x) { nx := fun _ μ => BackY R x (D K .none) μ, rt := BackY R x }) :
    FnOk P w K mg base CX0 (k + 1) f fd ps (sp A m pre R) := by
  refine fn_sv F S (fun x G M vs h => by rw [AP.len h.2.1, len]) fun cdv Ar outer s H E hr => ?_
  obtain ⟨t, ht, hs⟩ := body cdv Ar outer s H E hr
  refine ⟨t, ht, fun x G M vs h => ?_⟩
  have hb : ∀ {Q : Pr} {μ : Mp} {G' : Hp} {v : V} {M' : Mem} {F : Mem} {H' : Hp}, BackY R x Q μ → Q.p G' v → Mm G' M' μ → Me G' (M' ++ F) H' → ∃ M2, Me G' (M2 ++ F) H' ∧ ∃ Q2 μ2, R x Q2 μ2 ∧ Q2.p G' v ∧ Mm G' M2 μ2 := by
    intro Q μ G' v M' F H' hq hp hm he
    obtain ⟨Q2, μ2, h1, h2, h3⟩ := backY_of hq
    obtain ⟨M2, h4, h5⟩ := hm.sub h3
    exact ⟨M2, he.sub (List.Sublist.append_right h4 F), Q2, μ2, h1, h2 _ _ hp, h5⟩
  intro G1 H F DD e m1 hd
  refine hs x h.2.2 _ G M (sl_start h.2.1) h.1 G1 H F DD e m1 ⟨?_, ?_, ?_, ?_, ?_⟩
  · rintro σ2 G2 M2 H2 e2 m2 ⟨δ2, μ2, n0, n1, n2⟩
    obtain ⟨M3, m3, r⟩ := hb n0 .non n2 m2
    exact hd.nx σ2 G2 M3 H2 e2 m3 r
  · rintro v G2 M2 H2 e2 m2 ⟨Q2, μ2, n0, n1, n2⟩
    obtain ⟨M3, m3, r⟩ := hb n0 n1 n2 m2
    exact hd.rt v G2 M3 H2 e2 m3 r
  · rintro σ2 G2 M2 H2 e2 m2 ⟨δ2, μ2, n0, _⟩
    exact n0.elim
  · rintro σ2 G2 M2 H2 e2 m2 ⟨δ2, μ2, n0, _⟩
    exact n0.elim
  · rintro c d G2 M2 H2 e2 m2 ⟨μ2, n0, _⟩
    exact n0.elim
end
theorem cx_K {P : Program} {w : World} {K : PySem.W.Frag} {mg : Str → Option Value} {base : Heap} {N : List Str} {q : Str} {sc : Scope} {f : Addr} {cdv : Value} {A : Around} {outer : List Env} {s : Shared} {H : Hp} {E : XK} : (cxOf CX0 P w K mg base N q sc f cdv A outer s H E).nox.K = K := rfl
theorem cx_KX {P : Program} {w : World} {K : PySem.W.Frag} {mg : Str → Option Value} {base : Heap} {N : List Str} {q : Str} {sc : Scope} {f : Addr} {cdv : Value} {A : Around} {outer : List Env} {s : Shared} {H : Hp} {E : XK} {CX : CXT} : (cxOf CX P w K mg base N q sc f cdv A outer s H E).K = K := rfl
/-- nothing owned, one thing back -/
abbrev spD {α : Type} (A : α → List Pr) (pre : α → Prop) (B : α → Pr) : Sp := sp A (fun _ => []) pre (fun x Q μ => Q = B x ∧ μ = [])
/-- a deck first -/
abbrev spK {α : Type} (A : α → List Pr) (pre : α → Prop) (D0 : α → Deck) (B : α → Pr) (D1 : α → Deck) : Sp := sp (fun x : Addr × α => Av x.1 :: A x.2) (fun x => [(x.1, DKo (D0 x.2))]) (fun x => pre x.2) (fun x Q μ => Q = B x.2 ∧ μ = [(x.1, DKo (D1 x.2))])
theorem back_D {α : Type} {B : α → Pr} {x : α} {Q : Pr} {μ : Mp} (h : Imp Q (B x)) : BackY (fun x Q μ => Q = B x ∧ μ = []) x Q μ := backY_mk ⟨rfl, rfl⟩ h (List.nil_sublist _)
theorem back_K {α : Type} {B : α → Pr} {D1 : α → Deck} {x : Addr × α} {Q : Pr} {D : Deck} {μ : Mp} (h : Imp Q (B x.2)) (hD : D = D1 x.2) : BackY (fun x Q μ => Q = B x.2 ∧ μ = [(x.1, DKo (D1 x.2))]) x Q ((x.1, DKo D) :: μ) := backY_mk ⟨rfl, rfl⟩ h (by rw [hD]; exact (List.nil_sublist _).cons_cons _)
section
variable {E : XK} {K : PySem.W.Frag} {te ta tb tc tl : TE} {tt tu : TT} {tA tr : TA} {δ δ' : En} {μ μ' μ0 μ1 μ2 rest : Mp} {Q P1 P2 : Pr} {Ps : List Pr} {d e : PyData} {ds es : List PyData} {i j : Int} {a b c : Bool} {k n : Nat} {ad : Addr} {g : TG} {vs : List Nat} {wi : TI}
section
variable {α : Type} {A : α → List Pr} {m : α → Mp} {pre : α → Prop} {R : α → Pr → Mp → Prop} {B : α → Pr} {D0 D1 : α → Deck}
theorem y_call (x : α) (h : EA tA δ μ (A x) (m x ++ rest)) (hp : pre x) : EY (tCall (sp A m pre R) [] E tA) δ μ (fun Q μ' => ∃ μ2, R x Q μ2 ∧ μ' = μ2 ++ rest) := fun σ G M s mm G1 H F e m1 q z =>
  h σ G M s mm G1 H F e m1 _ fun vs G2 M2 H2 e2 m2 a2 r2 => by
    obtain ⟨Ma, Mb, rfl, ma, mb⟩ := Mm.cut r2
    refine ⟨x, G2, Ma, Mb ++ F, by rw [← List.append_assoc]; exact m2, ⟨ma, by rw [List.append_nil]; exact a2, hp⟩, fun v G' M' H' e' m' ⟨Q, μ', r0, r1, r2⟩ => ?_⟩
    exact z v G' (M' ++ Mb) H' (e2.trans e') (by rw [List.append_assoc]; exact m') ⟨Q, _, ⟨μ', r0, rfl⟩, r1, Mm.app r2 (mb.mono e')⟩
theorem e_callD (x : α) (h : EA tA δ μ (A x) μ1) (hp : pre x) : E1 (tCall (spD A pre B) [] E tA) δ μ (B x) μ1 := ((y_call (m := fun _ => []) (R := fun x Q μ => Q = B x ∧ μ = []) x h hp).imp fun Q μ' r => by
  obtain ⟨_, ⟨rfl, rfl⟩, rfl⟩ := r
  exact ⟨rfl, rfl⟩).one
theorem e_callR {α : Type} {A : α → List Pr} {m : α → Mp} {pre : α → Prop} {B : α → Pr} (x : α) (h : EA tA δ μ (A x) (m x)) (hp : pre x) : E1 (tCall (sp A m pre (fun x Q μ => Q = B x ∧ μ = m x)) [] E tA) δ μ (B x) (m x) := ((y_call (m := m) (rest := []) (R := fun x Q μ => Q = B x ∧ μ = m x) x (by rw [List.append_nil]; exact h) hp).imp fun Q μ' r => by
  obtain ⟨_, ⟨rfl, rfl⟩, rfl⟩ := r
  exact ⟨rfl, List.append_nil _⟩).one
theorem back_R {α : Type} {m : α → Mp} {B : α → Pr} {x : α} {Q : Pr} {μ : Mp} (h : Imp Q (B x)) (hm : (m x).Sublist μ) : BackY (fun x Q μ => Q = B x ∧ μ = m x) x Q μ := backY_mk ⟨rfl, rfl⟩ h hm
theorem e_callK (x : α) (h : EA tA δ μ (Av ad :: A x) ((ad, DKo (D0 x)) :: rest)) (hp : pre x) : E1 (tCall (spK A pre D0 B D1) [] E tA) δ μ (B x) ((ad, DKo (D1 x)) :: rest) := ((y_call (A := fun x : Addr × α => Av x.1 :: A x.2) (m := fun x => [(x.1, DKo (D0 x.2))]) (pre := fun x => pre x.2) (R := fun x Q μ => Q = B x.2 ∧ μ = [(x.1, DKo (D1 x.2))]) (ad, x) h hp).imp fun Q μ' r => by
  obtain ⟨_, ⟨rfl, rfl⟩, rfl⟩ := r
  exact ⟨rfl, rfl⟩).one
end
theorem kept_mapM {α : Type} {enc out : α → PyData} {xs : List α} {fd : Nat → PyData} (h : ∀ (i : Nat) x, xs[i]? = some x → fd i = out x) : kept xs.length (fun _ => true) fd = xs.map out := kept_ext (by simp) fun i d hd => by
  rw [List.getElem?_map] at hd
  cases q : xs[i]? with
  | none => rw [q] at hd; cases hd
  | some x => rw [q] at hd; cases hd; exact h i x q
theorem getD_map {α : Type} {enc : α → PyData} {xs : List α} {i : Nat} {x : α} (h : xs[i]? = some x) : ((xs.map enc)[i]?).getD .none = enc x := by
  rw [List.getElem?_map, h]
  rfl
/-- a walk over typed items -/
theorem o_mapW {α : Type} {out : α → PyData} {xs : List α} {X : Nat → Pr} {en : α → Pr} (hw : IY wi δ μ xs.length X μ1) (hX : ∀ (i : Nat) x, xs[i]? = some x → X i = en x) (hn : xs.length ≤ 100000)
    (hb : ∀ x, x ∈ xs → ∃ δ'', G1 g (en x) (wipeY δ vs) δ'' vs ∧ E1 te δ'' μ1 (D K (out x)) μ1) : EO K (tLc wi g tYes te vs) δ μ (xs.map out) μ1 := by
  have := o_lc (K := K) (g := g) (tt := tYes) (te := te) (vs := vs) (fun _ => μ1) (fun _ => true) (fun i => ((xs.map out)[i]?).getD .none) hw hn fun i hi => by
    have hx : xs[i]? = some xs[i] := List.getElem?_eq_getElem hi
    obtain ⟨δ'', h1, h2⟩ := hb xs[i] (List.getElem_mem hi)
    exact ⟨δ'', by rw [hX i _ hx]; exact h1, t_yes, fun _ => by rw [getD_map hx]; exact h2, fun z => by cases z⟩
  rw [kept_mapM (enc := out) (out := out) fun i x h => getD_map h] at this
  exact this
theorem o_mapL {α : Type} {enc out : α → PyData} {xs : List α} (hs : E1 tl δ μ (D K (.list (xs.map enc))) μ1) (hn : xs.length ≤ 100000)
    (hb : ∀ x, x ∈ xs → E1 te ((wipeY δ vs).set k (some (D K (enc x)))) μ1 (D K (out x)) μ1) (hk : k ∈ vs := by decide) : EO K (tLc (iList K tl) (gName k) tYes te vs) δ μ (xs.map out) μ1 :=
  o_mapW (X := fun i => D K (((xs.map enc)[i]?).getD .none)) (en := fun x => D K (enc x)) (by have := i_list hs; rw [List.length_map] at this; exact this) (fun i x h => by rw [getD_map h]) hn fun x hx => ⟨_, g_name hk, hb x hx⟩
theorem o_mapT {α : Type} {enc out : α → PyData} {xs : List α} (hs : E1 tl δ μ (D K (.tuple (xs.map enc))) μ1) (hn : xs.length ≤ 100000)
    (hb : ∀ x, x ∈ xs → E1 te ((wipeY δ vs).set k (some (D K (enc x)))) μ1 (D K (out x)) μ1) (hk : k ∈ vs := by decide) : EO K (tLc (iTup K tl) (gName k) tYes te vs) δ μ (xs.map out) μ1 :=
  o_mapW (X := fun i => D K (((xs.map enc)[i]?).getD .none)) (en := fun x => D K (enc x)) (by have := i_tup hs; rw [List.length_map] at this; exact this) (fun i x h => by rw [getD_map h]) hn fun x hx => ⟨_, g_name hk, hb x hx⟩
theorem o_mapR {out : Nat → PyData} (hs : E1 ta δ μ (D K (.int i)) μ1) (hi : -100000 ≤ i ∧ i ≤ 100000)
    (hb : ∀ x : Nat, x < i.toNat → E1 te ((wipeY δ vs).set k (some (D K (.int (x : Int))))) μ1 (D K (out x)) μ1) (hk : k ∈ vs := by decide) : EO K (tLc (iRng1 (tCons ta tNil)) (gName k) tYes te vs) δ μ ((List.range i.toNat).map out) μ1 :=
  o_mapW (xs := List.range i.toNat) (X := fun k => D K (.int (k : Int))) (en := fun x => D K (.int (x : Int))) (by rw [List.length_range]; exact i_rng1 hs (by omega)) (fun i x h => by rw [List.getElem?_eq_some_iff] at h; obtain ⟨_, h⟩ := h; rw [← h, List.getElem_range]) (by rw [List.length_range]; omega) fun x hx => ⟨_, g_name hk, hb x (List.mem_range.mp hx)⟩
theorem o_mapR2 {out : Int → PyData} (hs : E1 ta δ μ (D K (.int i)) μ0) (hs2 : E1 tb δ μ0 (D K (.int j)) μ1) (hi : -50000 ≤ i ∧ i ≤ 50000 ∧ -50000 ≤ j ∧ j ≤ 50000)
    (hb : ∀ x : Int, i ≤ x → x < j → E1 te ((wipeY δ vs).set k (some (D K (.int x)))) μ1 (D K (out x)) μ1) (hk : k ∈ vs := by decide) : EO K (tLc (iRng2 (tCons ta (tCons tb tNil))) (gName k) tYes te vs) δ μ (((List.range (j - i).toNat).map fun (x : Nat) => i + (x : Int)).map out) μ1 :=
  o_mapW (xs := (List.range (j - i).toNat).map fun (x : Nat) => i + (x : Int)) (X := fun k => D K (.int (i + (k : Int)))) (en := fun x => D K (.int x)) (by rw [List.length_map, List.length_range]; exact i_rng2 hs hs2 (by omega)) (fun n x h => by
    rw [List.getElem?_map] at h
    cases q : (List.range (j - i).toNat)[n]? with
    | none => rw [q] at h; cases h
    | some y =>
      rw [q] at h
      cases h
      rw [List.getElem?_eq_some_iff] at q
      obtain ⟨_, q⟩ := q
      rw [← q, List.getElem_range]) (by rw [List.length_map, List.length_range]; omega) fun x hx => ⟨_, g_name hk, by
    obtain ⟨n, hn, rfl⟩ := List.mem_map.mp hx
    rw [List.mem_range] at hn
    exact hb _ (by omega) (by omega)⟩
/-- with a test -/
theorem kept_filter {α : Type} {out : α → PyData} {xs : List α} {p : α → Bool} {bb : Nat → Bool} {fd : Nat → PyData} (h : ∀ (i : Nat) x, xs[i]? = some x → bb i = p x ∧ fd i = out x) : kept xs.length bb fd = (xs.filter p).map out := by
  have : ∀ n, n ≤ xs.length → kept n bb fd = ((xs.take n).filter p).map out := fun n => by
    induction n with
    | zero => intro _; rfl
    | succ n ih =>
      intro hn
      have hx : xs[n]? = some xs[n] := List.getElem?_eq_getElem (by omega)
      obtain ⟨h1, h2⟩ := h n _ hx
      rw [kept_succ, ih (by omega), List.take_add_one, hx, h1, h2]
      simp only [Option.toList, List.filter_append, List.map_append]
      cases hp : p xs[n] <;> simp [hp]
  rw [this _ (Nat.le_refl _), List.take_length]
theorem o_filtW {α : Type} {out : α → PyData} {p : α → Bool} {xs : List α} {X : Nat → Pr} {en : α → Pr} (hw : IY wi δ μ xs.length X μ1) (hX : ∀ (i : Nat) x, xs[i]? = some x → X i = en x) (hn : xs.length ≤ 100000)
    (hb : ∀ x, x ∈ xs → ∃ δ'', G1 g (en x) (wipeY δ vs) δ'' vs ∧ T1 tt δ'' μ1 (p x) μ1 ∧ (p x = true → E1 te δ'' μ1 (D K (out x)) μ1)) : EO K (tLc wi g tt te vs) δ μ ((xs.filter p).map out) μ1 := by
  have := o_lc (K := K) (g := g) (tt := tt) (te := te) (vs := vs) (fun _ => μ1) (fun i => ((xs[i]?).map p).getD false) (fun i => ((xs.map out)[i]?).getD .none) hw hn fun i hi => by
    have hx : xs[i]? = some xs[i] := List.getElem?_eq_getElem hi
    obtain ⟨δ'', h1, h2, h3⟩ := hb xs[i] (List.getElem_mem hi)
    refine ⟨δ'', by rw [hX i _ hx]; exact h1, by rw [hx]; exact h2, fun z => by rw [getD_map hx]; rw [hx] at z; exact h3 z, fun _ => rfl⟩
  rw [kept_filter (p := p) (out := out) fun i x h => ⟨by rw [h]; rfl, getD_map h⟩] at this
  exact this
theorem o_filtL {α : Type} {enc out : α → PyData} {p : α → Bool} {xs : List α} (hs : E1 tl δ μ (D K (.list (xs.map enc))) μ1) (hn : xs.length ≤ 100000)
    (hb : ∀ x, x ∈ xs → T1 tt ((wipeY δ vs).set k (some (D K (enc x)))) μ1 (p x) μ1) (hb2 : ∀ x, x ∈ xs → p x = true → E1 te ((wipeY δ vs).set k (some (D K (enc x)))) μ1 (D K (out x)) μ1) (hk : k ∈ vs := by decide) : EO K (tLc (iList K tl) (gName k) tt te vs) δ μ ((xs.filter p).map out) μ1 :=
  o_filtW (X := fun i => D K (((xs.map enc)[i]?).getD .none)) (en := fun x => D K (enc x)) (by have := i_list hs; rw [List.length_map] at this; exact this) (fun i x h => by rw [getD_map h]) hn fun x hx => ⟨_, g_name hk, hb x hx, hb2 x hx⟩
theorem o_filtR {out : Nat → PyData} {p : Nat → Bool} (hs : E1 ta δ μ (D K (.int i)) μ1) (hi : -100000 ≤ i ∧ i ≤ 100000)
    (hb : ∀ x : Nat, x < i.toNat → T1 tt ((wipeY δ vs).set k (some (D K (.int (x : Int))))) μ1 (p x) μ1) (hb2 : ∀ x : Nat, x < i.toNat → p x = true → E1 te ((wipeY δ vs).set k (some (D K (.int (x : Int))))) μ1 (D K (out x)) μ1) (hk : k ∈ vs := by decide) : EO K (tLc (iRng1 (tCons ta tNil)) (gName k) tt te vs) δ μ (((List.range i.toNat).filter p).map out) μ1 :=
  o_filtW (xs := List.range i.toNat) (X := fun k => D K (.int (k : Int))) (en := fun x => D K (.int (x : Int))) (by rw [List.length_range]; exact i_rng1 hs (by omega)) (fun i x h => by rw [List.getElem?_eq_some_iff] at h; obtain ⟨_, h⟩ := h; rw [← h, List.getElem_range]) (by rw [List.length_range]; omega) fun x hx => ⟨_, g_name hk, hb x (List.mem_range.mp hx), hb2 x (List.mem_range.mp hx)⟩
theorem e_allO {f : α → Bool} {xs : List α} (h : EO K te δ μ (xs.map fun x => .bool (f x)) μ1) : E1 (tCB (rAll K) (tCons te tNil)) δ μ (D K (.bool (xs.all f))) μ1 := by
  have := e_all (bs := xs.map f) (by rw [List.map_map]; exact h.frz)
  rw [List.all_map] at this
  exact this
theorem e_anyO {f : α → Bool} {xs : List α} (h : EO K te δ μ (xs.map fun x => .bool (f x)) μ1) : E1 (tCB (rAny K) (tCons te tNil)) δ μ (D K (.bool (xs.any f))) μ1 := by
  have := e_any (bs := xs.map f) (by rw [List.map_map]; exact h.frz)
  rw [List.any_map] at this
  exact this
theorem e_sumO {f : α → Int} {xs : List α} (h : EO K te δ μ (xs.map fun x => .int (f x)) μ1) : E1 (tCB (rSum K) (tCons te tNil)) δ μ (D K (.int (xs.map f).sum)) μ1 :=
  e_sum (P1 := D K (.list ((xs.map f).map .int))) (by rw [List.map_map]; exact h.frz) lr_D
end
end SY
set_option Elab.async false
set_option linter.all false
set_option maxRecDepth 100000
namespace SY
open PySem PySem.Spec L2 SX
inductive Deed where
  | forget | again | off (d : Int) | read (j d : Int) | copy (j : Int) | swap | out | twice | right
  deriving DecidableEq
def Deed.L : Deed → List PyData
  | .forget => [.str "forget"]
  | .again => [.str "again"]
  | .off d => [.str "off", .int d]
  | .read j d => [.str "read", .int j, .int d]
  | .copy j => [.str "copy", .int j]
  | .swap => [.str "swap"]
  | .out => [.str "out"]
  | .twice => [.str "twice"]
  | .right => [.str "right"]
def Deed.word : Deed → Str
  | .forget => "forget"
  | .again => "again"
  | .off _ => "off"
  | .read _ _ => "read"
  | .copy _ => "copy"
  | .swap => "swap"
  | .out => "out"
  | .twice => "twice"
  | .right => "right"
abbrev deedD (x : Deed) : PyData := .tuple x.L
abbrev odD : Option Deed → PyData
  | none => .none
  | some x => deedD x
theorem cdiv_small {i j : Int} (h0 : 0 < j) (h1 : j < 2 ^ 64) : CDivW i j := wide_div h0 (b := 64) (by omega) (by decide) (by decide)
theorem e_word {K : PySem.W.Frag} {ta : TE} {δ : En} {μ μ1 : Mp} {x : Deed} (h : E1 ta δ μ (D K (.tuple (Deed.L x))) μ1) : E1 (tOp (rIxT K) ta (tC (.int 0))) δ μ (D K (.str x.word)) μ1 := e_ixT h e_cI (by cases x <;> rfl)
/-- what a doing gives: figures, the carry then; none where it is not possible -/
def stepD : Option (List Int × Int) → PyData
  | none => .none
  | some (fs, c) => .tuple [.list (fs.map .int), .int c]
/-- .., its figures a list that stands in the heap -/
def stepP (K : PySem.W.Frag) : Option (List Int × Int) → Pr
  | none => D K .none
  | some (fs, c) => Tp [Hl K (fs.map .int), D K (.int c)]
def doSum (b t c : Int) : Option Deed → Option (List Int × Int)
  | some .out => some ([], c)
  | some .forget => if (t + c) / b > 0 then some ([(t + c) % b], 0) else none
  | some .again => some ([(t + c) % b], (t + c) / b + 1)
  | some (.off d) => some ([((t + c) % b + d) % b], (t + c) / b)
  | some .twice => some ([(t + c) % b, (t + (t + c) / b) % b], (t + (t + c) / b) / b)
  | _ => some ([(t + c) % b], (t + c) / b)
def sumTaken (b : Int) (c : List Int) (cp : Int) : Option Deed → Int
  | some (.read j d) => c.sum - c.getD j.toNat 0 + (c.getD j.toNat 0 + d) % b
  | some (.copy j) => c.sum - c.getD j.toNat 0 + cp
  | _ => c.sum
/-- the row of a deed is one of these -/
def RowOk (n : Nat) : Option Deed → Prop
  | some (.read j _) => 0 ≤ j ∧ j < n
  | some (.copy j) => 0 ≤ j ∧ j < n
  | _ => True
/-- columns done rightly -/
def doCols (b : Int) : List (List Int) → Int → List Int × Int
  | [], c => ([], c)
  | x :: xs, c => let r := doCols b xs ((x.sum + c) / b); ((x.sum + c) % b :: r.1, r.2)
theorem doCols_app (b : Int) : ∀ (xs ys : List (List Int)) (c : Int), doCols b (xs ++ ys) c = ((doCols b xs c).1 ++ (doCols b ys (doCols b xs c).2).1, (doCols b ys (doCols b xs c).2).2)
  | [], _, _ => by simp [doCols]
  | x :: xs, ys, c => by simp [doCols, doCols_app b xs ys]
theorem doCols_snoc (b : Int) (xs : List (List Int)) (x : List Int) (c : Int) : doCols b (xs ++ [x]) c = ((doCols b xs c).1 ++ [(x.sum + (doCols b xs c).2) % b], (x.sum + (doCols b xs c).2) / b) := by
  rw [doCols_app]
  rfl
theorem doCols_len (b : Int) : ∀ (xs : List (List Int)) (c : Int), (doCols b xs c).1.length = xs.length
  | [], _ => rfl
  | x :: xs, c => by simp [doCols, doCols_len b xs]
end SY
namespace SY
open PySem PySem.Spec L2 SX
theorem w_read {x : Deed} (h : decide (x.word = "read") = true) : ∃ j d, x = .read j d := by cases x <;> first | exact ⟨_, _, rfl⟩ | (exfalso; have h := of_decide_eq_true h; revert h; simp only [Deed.word]; decide)
theorem w_copy {x : Deed} (h : decide (x.word = "copy") = true) : ∃ j, x = .copy j := by cases x <;> first | exact ⟨_, rfl⟩ | (exfalso; have h := of_decide_eq_true h; revert h; simp only [Deed.word]; decide)
theorem w_off {x : Deed} (h : decide (x.word = "off") = true) : ∃ d, x = .off d := by cases x <;> first | exact ⟨_, rfl⟩ | (exfalso; have h := of_decide_eq_true h; revert h; simp only [Deed.word]; decide)
theorem w_forget {x : Deed} (h : decide (x.word = "forget") = true) : x = .forget := by cases x <;> first | rfl | (exfalso; have h := of_decide_eq_true h; revert h; simp only [Deed.word]; decide)
theorem w_again {x : Deed} (h : decide (x.word = "again") = true) : x = .again := by cases x <;> first | rfl | (exfalso; have h := of_decide_eq_true h; revert h; simp only [Deed.word]; decide)
theorem w_swap {x : Deed} (h : decide (x.word = "swap") = true) : x = .swap := by cases x <;> first | rfl | (exfalso; have h := of_decide_eq_true h; revert h; simp only [Deed.word]; decide)
theorem w_out {x : Deed} (h : decide (x.word = "out") = true) : x = .out := by cases x <;> first | rfl | (exfalso; have h := of_decide_eq_true h; revert h; simp only [Deed.word]; decide)
theorem w_twice {x : Deed} (h : decide (x.word = "twice") = true) : x = .twice := by cases x <;> first | rfl | (exfalso; have h := of_decide_eq_true h; revert h; simp only [Deed.word]; decide)
end SY
set_option Elab.async false
set_option linter.all false
set_option maxRecDepth 100000
namespace SY
open PySem PySem.Spec L2 SX
section
variable {E : XK} {K : PySem.W.Frag} {C C2 : Addr} {te ta tb tc tl : TE} {tt tu : TT} {tA tr : TA} {δ δ' : En} {μ μ' μ0 μ1 μ2 rest : Mp} {Q P P1 P2 : Pr} {Ps : List Pr} {R : Post} {d e : PyData} {ds es : List PyData} {i j b r b' r' last last' : Int} {cs cs' : List (List Int)} {figs figs' : List Int} {k n : Nat} {ad l : Addr} {m : Str} {t u : TS} {PP : PY}
section
variable {α : Type} {pre : α → Hp → Mem → List V → Prop} {post : α → Mem → Post} {σ : L2.St} {G : Hp} {M : Mem}
theorem ev_callO (h : EA tA δ μ Ps μ1) (s : Sl G σ δ) (mm : Mm G M μ) (hp : ∀ G M vs, AP G Ps vs → Mm G M μ1 → ∃ x, pre x G M vs ∧ ∀ G' v M', Ex G G' → post x M G' v M' → R G' v M') : Ev (tCall (spec pre post) [] E tA) σ G M R := fun G1 H F e m1 q z =>
  h σ G M s mm G1 H F e m1 _ fun vs G2 M2 H2 e2 m2 a2 r2 => by
    obtain ⟨x, h1, h2⟩ := hp G2 M2 vs a2 r2
    exact ⟨x, G2, M2, F, m2, by rw [List.append_nil]; exact h1, fun v G' M' H' e' m' r' => z v G' M' H' (e2.trans e') m' (h2 G' v M' e' r')⟩
theorem ev_propO (h : E1 ta δ μ P1 μ1) (s : Sl G σ δ) (mm : Mm G M μ) (hp : ∀ G v M, P1.p G v → Mm G M μ1 → ∃ x p dx fs, v = .ref p ∧ At G M p (.ins C dx fs) ∧ pre x G M [.ref p] ∧ ∀ G' v' M', Ex G G' → post x M G' v' M' → R G' v' M') : Ev (tProp C (spec pre post) [] E ta) σ G M R := fun G1 H F e m1 q z =>
  h σ G M s mm G1 H F e m1 _ fun v G2 M2 H2 e2 m2 r2 => by
    obtain ⟨x, p, dx, fs, rfl, h1, h2, h3⟩ := hp G2 v M2 r2.1 r2.2
    exact ⟨p, dx, fs, rfl, h1 G2 H2 F (Ex.refl _) m2, x, G2, M2, F, m2, h2, fun v G' M' H' e' m' r' => z v G' M' H' (e2.trans e') m' (h3 G' v M' e' r')⟩
theorem ev_methO (h : E1 ta δ μ P1 μ1) (h2 : EA tA δ μ1 Ps μ2) (s : Sl G σ δ) (mm : Mm G M μ) (hi : ∀ G v M, P1.p G v → Mm G M μ1 → ∃ p dx fs, v = .ref p ∧ At G M p (.ins C dx fs) ∧ fs.lookup m = none)
    (hp : ∀ G v vs M, P1.p G v → AP G Ps vs → Mm G M μ2 → ∃ x, pre x G M (v :: vs) ∧ ∀ G' v' M', Ex G G' → post x M G' v' M' → R G' v' M') : Ev (tMeth C m (spec pre post) [] E ta tA) σ G M R := fun G1 H F e m1 q z =>
  h σ G M s mm G1 H F e m1 _ fun v G2 M2 H2 e2 m2 r2 => by
    obtain ⟨p, dx, fs, rfl, h3, h4⟩ := hi G2 v M2 r2.1 r2.2
    refine ⟨p, dx, fs, rfl, h3 G2 H2 F (Ex.refl _) m2, h4, h2 σ G2 M2 (s.mono (e.trans e2)) r2.2 G2 H2 F (Ex.refl _) m2 _ fun vs G3 M3 H3 e3 m3 a3 r3 => ?_⟩
    obtain ⟨x, h5, h6⟩ := hp G3 _ vs M3 (P1.m _ _ _ e3 r2.1) a3 r3
    exact ⟨x, G3, M3, F, m3, by rw [List.append_nil]; exact h5, fun v G' M' H' e' m' r' => z v G' M' H' ((e2.trans e3).trans e') m' (h6 G' v M' e' r')⟩
end
/-- a sheet that stands still; one whose list l is owned -/
def ShF (K : PySem.W.Frag) (C : Addr) (b r : Int) (cs : List (List Int)) : Pr := ⟨ShFz K C b r cs, fun _ _ _ e h => Mono.mono _ _ _ e h⟩
def ShI (C : Addr) (b r : Int) (l : Addr) : Pr := ⟨fun G v => ∃ p dx, v = .ref p ∧ G p = some (.ins C dx (shF (.int b) (.int r) (.ref l))), fun _ _ _ e h => by obtain ⟨p, dx, h1, h2⟩ := h; exact ⟨p, dx, h1, e _ _ h2⟩⟩
def SR (K : PySem.W.Frag) (C : Addr) (P : Pr) (μ : Mp) (b r : Int) (cs : List (List Int)) : Prop := ∀ G v M, P.p G v → Mm G M μ → ∃ p, v = .ref p ∧ ShAt K C G M p b r cs
theorem sr_F : SR K C (ShF K C b r cs) μ b r cs := fun G v M h _ => by
  obtain ⟨p, rfl, h2⟩ := ShFz.at_ h
  exact ⟨p, rfl, h2 M⟩
theorem sr_O (i : Nat) (h : μ[i]? = some (l, OL K (cs.map colD))) : SR K C (ShI C b r l) μ b r cs := fun G v M hv mm => by
  obtain ⟨p, dx, rfl, h1⟩ := hv
  obtain ⟨o, h2, xs, rfl, h3⟩ := mm.get h
  exact ⟨p, rfl, dx, l, xs, .G h1, .M h2, h3⟩
theorem sr_cons {x : Addr × Ob} (h : SR K C P μ b r cs) : SR K C P (x :: μ) b r cs := fun G v M hv mm => by
  match M, mm with
  | m :: M, mm =>
    obtain ⟨p, rfl, h2⟩ := h G v M hv mm.2
    obtain ⟨dx, l, xs, h3, h4, h5⟩ := h2
    refine ⟨p, rfl, dx, l, xs, fun G1 H F e m1 => h3 G1 H F e (m1.sub (List.sublist_cons_self _ _)), fun G1 H F e m1 => h4 G1 H F e (m1.sub (List.sublist_cons_self _ _)), h5⟩
theorem lr_cons {x : Addr × Ob} (h : LR K P μ ds) : LR K P (x :: μ) ds := fun G v M hv mm => by
  match M, mm with
  | m :: M, mm =>
    obtain ⟨a, xs, h1, h2, h3⟩ := h G v M hv mm.2
    exact ⟨a, xs, h1, fun G1 H F e m1 => h2 G1 H F e (m1.sub (List.sublist_cons_self _ _)), h3⟩
theorem ShAt.ins {G : Hp} {M : Mem} {p : Addr} (h : ShAt K C G M p b r cs) : ∃ dx fs, At G M p (.ins C dx fs) := by
  obtain ⟨dx, l, xs, h1, _⟩ := h
  exact ⟨dx, _, h1⟩
theorem SR.pre (hs : SR K C P μ b r cs) {G : Hp} {v : V} {M : Mem} (h : P.p G v) (mm : Mm G M μ) : ∃ p dx fs, v = .ref p ∧ At G M p (.ins C dx fs) ∧ ShAt K C G M p b r cs := by
  obtain ⟨p, rfl, h2⟩ := hs G v M h mm
  obtain ⟨dx, fs, h3⟩ := ShAt.ins h2
  exact ⟨p, dx, fs, rfl, h3, h2⟩
theorem e_shBase (h : E1 ta δ μ P μ1) (hs : SR K C P μ1 b r cs) : E1 (tProp C (spec (shPre K C) fun x M => isV (.int x.2.1) M) [] E ta) δ μ (D K (.int b)) μ1 := fun σ G M s mm =>
  ev_propO h s mm fun G v M hv m2 => by
    obtain ⟨p, dx, fs, rfl, h1, h2⟩ := hs.pre hv m2
    refine ⟨(p, b, r, cs), p, dx, fs, rfl, h1, ⟨rfl, h2⟩, ?_⟩
    rintro G' _ _ e ⟨rfl, rfl⟩
    exact ⟨.int b, m2.mono e⟩
theorem e_shRows (h : E1 ta δ μ P μ1) (hs : SR K C P μ1 b r cs) : E1 (tProp C (spec (shPre K C) fun x M => isV (.int x.2.2.1) M) [] E ta) δ μ (D K (.int r)) μ1 := fun σ G M s mm =>
  ev_propO h s mm fun G v M hv m2 => by
    obtain ⟨p, dx, fs, rfl, h1, h2⟩ := hs.pre hv m2
    refine ⟨(p, b, r, cs), p, dx, fs, rfl, h1, ⟨rfl, h2⟩, ?_⟩
    rintro G' _ _ e ⟨rfl, rfl⟩
    exact ⟨.int r, m2.mono e⟩
theorem o_shCols (h : E1 ta δ μ P μ1) (hs : SR K C P μ1 b r cs) : EO K (tProp C (spec (shPre K C) fun x M => own K (x.2.2.2.map colD) M) [] E ta) δ μ (cs.map colD) μ1 := fun σ G M s mm =>
  ev_propO h s mm fun G v M hv m2 => by
    obtain ⟨p, dx, fs, rfl, h1, h2⟩ := hs.pre hv m2
    refine ⟨(p, b, r, cs), p, dx, fs, rfl, h1, ⟨rfl, h2⟩, ?_⟩
    rintro G' _ _ e ⟨q, vs, rfl, rfl, hd⟩
    exact ⟨q, vs, M, rfl, rfl, hd, m2.mono e⟩
theorem e_shVal (h : E1 ta δ μ P μ1) (hs : SR K C P μ1 b r cs) (g : GoodSh b r cs) : E1 (tProp C (spec (shGPre K C) fun x M => isV (.int (valueOf x.2.1 x.2.2.2)) M) [] E ta) δ μ (D K (.int (valueOf b cs))) μ1 := fun σ G M s mm =>
  ev_propO h s mm fun G v M hv m2 => by
    obtain ⟨p, dx, fs, rfl, h1, h2⟩ := hs.pre hv m2
    have := g.b2
    have := g.b12
    have := g.len
    refine ⟨(p, b, r, cs), p, dx, fs, rfl, h1, ⟨⟨rfl, h2⟩, by show cs.length ≤ 100000; omega, by show -(2 ^ 64) < b ∧ b < 2 ^ 64; omega⟩, ?_⟩
    rintro G' _ _ e ⟨rfl, rfl⟩
    exact ⟨.int _, m2.mono e⟩
theorem e_shLen (h : E1 ta δ μ P μ1) (hs : SR K C P μ1 b r cs) (hl : cs.length ≤ 10000) : E1 (tCB (rLenO C (spec (shPre K C) fun x M => isV (.int (x.2.2.2.length : Int)) M) E) (tCons ta tNil)) δ μ (D K (.int (cs.length : Int))) μ1 := fun σ G M s mm G1 H F e m1 q z =>
  h σ G M s mm G1 H F e m1 _ fun v G2 M2 H2 e2 m2 r2 => by
    obtain ⟨p, dx, fs, rfl, h1, h2⟩ := hs.pre r2.1 r2.2
    refine ⟨p, dx, fs, rfl, h1 G2 H2 F (Ex.refl _) m2, (p, b, r, cs), G2, M2, F, m2, ⟨rfl, h2⟩, ?_⟩
    rintro v G' M' H' e' m' ⟨rfl, rfl⟩
    exact ⟨_, rfl, ⟨by show (0 : Int) ≤ (cs.length : Int); omega, by show (cs.length : Int) < 2 ^ 63; omega⟩, z _ G' _ H' (e2.trans e') m' ⟨.int _, r2.2.mono e'⟩⟩
theorem e_shIx (h : E1 ta δ μ P μ1) (h' : E1 tb δ μ1 (D K (.int i)) μ2) (hs : SR K C P μ2 b r cs) (hi : 0 ≤ i ∧ i < cs.length) : E1 (tOp (rIxO C (spec (shIxPre K C) fun x M => isD K (colD x.2.2) M) E) ta tb) δ μ (D K (colD (cs.getD i.toNat []))) μ2 :=
  e_op h h' fun G H F M x y m mm p1 p2 Q q => by
    rw [dp_int p2]
    obtain ⟨p, dx, fs, rfl, h1, h2⟩ := hs.pre p1 mm
    refine ⟨p, dx, fs, rfl, h1 G H F (Ex.refl _) m, ((p, b, r, cs), i, cs.getD i.toNat []), G, M, F, m, ⟨rfl, h2, hi.1, ?_⟩, ?_⟩
    · have : i.toNat < cs.length := by omega
      show cs[i.toNat]? = some (cs.getD i.toNat [])
      simp [List.getD, List.getElem?_eq_getElem this]
    · rintro v G' M' H' e' m' ⟨h3, rfl⟩
      exact q v G' _ H' e' m' h3 (mm.mono e')
/-- what is new: an instance that stands still, its list owned -/
theorem y_new {M : Mem} {G : Hp} (mm : Mm G M μ) {G' : Hp} {v : V} {M' : Mem} (e : Ex G G') (h : newSh K C b r cs M G' v M') : ∃ l ys, M' = M ++ [(l, .lst ys)] ∧ (ShI C b r l).p G' v ∧ Mm G' M' (μ ++ [(l, OL K (cs.map colD))]) := by
  obtain ⟨p, dx, l, ys, rfl, h1, rfl, h2⟩ := h
  exact ⟨l, ys, rfl, ⟨p, dx, rfl, h1⟩, Mm.app (mm.mono e) ⟨⟨rfl, ys, rfl, h2⟩, trivial⟩⟩
def newY (K : PySem.W.Frag) (C : Addr) (b r : Int) (cs : List (List Int)) (μ : Mp) : Pr → Mp → Prop := fun P μ' => ∃ l, P = ShI C b r l ∧ μ' = μ ++ [(l, OL K (cs.map colD))]
/-- one op other by the own comparison -/
theorem e_shCmp {f : PyData → PyData → Bool} (h1 : E1 ta δ μ P1 μ1) (h2 : E1 tb δ μ1 P2 μ2) (s1 : SR K C P1 μ2 b r cs) (s2 : SR K C P2 μ2 b' r' cs') : E1 (tOp (rCmpO C (spec (cmpPre K C) (cmpPost f)) E) ta tb) δ μ (D K (.bool (f (placeD b r cs) (placeD b' r' cs')))) μ2 :=
  e_op h1 h2 fun G H F M x y m mm p1 p2 Q q => by
    obtain ⟨p, dx, fs, rfl, k1, k2⟩ := s1.pre p1 mm
    obtain ⟨p', dx', fs', rfl, k3, k4⟩ := s2.pre p2 mm
    refine ⟨p, dx, fs, p', dx', fs', rfl, rfl, k1 G H F (Ex.refl _) m, k3 G H F (Ex.refl _) m, ((p, b, r, cs), (p', b', r', cs')), G, M, F, m, ⟨rfl, k2, k4⟩, ?_⟩
    rintro v G' M' H' e' m' ⟨rfl, rfl⟩
    exact q _ G' _ H' e' m' (.bl _) (mm.mono e')
/-- a sheet is made -/
theorem y_mkSh (h1 : E1 ta δ μ (D K (.int b)) μ0) (h2 : E1 tb δ μ0 (D K (.int r)) μ1) (h3 : E1 tc δ μ1 P μ2) (hl : LR K P μ2 (cs.map colD)) (g : GoodSh b r cs) : EY (tMake C (spec (mkShPre K C) (mkShPost K C)) [] E (tCons ta (tCons tb (tCons tc tNil)))) δ μ (newY K C b r cs μ2) := fun σ G M s mm G1 H F e m1 q z =>
  (a_cons h1 (a_cons h2 (a_cons h3 a_nil))) σ G M s mm G1 H F e m1 _ fun vs G2 M2 H2 e2 m2 a2 r2 => by
    match vs, a2 with
    | [v1, v2, v3], ⟨q1, q2, q3, _⟩ =>
    obtain ⟨a, xs, rfl, hA, hd⟩ := hl G2 v3 M2 q3 r2
    rw [dp_int q1, dp_int q2]
    have k := ev_mkSh (K := K) (σ := σ) (G := G2) (M := M2) (M1 := M2) (tA := fun _ H Q => Q [.int b, .int r, .ref a] H) (E := E) (C := C) (a := a) (b := b) (r := r) (cs := cs) (fun G1 H F e m Q q => q _ G1 H (Ex.refl _) m ⟨rfl, rfl, rfl, trivial⟩) hA hd g
    refine k G2 H2 F (Ex.refl _) m2 q fun v G3 M3 H3 e3 m3 r3 => ?_
    obtain ⟨l, ys, rfl, h5, h6⟩ := y_new r2 e3 r3
    exact z v G3 _ H3 (e2.trans e3) m3 ⟨_, _, ⟨l, rfl, rfl⟩, h5, h6⟩
def WrP (K : PySem.W.Frag) (C : Addr) (b : Int) (figs : List Int) (last : Int) : Pr := ⟨WrFz K C b figs last, fun _ _ _ e h => Mono.mono _ _ _ e h⟩
theorem wr_pre {G : Hp} {v : V} (h : (WrP K C b figs last).p G v) (M : Mem) : ∃ p dx fs, v = .ref p ∧ At G M p (.ins C dx fs) ∧ WrG K C p b figs last G := by
  obtain ⟨p, rfl, dx, l, xs, h1, h2, h3⟩ := h
  exact ⟨p, dx, _, rfl, .G h1, dx, l, xs, h1, h2, h3⟩
theorem e_wrBase (h : E1 ta δ μ (WrP K C b figs last) μ1) : E1 (tProp C (spec (wrPre K C) fun x M => isV (.int x.2.1) M) [] E ta) δ μ (D K (.int b)) μ1 := fun σ G M s mm =>
  ev_propO h s mm fun G v M hv m2 => by
    obtain ⟨p, dx, fs, rfl, h1, h2⟩ := wr_pre hv M
    refine ⟨(p, b, figs, last), p, dx, fs, rfl, h1, ⟨rfl, h2⟩, ?_⟩
    rintro G' _ _ e ⟨rfl, rfl⟩
    exact ⟨.int b, m2.mono e⟩
theorem e_wrLast (h : E1 ta δ μ (WrP K C b figs last) μ1) : E1 (tProp C (spec (wrPre K C) fun x M => isV (.int x.2.2.2) M) [] E ta) δ μ (D K (.int last)) μ1 := fun σ G M s mm =>
  ev_propO h s mm fun G v M hv m2 => by
    obtain ⟨p, dx, fs, rfl, h1, h2⟩ := wr_pre hv M
    refine ⟨(p, b, figs, last), p, dx, fs, rfl, h1, ⟨rfl, h2⟩, ?_⟩
    rintro G' _ _ e ⟨rfl, rfl⟩
    exact ⟨.int last, m2.mono e⟩
theorem o_wrFigs (h : E1 ta δ μ (WrP K C b figs last) μ1) : EO K (tProp C (spec (wrPre K C) fun x M => own K (x.2.2.1.map .int) M) [] E ta) δ μ (figs.map .int) μ1 := fun σ G M s mm =>
  ev_propO h s mm fun G v M hv m2 => by
    obtain ⟨p, dx, fs, rfl, h1, h2⟩ := wr_pre hv M
    refine ⟨(p, b, figs, last), p, dx, fs, rfl, h1, ⟨rfl, h2⟩, ?_⟩
    rintro G' _ _ e ⟨q, vs, rfl, rfl, hd⟩
    exact ⟨q, vs, M, rfl, rfl, hd, m2.mono e⟩
theorem e_wrVal (h : E1 ta δ μ (WrP K C b figs last) μ1) (hb : -(2 ^ 64) < b ∧ b < 2 ^ 64) : E1 (tProp C (spec (wrGPre K C) fun x M => isV (.int (horner x.2.1 x.2.2.1 x.2.2.2)) M) [] E ta) δ μ (D K (.int (horner b figs last))) μ1 := fun σ G M s mm =>
  ev_propO h s mm fun G v M hv m2 => by
    obtain ⟨p, dx, fs, rfl, h1, h2⟩ := wr_pre hv M
    refine ⟨(p, b, figs, last), p, dx, fs, rfl, h1, ⟨⟨rfl, h2⟩, hb⟩, ?_⟩
    rintro G' _ _ e ⟨rfl, rfl⟩
    exact ⟨.int _, m2.mono e⟩
theorem wrF_rest {b l last : V} : (wrF b l last).lookup ("rest" : Str) = none := wrF_no (by decide +kernel) (by decide +kernel) (by decide +kernel)
theorem e_wrRest (h : E1 ta δ μ (WrP K C b figs last) μ1) (h2 : E1 tb δ μ1 (D K (.int i)) μ2) (hb : -(2 ^ 64) < b ∧ b < 2 ^ 64) (hi : 0 < i) : E1 (tMeth C "rest" (spec (restPre K C) restPost) [] E ta (tCons tb tNil)) δ μ (D K (.int (horner b figs last % i))) μ2 := fun σ G M s mm =>
  ev_methO h (a_cons h2 a_nil) s mm (fun G v M hv m2 => by
    obtain ⟨p, rfl, dx, l, xs, h1, _⟩ := hv
    exact ⟨p, dx, _, rfl, .G h1, wrF_rest⟩) fun G v vs M hv a m2 => by
    obtain ⟨p, dx, fs, rfl, k1, k2⟩ := wr_pre hv M
    match vs, a with
    | [v1], ⟨q1, _⟩ =>
    refine ⟨((p, b, figs, last), i), ⟨by rw [dp_int q1], k2, hb, hi⟩, ?_⟩
    rintro G' v' M' e ⟨rfl, rfl⟩
    exact ⟨.int _, m2.mono e⟩
theorem e_wrSub (h1 : E1 ta δ μ (WrP K C b figs last) μ1) (h2 : E1 tb δ μ1 P2 μ2) (s2 : SR K C2 P2 μ2 b' r' cs') (hb : -(2 ^ 64) < b ∧ b < 2 ^ 64) (hb' : -(2 ^ 64) < b' ∧ b' < 2 ^ 64) (hl : cs'.length ≤ 100000) : E1 (tOp (rBin2 C C2 (spec (wsubPre K C C2) wsubPost) E) ta tb) δ μ (D K (.int (horner b figs last - valueOf b' cs'))) μ2 :=
  e_op h1 h2 fun G H F M x y m mm p1 p2 Q q => by
    obtain ⟨p, dx, fs, rfl, k1, k2⟩ := wr_pre p1 M
    obtain ⟨p', dx', fs', rfl, k3, k4⟩ := s2.pre p2 mm
    refine ⟨p, dx, fs, p', dx', fs', rfl, rfl, k1 G H F (Ex.refl _) m, k3 G H F (Ex.refl _) m, ((p, b, figs, last), (p', b', r', cs')), G, M, F, m, ⟨rfl, k2, k4, hb, hb', hl⟩, ?_⟩
    rintro v G' M' H' e' m' ⟨rfl, rfl⟩
    exact q _ G' _ H' e' m' (.int _) (mm.mono e')
theorem e_wrEq (h1 : E1 ta δ μ (WrP K C b figs last) μ1) (h2 : E1 tb δ μ1 (WrP K C b' figs' last') μ2) : E1 (tOp (rCmpO C (spec (weqPre K C) weqPost) E) ta tb) δ μ (D K (.bool (decide ((b, figs, last) = (b', figs', last'))))) μ2 :=
  e_op h1 h2 fun G H F M x y m mm p1 p2 Q q => by
    obtain ⟨p, dx, fs, rfl, k1, k2⟩ := wr_pre p1 M
    obtain ⟨p', dx', fs', rfl, k3, k4⟩ := wr_pre p2 M
    refine ⟨p, dx, fs, p', dx', fs', rfl, rfl, k1 G H F (Ex.refl _) m, k3 G H F (Ex.refl _) m, ((p, b, figs, last), (p', b', figs', last')), G, M, F, m, ⟨rfl, k2, k4⟩, ?_⟩
    rintro v G' M' H' e' m' ⟨rfl, rfl⟩
    exact q _ G' _ H' e' m' (.bl _) (mm.mono e')
theorem e_mkWr (h1 : E1 ta δ μ (D K (.int b)) μ0) (h2 : E1 tb δ μ0 P μ1) (h3 : E1 tc δ μ1 (D K (.int last)) μ2) (hl : LR K P μ2 (figs.map .int)) : E1 (tMake C (spec (mkWrPre K C) (mkWrPost K C)) [] E (tCons ta (tCons tb (tCons tc tNil)))) δ μ (WrP K C b figs last) μ2 := fun σ G M s mm G1 H F e m1 q z =>
  (a_cons h1 (a_cons h2 (a_cons h3 a_nil))) σ G M s mm G1 H F e m1 _ fun vs G2 M2 H2 e2 m2 a2 r2 => by
    match vs, a2 with
    | [v1, v2, v3], ⟨q1, q2, q3, _⟩ =>
    obtain ⟨a, xs, rfl, hA, hd⟩ := hl G2 v2 M2 q2 r2
    rw [dp_int q1, dp_int q3]
    have k := ev_mkWr (K := K) (σ := σ) (G := G2) (M := M2) (M1 := M2) (tA := fun _ H Q => Q [.int b, .ref a, .int last] H) (E := E) (C := C) (b := b) (last := last) (figs := figs) (Pv := fun _ v => v = .ref a) (fun G1 H F e m Q q => q _ G1 H (Ex.refl _) m ⟨rfl, rfl, rfl, trivial⟩) fun G1 v e h => .inr ⟨a, xs, _, h, rfl, hA.ex e, dma hd e⟩
    refine k G2 H2 F (Ex.refl _) m2 q fun v G3 M3 H3 e3 m3 r3 => ?_
    obtain ⟨r3, rfl⟩ := r3
    exact z v G3 _ H3 (e2.trans e3) m3 ⟨r3, r2.mono e3⟩
end
end SY
set_option Elab.async false
set_option linter.all false
set_option maxRecDepth 100000
namespace SY
open PySem PySem.Spec L2 SX
section
variable {E : XK} {K : PySem.W.Frag} {C : Addr} {te ta tb tc tl : TE} {tA : TA} {δ δ' : En} {μ μ' μ0 μ1 μ2 rest : Mp} {P P1 P2 : Pr} {d e : PyData} {ds es : List PyData} {i j b r lo hi n : Int} {cs : List (List Int)} {figs ns : List Int} {k : Nat} {ad dk : Addr} {f : PyData → Bool} {Dk : Deck}
theorem e_whole (h : EA tA δ μ [D K d, D K (.int lo), D K (.int hi)] μ1) : E1 (tCall (spec (wholePre K) wholePost) [] E tA) δ μ (D K (.bool (isWhole d lo hi))) μ1 := fun σ G M s mm =>
  ev_callO h s mm fun G M vs a m2 => by
    obtain ⟨v, w, u, rfl, p1, p2, p3⟩ := allP3 a
    refine ⟨(d, lo, hi), ⟨v, by rw [dp_int p2, dp_int p3], p1⟩, ?_⟩
    rintro G' v' M' e ⟨rfl, rfl⟩
    exact ⟨.bl _, m2.mono e⟩
theorem e_d1 (h : EA tA δ μ [D K d] μ1) : E1 (tCall (spec (d1Pre K) (b1Post f)) [] E tA) δ μ (D K (.bool (f d))) μ1 := fun σ G M s mm =>
  ev_callO h s mm fun G M vs a m2 => by
    match vs, a with
    | [v], ⟨p1, _⟩ =>
    refine ⟨d, ⟨v, rfl, p1⟩, ?_⟩
    rintro G' v' M' e ⟨rfl, rfl⟩
    exact ⟨.bl _, m2.mono e⟩
theorem e_place (h : EA tA δ μ [D K (.int b), D K (.list (figs.map .int)), D K (.int n)] μ1) (hb : -(2 ^ 64) < b ∧ b < 2 ^ 64) : E1 (tCall (spec (placePre K) placePost) [] E tA) δ μ (D K (.int (horner b figs n))) μ1 := fun σ G M s mm =>
  ev_callO h s mm fun G M vs a m2 => by
    obtain ⟨v, w, u, rfl, p1, p2, p3⟩ := allP3 a
    refine ⟨(b, figs, n), ⟨w, by rw [dp_int p1, dp_int p3], p2, hb⟩, ?_⟩
    rintro G' v' M' e ⟨rfl, rfl⟩
    exact ⟨.int _, m2.mono e⟩
theorem e_power (h : EA tA δ μ [D K (.int b), D K (.int n)] μ1) (hb : -(2 ^ 64) < b ∧ b < 2 ^ 64) (hn : 0 ≤ n ∧ n ≤ 100000) : E1 (tCall (spec powPre powPost) [] E tA) δ μ (D K (.int (b ^ n.toNat))) μ1 := fun σ G M s mm =>
  ev_callO h s mm fun G M vs a m2 => by
    obtain ⟨v, w, rfl, p1, p2⟩ := allP2 a
    refine ⟨(b, n.toNat), ⟨by rw [dp_int p1, dp_int p2]; show _ = [V.int b, V.int ((n.toNat : Nat) : Int)]; rw [Int.toNat_of_nonneg hn.1], hb, by show n.toNat ≤ 100000; omega⟩, ?_⟩
    rintro G' v' M' e ⟨rfl, rfl⟩
    exact ⟨.int _, m2.mono e⟩
theorem e_cells (h : EA tA δ μ [D K (.list (ns.map .int))] μ1) (hl : ns.length ≤ 63) : E1 (tCall (spec (cellsPre K) (cellsPost K)) [] E tA) δ μ (D K (.list ((cellsOf ns).map .int))) μ1 := fun σ G M s mm =>
  ev_callO h s mm fun G M vs a m2 => by
    match vs, a with
    | [v], ⟨p1, _⟩ =>
    refine ⟨ns, ⟨v, rfl, p1, hl⟩, ?_⟩
    rintro G' v' M' e ⟨r, rfl⟩
    exact ⟨r, m2.mono e⟩
/-- the deck stands first -/
theorem y_deck (h : EA tA δ μ [D K (.int n)] []) : EY (tCall (spec deckPre deckPost) [] E tA) δ μ (fun P μ' => ∃ a, P = Av a ∧ μ' = [(a, DKo (deckOf n))]) := fun σ G M s mm =>
  ev_callO h s mm fun G M vs a m2 => by
    match vs, a with
    | [v], ⟨p1, _⟩ =>
    refine ⟨n, by rw [dp_int p1], ?_⟩
    rintro G' v' M' e ⟨dk, rfl, rfl⟩
    have := m2.nil
    subst this
    exact ⟨_, _, ⟨dk, rfl, rfl⟩, rfl, ⟨⟨rfl, rfl⟩, trivial⟩⟩
theorem head_dk {G : Hp} {M : Mem} (m2 : Mm G M ((dk, DKo Dk) :: rest)) : ∃ M0, M = (dk, Dk.ho) :: M0 ∧ Mm G M0 rest := by
  match M, m2 with
  | (b, o) :: M0, ⟨⟨h1, h2⟩, h3⟩ =>
    have h1 : b = dk := h1
    have h2 : o = Dk.ho := h2
    subst h1 h2
    exact ⟨M0, rfl, h3⟩
theorem e_draw (h : EA tA δ μ [Av dk, D K (.int n)] ((dk, DKo Dk) :: rest)) (hn : 0 < n ∧ n < 2 ^ 200) : E1 (tCall (spec drawPre drawPost) [] E tA) δ μ (D K (.int (dv Dk n))) ((dk, DKo (dn Dk n)) :: rest) := fun σ G M s mm =>
  ev_callO h s mm fun G M vs a m2 => by
    obtain ⟨v, w, rfl, p1, p2⟩ := allP2 a
    obtain ⟨M0, rfl, m3⟩ := head_dk m2
    have p1 : v = .ref dk := p1
    subst p1
    refine ⟨(dk, 0, Dk, n), ⟨by rw [dp_int p2], hn.1, hn.2, rfl⟩, ?_⟩
    rintro G' v' M' e ⟨rfl, rfl⟩
    exact ⟨.int _, ⟨rfl, rfl⟩, m3.mono e⟩
theorem e_lcol (h : EA tA δ μ [Av dk, D K (.int b), D K (.int r)] ((dk, DKo Dk) :: rest)) (hb : 0 < b ∧ b < 2 ^ 200) (hr : 0 ≤ r ∧ r ≤ 1000) : E1 (tCall (spec lcolPre (lcolPost K)) [] E tA) δ μ (D K (colD (colOf Dk b r))) ((dk, DKo (colDk Dk b r)) :: rest) := fun σ G M s mm =>
  ev_callO h s mm fun G M vs a m2 => by
    obtain ⟨v, w, u, rfl, p1, p2, p3⟩ := allP3 a
    obtain ⟨M0, rfl, m3⟩ := head_dk m2
    have p1 : v = .ref dk := p1
    subst p1
    refine ⟨(dk, 0, Dk, b, r), ⟨by rw [dp_int p2, dp_int p3], hb.1, hb.2, hr.1, hr.2, rfl⟩, ?_⟩
    rintro G' v' M' e ⟨r, rfl⟩
    exact ⟨r, ⟨rfl, rfl⟩, m3.mono e⟩
theorem o_lcols {most : Int} (h : EA tA δ μ [Av dk, D K (.int b), D K (.int r), D K (.int most)] ((dk, DKo Dk) :: rest)) (hb : 0 < b ∧ b < 2 ^ 200) (hr : 0 ≤ r ∧ r ≤ 1000) (hm : 0 ≤ most ∧ most ≤ 1000) : EO K (tCall (spec lcolsPre (lcolsPost K)) [] E tA) δ μ ((colsOf Dk b r most).map colD) ((dk, DKo (colsEnd Dk b r most)) :: rest) := fun σ G M s mm =>
  ev_callO h s mm fun G M vs a m2 => by
    obtain ⟨v, w, u, x, rfl, p1, p2, p3, p4⟩ := allP4 a
    obtain ⟨M0, rfl, m3⟩ := head_dk m2
    have p1 : v = .ref dk := p1
    subst p1
    refine ⟨(dk, 0, Dk, b, r, most), ⟨by rw [dp_int p2, dp_int p3, dp_int p4], hb.1, hb.2, hr.1, hr.2, hm.1, hm.2, rfl⟩, ?_⟩
    rintro G' v' M' e ⟨p, vs, rfl, rfl, hd⟩
    exact ⟨p, vs, (dk, (colsEnd Dk b r most).ho) :: M0, rfl, rfl, hd, ⟨rfl, rfl⟩, m3.mono e⟩
end
theorem law_Y {P : Program} {w : World} {K : PySem.W.Frag} {mg : Str → Option Value} {base : Heap} {x qual : Str} {st : Stmt} {f : Addr} {fd : FuncData} {N ps : List Str} {k : Nat} (F : Fun K x qual st f fd) (S : FnScope N ps (defScope st)) (hps : ps.length = 1)
    (body : ∀ (cdv : Value) (Ar : Around) (outer : List Env) (s : Shared) (H : Hp) (E : XK), Room k (Ar.deeper (PyProof.Rows.envOfC qual (defScope st) s.heap.objs.size f cdv)) →
      ∃ t, PSs (cxOf CX0 P w K mg base N qual (defScope st) f cdv Ar outer s H E).nox (defBody st) t ∧ ∀ ns : List Int, ns.length ≤ 63 → S1 E t (startY N [D K (.list (ns.map .int))]) [] { nx := fun _ _ => False, rt := fun Q _ => Q = D K (.bool true) }) :
    FnOk P w K mg base CX0 (k + 1) f fd ps (spec (lawPre K) lawPost) := by
  refine fn_sv F S (fun x G M vs h => by obtain ⟨v, rfl, _⟩ := h; rw [hps]; rfl) fun cdv Ar outer s H E hr => ?_
  obtain ⟨t, ht, hs⟩ := body cdv Ar outer s H E hr
  refine ⟨t, ht, ?_⟩
  rintro ns G M vs ⟨v, rfl, hv, hl, rfl⟩ G1 H F DD e m1 hd
  refine hs ns hl _ G [] (sl_start (Ps := [D K (.list (ns.map .int))]) (vs := [v]) ⟨hv, trivial⟩) trivial G1 H F DD e m1 ⟨?_, ?_, ?_, ?_, ?_⟩
  · rintro σ2 G2 M2 H2 e2 m2 ⟨_, _, n0, _⟩
    exact n0.elim
  · rintro v G2 M2 H2 e2 m2 ⟨Q2, μ2, rfl, n1, n2⟩
    exact hd.rt v G2 M2 H2 e2 m2 (dp_bl n1)
  · rintro σ2 G2 M2 H2 e2 m2 ⟨_, _, n0, _⟩
    exact n0.elim
  · rintro σ2 G2 M2 H2 e2 m2 ⟨_, _, n0, _⟩
    exact n0.elim
  · rintro c d G2 M2 H2 e2 m2 ⟨_, n0, _⟩
    exact n0.elim
end SY
set_option Elab.async false
set_option linter.all false
set_option maxRecDepth 100000
namespace SY
open PySem PySem.Spec L2 SX
theorem yes_if {p q : Prop} (h : p) : if true = true then p else q := by rw [if_pos rfl]; exact h
theorem room65 {k : Nat} {A : Around} (r : Room k A) : A.units + 65 < cLine := by have := r.un; omega
theorem k_inD {X : Cx} {K : PySem.W.Frag} (hK : X.K = K) (hu : X.A.units + 65 < cLine) : OpR X (compareOp .In) (rInD K) := hK ▸ op_inD hu
section
variable {K : PySem.W.Frag} {te ta tb tl : TE} {tt tt1 : TT} {δ : En} {μ μ1 : Mp} {d : PyData} {g g1 : TG} {vs vs1 : List Nat} {wi wi1 : TI} {X : Nat → Pr}
/-- [e for x in l for y in f(x)], what is owned stays -/
theorem o_lc2 {α : Type} {xs : List α} {en : α → Pr} {ys : α → List PyData} {N : Nat} (hw : IY wi δ μ xs.length X μ1) (hX : ∀ (i : Nat) x, xs[i]? = some x → X i = en x) (hN : ∀ x ∈ xs, (ys x).length ≤ N) (hn : xs.length * N ≤ 100000)
    (hb : ∀ x, x ∈ xs → ∃ δ'', G1 g (en x) (wipeY δ vs) δ'' vs ∧ ∃ Y : Nat → Pr, IY wi1 δ'' μ1 (ys x).length Y μ1 ∧ ∀ (j : Nat) y, (ys x)[j]? = some y → ∃ δ3, G1 g1 (Y j) (wipeY δ'' vs1) δ3 vs1 ∧ E1 te δ3 μ1 (D K y) μ1) :
    EO K (tLc2 wi g tYes wi1 g1 tYes te vs vs1) δ μ (xs.flatMap ys) μ1 := fun σ G M s m G1 H F e m1 Q q =>
  hw σ G M s m G1 H F e m1 _ fun J G2 M2 H2 e2 m2 r2 => by
    rintro ⟨⟨Gd, Y, W, hG, hY⟩⟩ D hD
    -- Pv i: the items of the first i
    let Pv : Nat → Hp → Prop := fun i H' => ∃ G' M' ws, Ex G2 G' ∧ Me G' (M' ++ (D, .lst ws) :: F) H' ∧ Mm G' M' μ1 ∧ DpAll K G' ws ((xs.take i).flatMap ys)
    refine ⟨fun i m H => m = xs.length - i ∧ i ≤ xs.length ∧ Pv i H, ⟨xs.length, by simp, Nat.zero_le _, G2, M2, [], Ex.refl G2, by rw [mem_mid]; exact m2.newMid hD, r2, by simp; exact .nil⟩, ?_⟩
    rintro i m H' ⟨rfl, hi, G', M', ws, e', m', r', da⟩
    have hGd := hG G' M' _ H' [] e' m' (List.nil_sublist _) (show Mm G' [] [] from trivial)
    by_cases hlt : i < xs.length
    · refine .inr ⟨W.goes i H' hlt hGd, Pv (i + 1), fun H'' p' => ⟨xs.length - (i + 1), by omega, rfl, hlt, p'⟩, fun x H4 y => ?_⟩
      have hx : xs[i]? = some xs[i] := List.getElem?_eq_getElem hlt
      obtain ⟨G4, e4, m4, px⟩ := hY i G' M' _ H' x H4 [] hlt e' m' (List.nil_sublist _) (show Mm G' [] [] from trivial) (W.yields i H' x H4 hlt hGd y)
      rw [hX i _ hx] at px
      obtain ⟨δ'', hg, Yj, hw1, hb1⟩ := hb xs[i] (List.getElem_mem hlt)
      have s4 : Sl G4 (L2.wipe σ vs) (wipeY δ vs) := (s.mono (((e.trans e2).trans e').trans e4)).wipe vs
      refine hg _ G4 M' _ H4 x s4 px m4 _ fun σ5 s5 w5 => ⟨by rw [w5.wipe, wipe_wipe], ?_⟩
      unfold tYes
      refine yes_if ?_
      refine hw1 σ5 G4 M' s5 (r'.mono e4) G4 H4 _ (Ex.refl _) m4 _ fun J1 G5 M5 H5 e5 m5 r5 => ?_
      rintro ⟨⟨Gd1, Y1, W1, hG1, hY1⟩⟩
      have hlen : ws.length ≤ i * N := by
        rw [dpa_len da]
        have : ∀ k, k ≤ xs.length → ((xs.take k).flatMap ys).length ≤ k * N := fun k => by
          induction k with
          | zero => intro _; simp
          | succ k ih =>
            intro hk
            have hk' : xs[k]? = some xs[k] := List.getElem?_eq_getElem (by omega)
            rw [List.take_add_one, hk', Option.toList, List.flatMap_append, List.length_append]
            simp only [List.flatMap_cons, List.flatMap_nil, List.append_nil]
            have := ih (by omega)
            have := hN _ (List.getElem_mem (show k < xs.length by omega))
            rw [Nat.succ_mul]
            omega
        exact this i hi
      have hNi := hN _ (List.getElem_mem hlt)
      have hmul : (i + 1) * N ≤ 100000 := Nat.le_trans (Nat.mul_le_mul_right N hlt) hn
      rw [Nat.succ_mul] at hmul
      refine ⟨fun j m H => m = (ys xs[i]).length - j ∧ j ≤ (ys xs[i]).length ∧ ∃ G' M' ws', Ex G5 G' ∧ Me G' (M' ++ (D, .lst ws') :: F) H ∧ Mm G' M' μ1 ∧ ws'.length = ws.length + j ∧ DpAll K G' ws' ((xs.take i).flatMap ys ++ (ys xs[i]).take j), ⟨_, rfl, Nat.zero_le _, G5, M5, ws, Ex.refl G5, m5, r5, rfl, by simp; exact dma da (e4.trans e5)⟩, ?_⟩
      rintro j m H6 ⟨rfl, hj, G6, M6, ws6, e6, m6, r6, hl6, da6⟩
      have hGd1 := hG1 G6 M6 _ H6 [] e6 m6 (List.nil_sublist _) (show Mm G6 [] [] from trivial)
      by_cases hltj : j < (ys xs[i]).length
      · refine .inr ⟨W1.goes j H6 hltj hGd1, fun H => j + 1 ≤ (ys xs[i]).length ∧ ∃ G' M' ws', Ex G5 G' ∧ Me G' (M' ++ (D, .lst ws') :: F) H ∧ Mm G' M' μ1 ∧ ws'.length = ws.length + (j + 1) ∧ DpAll K G' ws' ((xs.take i).flatMap ys ++ (ys xs[i]).take (j + 1)), fun H'' p' => ⟨_, by omega, rfl, p'.1, p'.2⟩, fun x H7 y => ?_⟩
        have hy : (ys xs[i])[j]? = some (ys xs[i])[j] := List.getElem?_eq_getElem hltj
        obtain ⟨G7, e7, m7, py⟩ := hY1 j G6 M6 _ H6 x H7 [] hltj e6 m6 (List.nil_sublist _) (show Mm G6 [] [] from trivial) (W1.yields j H6 x H7 hltj hGd1 y)
        obtain ⟨δ3, hg3, he3⟩ := hb1 j _ hy
        have s7 : Sl G7 (L2.wipe σ5 vs1) (wipeY δ'' vs1) := (s5.mono ((e5.trans e6).trans e7)).wipe vs1
        refine hg3 _ G7 M6 _ H7 x s7 py m7 _ fun σ8 s8 w8 => ⟨by rw [w8.wipe, wipe_wipe], ?_⟩
        refine yes_if ?_
        refine he3 σ8 G7 M6 s8 (r6.mono e7) G7 H7 _ (Ex.refl _) m7 _ fun z G8 M8 H8 e8 m8 r8 => ?_
        have hm : (M8 ++ (D, HO.lst ws6) :: F)[M8.length]? = some (D, .lst ws6) := by
          rw [List.getElem?_append_right (Nat.le_refl _), Nat.sub_self]
          rfl
        refine ⟨ws6, m8.get hm, sz_ok (by omega), hltj, G8, M8, ws6 ++ [z], (e6.trans e7).trans e8, ?_, r8.2, by simp [hl6]; omega, ?_⟩
        · have := m8.put (o' := .lst (ws6 ++ [z])) hm
          rw [List.set_append_right _ _ (Nat.le_refl _), Nat.sub_self] at this
          exact this
        · rw [List.take_add_one, hy, Option.toList, ← List.append_assoc]
          exact dpa_app (dma da6 (e7.trans e8)) (.cons r8.1 .nil)
      · have : j = (ys xs[i]).length := by omega
        subst this
        refine .inl ⟨W1.stops H6 hGd1, G6, M6, ws6, ((e'.trans e4).trans e5).trans e6, m6, r6, ?_⟩
        rw [List.take_length] at da6
        rw [List.take_add_one, hx, Option.toList, List.flatMap_append]
        simpa using da6
    · have : i = xs.length := by omega
      subst this
      rw [List.take_length] at da
      rw [mem_mid] at m'
      exact .inl ⟨W.stops H' hGd, q _ G' _ H' (e2.trans e') m' ⟨D, ws, M', rfl, rfl, da, r'⟩⟩
/-- isinstance(x, (int, str)) -/
theorem e_isiT2 (h : E1 ta δ μ (D K d) μ1) : E1 (tCB (rIsiT K) (tCons ta (tCons (tTup (tCons (tC (.ty "int")) (tCons (tC (.ty "str")) tNil))) tNil))) δ μ (D K (.bool (isTy d "int" || isTy d "str"))) μ1 :=
  e_CB (a_cons h (a_cons (e_tupP (a_cons (e_cst (P := Cv (.ty "int")) fun _ => rfl) (a_cons (e_cst (P := Cv (.ty "str")) fun _ => rfl) a_nil)) (by simp)) a_nil)) fun G H F M vs m mm p Q q => by
    match vs, p with
    | [v, c], ⟨p1, pt, _⟩ =>
      obtain ⟨tp, ws, rfl, p2, p3⟩ := pt
      match ws, p3 with
      | [w1, w2], ⟨q1, q2, _⟩ =>
      have q1 : w1 = .ty "int" := q1
      have q2 : w2 = .ty "str" := q2
      subst q1 q2
      have p1 : Dp K G v d := p1
      refine ⟨v, tp, [.ty "int", .ty "str"], .type (tyName d), [.type "int", .type "str"], (isTy d "int" || isTy d "str"), rfl, m.ex _ _ p2, .cons (.ty "int") (.cons (.ty "str") .nil), tyx_of (dm p1 m.ex), kitAny_cons (b := isTy d "int") (kit_ty ?_) (fun hb => kitAny_cons (b := isTy d "str") (kit_ty ?_) (fun hb2 => ?_) (fun hb2 => ?_)) (fun hb => ?_), q _ G M H (Ex.refl _) m (.bl _) mm⟩
      · unfold isTy
        cases p1 <;> dsimp only [tyName] <;> decide +kernel
      · unfold isTy
        cases p1 <;> dsimp only [tyName] <;> decide +kernel
      · rw [hb, hb2]
        rfl
      · rw [hb2]
        simp
      · rw [hb]
        rfl
end
def isPlain : PyData → Bool
  | .tuple ds => ds.all fun d => (isTy d "int" || isTy d "str") && !isTy d "bool"
  | _ => false
def offsOf (b : Int) : List Deed := ((List.range (b - 1).toNat).map fun (n : Nat) => 1 + (n : Int)).map Deed.off
def readsOf (b r : Int) : List Deed := (List.range r.toNat).flatMap fun (j : Nat) => ((List.range (b - 1).toNat).map fun (n : Nat) => 1 + (n : Int)).map (Deed.read (j : Int))
def copiesOf (r : Int) : List Deed := (List.range r.toNat).map fun (j : Nat) => Deed.copy (j : Int)
def allDeeds (b r : Int) : List Deed := [.forget, .again] ++ (offsOf b ++ (readsOf b r ++ (copiesOf r ++ [.swap, .out, .twice])))
theorem offsOf_len (b : Int) : (offsOf b).length = (b - 1).toNat := by simp [offsOf]
theorem readsOf_len (b r : Int) : (readsOf b r).length = r.toNat * (b - 1).toNat := by
  unfold readsOf
  rw [List.length_flatMap]
  simp [List.map_const']
theorem copiesOf_len (r : Int) : (copiesOf r).length = r.toNat := by simp [copiesOf]
def isDeedD (b r : Int) (d : PyData) : Bool := isPlain d && (allDeeds b r).any fun x => PyData.eqv (deedD x) d
end SY
set_option Elab.async false
set_option linter.all false
set_option maxRecDepth 100000
namespace SY
open PySem PySem.Spec L2 SX
def isCopy : Deed → Bool
  | .copy _ => true
  | _ => false
/-- the figure that is copied -/
def copiedV (cs : List (List Int)) (a : Nat) : Deed → Int
  | .copy j => (cs.getD (a - 1) []).getD j.toNat 0
  | _ => 0
def copiedD (cs : List (List Int)) (a : Nat) (x : Deed) : PyData := if isCopy x = true then .int (copiedV cs a x) else .none
/-- a slip's own doing at column a -/
def doSlip (b : Int) (cs : List (List Int)) (a : Nat) (c : Int) (x : Deed) : Option (List Int × Int) :=
  if isCopy x = true ∧ a = 0 ∨ x = .swap ∧ a + 1 = cs.length then none
  else if x = .swap then some ((doCols b ((cs.take (a + 2)).drop a) c).1.reverse, (doCols b ((cs.take (a + 2)).drop a) c).2)
  else doSum b (sumTaken b (cs.getD a []) (copiedV cs a x) (some x)) c (some x)
/-- what is written from column lo on, with the carry c; none where some slip is none -/
def addV (b r : Int) (cs : List (List Int)) : List (Int × Deed) → Nat → Int → Option (List Int × Int)
  | [], lo, c => some (doCols b (cs.drop lo) c)
  | (a, x) :: sl, lo, c =>
    if (lo : Int) ≤ a ∧ a < cs.length ∧ x ∈ allDeeds b r then
      (doSlip b cs a.toNat (doCols b ((cs.take a.toNat).drop lo) c).2 x).bind fun w =>
        (addV b r cs sl (if x = .swap then a.toNat + 2 else a.toNat + 1) w.2).map fun f => ((doCols b ((cs.take a.toNat).drop lo) c).1 ++ w.1 ++ f.1, f.2)
    else none
def slipD (s : Int × Deed) : PyData := .tuple [.int s.1, deedD s.2]
theorem mem_offs {b : Int} {x : Deed} : x ∈ offsOf b ↔ ∃ d, x = .off d ∧ 1 ≤ d ∧ d < b := by
  unfold offsOf
  simp only [List.mem_map, List.mem_range]
  constructor
  · rintro ⟨_, ⟨n, hn, rfl⟩, rfl⟩
    exact ⟨_, rfl, by omega, by omega⟩
  · rintro ⟨d, rfl, h1, h2⟩
    exact ⟨d, ⟨(d - 1).toNat, by omega, by omega⟩, rfl⟩
theorem mem_reads {b r : Int} {x : Deed} : x ∈ readsOf b r ↔ ∃ j d, x = .read j d ∧ 0 ≤ j ∧ j < r ∧ 1 ≤ d ∧ d < b := by
  unfold readsOf
  simp only [List.mem_flatMap, List.mem_map, List.mem_range]
  constructor
  · rintro ⟨j, hj, _, ⟨n, hn, rfl⟩, rfl⟩
    exact ⟨(j : Int), 1 + (n : Int), rfl, Int.natCast_nonneg j, by omega, by omega, by omega⟩
  · rintro ⟨j, d, rfl, h1, h2, h3, h4⟩
    exact ⟨j.toNat, by omega, d, ⟨(d - 1).toNat, by omega, by omega⟩, by rw [Int.toNat_of_nonneg h1]⟩
theorem mem_copies {r : Int} {x : Deed} : x ∈ copiesOf r ↔ ∃ j, x = .copy j ∧ 0 ≤ j ∧ j < r := by
  unfold copiesOf
  simp only [List.mem_map, List.mem_range]
  constructor
  · rintro ⟨j, hj, rfl⟩
    exact ⟨(j : Int), rfl, Int.natCast_nonneg j, by omega⟩
  · rintro ⟨j, rfl, h1, h2⟩
    exact ⟨j.toNat, by omega, by rw [Int.toNat_of_nonneg h1]⟩
theorem mem_all {b r : Int} {x : Deed} : x ∈ allDeeds b r ↔ x = .forget ∨ x = .again ∨ (∃ d, x = .off d ∧ 1 ≤ d ∧ d < b) ∨ (∃ j d, x = .read j d ∧ 0 ≤ j ∧ j < r ∧ 1 ≤ d ∧ d < b) ∨ (∃ j, x = .copy j ∧ 0 ≤ j ∧ j < r) ∨ x = .swap ∨ x = .out ∨ x = .twice := by
  unfold allDeeds
  simp only [List.mem_append, List.mem_cons, List.not_mem_nil, or_false, mem_offs, mem_reads, mem_copies]
  constructor
  · rintro ((h | h) | h | h | h | h | h | h)
    · exact .inl h
    · exact .inr (.inl h)
    · exact .inr (.inr (.inl h))
    · exact .inr (.inr (.inr (.inl h)))
    · exact .inr (.inr (.inr (.inr (.inl h))))
    · exact .inr (.inr (.inr (.inr (.inr (.inl h)))))
    · exact .inr (.inr (.inr (.inr (.inr (.inr (.inl h))))))
    · exact .inr (.inr (.inr (.inr (.inr (.inr (.inr h))))))
  · rintro (h | h | h | h | h | h | h | h)
    · exact .inl (.inl h)
    · exact .inl (.inr h)
    · exact .inr (.inl h)
    · exact .inr (.inr (.inl h))
    · exact .inr (.inr (.inr (.inl h)))
    · exact .inr (.inr (.inr (.inr (.inl h))))
    · exact .inr (.inr (.inr (.inr (.inr (.inl h)))))
    · exact .inr (.inr (.inr (.inr (.inr (.inr h)))))
theorem rowOk_all {b r : Int} {x : Deed} {n : Nat} (h : x ∈ allDeeds b r) (hn : r ≤ n) : RowOk n (some x) := by
  rcases mem_all.mp h with rfl | rfl | ⟨d, rfl, _⟩ | ⟨j, d, rfl, h1, h2, _⟩ | ⟨j, rfl, h1, h2⟩ | rfl | rfl | rfl
  all_goals first | trivial | exact ⟨by omega, by omega⟩
theorem isPlain_deed {b r : Int} {x : Deed} (h : x ∈ allDeeds b r) : isPlain (deedD x) = true := by
  rcases mem_all.mp h with rfl | rfl | ⟨d, rfl, _⟩ | ⟨j, d, rfl, _⟩ | ⟨j, rfl, _⟩ | rfl | rfl | rfl <;> rfl
theorem eqv_plain : ∀ {ds es : List PyData}, (∀ d ∈ ds, ∃ i s, d = .int i ∨ d = .str s) → (∀ d ∈ es, ∃ i s, d = .int i ∨ d = .str s) → (PyData.eqvAll ds es = true ↔ ds = es)
  | [], [], _, _ => by simp [PyData.eqvAll]
  | [], _ :: _, _, _ => by simp [PyData.eqvAll]
  | _ :: _, [], _, _ => by simp [PyData.eqvAll]
  | d :: ds, e :: es, h1, h2 => by
    have ih := eqv_plain (ds := ds) (es := es) (fun x hx => h1 x (List.mem_cons_of_mem _ hx)) fun x hx => h2 x (List.mem_cons_of_mem _ hx)
    obtain ⟨i, s, h3⟩ := h1 d List.mem_cons_self
    obtain ⟨j, t, h4⟩ := h2 e List.mem_cons_self
    show (PyData.eqv d e && PyData.eqvAll ds es) = true ↔ _
    rw [Bool.and_eq_true, ih]
    rcases h3 with rfl | rfl <;> rcases h4 with rfl | rfl <;> simp [PyData.eqv]
theorem plain_items {ds : List PyData} (h : isPlain (.tuple ds) = true) : ∀ d ∈ ds, ∃ i s, d = .int i ∨ d = .str s := fun d hd => by
  have := List.all_eq_true.mp h d hd
  cases d <;> first | exact ⟨_, "", .inl rfl⟩ | exact ⟨0, _, .inr rfl⟩ | (exfalso; revert this; simp [isTy, isTyS, tyName])
theorem isDeed_iff {b r : Int} {d : PyData} : isDeedD b r d = true ↔ ∃ x, x ∈ allDeeds b r ∧ d = deedD x := by
  unfold isDeedD
  rw [Bool.and_eq_true, List.any_eq_true]
  constructor
  · rintro ⟨hp, x, hx, he⟩
    refine ⟨x, hx, ?_⟩
    cases d with
    | tuple ds =>
      have h1 := plain_items (isPlain_deed hx)
      have h2 := plain_items hp
      have : x.L = ds := (eqv_plain h1 h2).mp he
      rw [← this]
    | _ => cases hp
  · rintro ⟨x, hx, rfl⟩
    exact ⟨isPlain_deed hx, x, hx, (eqv_plain (plain_items (isPlain_deed hx)) (plain_items (isPlain_deed hx))).mpr rfl⟩
theorem deedD_inj {x y : Deed} (h : deedD x = deedD y) : x = y := by
  have h : x.L = y.L := by injection h
  cases x <;> cases y <;> first | rfl | (exfalso; simp only [Deed.L, List.cons.injEq, PyData.str.injEq] at h; exact absurd h.1 (by decide)) | (simp only [Deed.L, List.cons.injEq, PyData.int.injEq, and_true, true_and] at h; simp_all; done) | (exfalso; simp only [Deed.L, List.cons.injEq, PyData.str.injEq, and_true] at h; exact absurd h (by decide))
end SY
namespace SY
open PySem PySem.Spec L2 SX
theorem word_copy (x : Deed) : decide (x.word = "copy") = isCopy x := by
  cases h : decide (x.word = "copy") with
  | true => obtain ⟨j, rfl⟩ := w_copy h; rfl
  | false => cases x <;> first | rfl | (exfalso; exact of_decide_eq_false h rfl)
theorem word_swap (x : Deed) : decide (x.word = "swap") = decide (x = .swap) := by
  cases h : decide (x.word = "swap") with
  | true => obtain rfl := w_swap h; rfl
  | false => cases x <;> first | rfl | (exfalso; exact of_decide_eq_false h rfl)
theorem sIx_nn (n d : Nat) {i : Int} (h : 0 ≤ i) : HT.sIx n d (some i) = min i.toNat n := by
  show (if i < 0 then _ else _) = _
  rw [if_neg (by omega)]
theorem cutG_lo {α : Type} (xs : List α) {lo : Int} (h0 : 0 ≤ lo) : cutG xs (some lo) none = xs.drop lo.toNat := by
  unfold cutG
  rw [sIx_nn _ _ h0, HT.sIx_none]
  by_cases h : lo.toNat ≤ xs.length
  · rw [Nat.min_eq_left h, List.take_of_length_le (by rw [List.length_drop]; exact Nat.le_refl _)]
  · rw [Nat.min_eq_right (by omega), List.drop_of_length_le (Nat.le_refl _), List.drop_of_length_le (by omega), List.take_nil]
theorem cutG_hi {α : Type} (xs : List α) {hi : Int} (h0 : 0 ≤ hi) : cutG xs none (some hi) = xs.take hi.toNat := by
  unfold cutG
  rw [sIx_nn _ _ h0, HT.sIx_none, Nat.sub_zero, List.drop_zero]
  by_cases h : hi.toNat ≤ xs.length
  · rw [Nat.min_eq_left h]
  · rw [Nat.min_eq_right (by omega), List.take_length, List.take_of_length_le (by omega)]
theorem cutG_two {α : Type} (xs : List α) {lo hi : Int} (h0 : 0 ≤ lo) (h1 : 0 ≤ hi) : cutG xs (some lo) (some hi) = (xs.take hi.toNat).drop lo.toNat := by
  unfold cutG
  rw [sIx_nn _ _ h0, sIx_nn _ _ h1, List.drop_take]
  by_cases h : lo.toNat ≤ xs.length
  · rw [Nat.min_eq_left h]
    by_cases h' : hi.toNat ≤ xs.length
    · rw [Nat.min_eq_left h']
    · rw [Nat.min_eq_right (by omega)]
      rw [List.take_of_length_le (by simp), List.take_of_length_le (by simp; omega)]
  · rw [List.drop_of_length_le (show xs.length ≤ min lo.toNat xs.length by omega), List.drop_of_length_le (show xs.length ≤ lo.toNat by omega), List.take_nil, List.take_nil]
end SY
namespace SY
open PySem PySem.Spec L2 SX
def itemsOf : PyData → List PyData
  | .tuple ds => ds
  | .list ds => ds
  | _ => []
def isSlipD (b r : Int) (n : Nat) (lo : Int) (d : PyData) : Bool := match d with
  | .tuple [x, y] => isWhole x lo ((n : Int) - 1) && isDeedD b r y
  | _ => false
theorem sh_itemsA : ∀ {ds : List PyData} {e : PyData} {n : Nat}, PyData.canLayAll0 ds = true → PyData.depthAll ds ≤ n → e ∈ ds → PyData.canLay0 e = true ∧ PyData.depth e ≤ n
  | d :: ds, e, n, h1, h2, h3 => by
    have h1 : (PyData.canLay0 d && PyData.canLayAll0 ds) = true := h1
    rw [Bool.and_eq_true] at h1
    have h2 : max (PyData.depth d) (PyData.depthAll ds) ≤ n := h2
    rcases List.mem_cons.mp h3 with rfl | h3
    · exact ⟨h1.1, by omega⟩
    · exact sh_itemsA h1.2 (by omega) h3
theorem sh_item {d e : PyData} (h : SeqAt.shaped d = true) (he : e ∈ itemsOf d) : SeqAt.shaped e = true := by
  have h1 := SeqAt.canLay_of_shaped h
  have h2 := SeqAt.depth_of_shaped h
  have key : ∀ ds : List PyData, PyData.canLayAll0 ds = true → PyData.depthAll ds + 1 ≤ 64 → e ∈ ds → SeqAt.shaped e = true := fun ds a1 a2 a3 => by
    obtain ⟨k1, k2⟩ := sh_itemsA a1 (Nat.le_refl _) a3
    unfold SeqAt.shaped
    rw [k1, decide_eq_true (by omega)]
    rfl
  cases d with
  | tuple ds => exact key ds h1 (by have h2 : PyData.depthAll ds + 1 ≤ 64 ∨ 1 + PyData.depthAll ds ≤ 64 := by first | exact .inl h2 | exact .inr h2
                                    omega) he
  | list ds => exact key ds h1 (by have h2 : PyData.depthAll ds + 1 ≤ 64 ∨ 1 + PyData.depthAll ds ≤ 64 := by first | exact .inl h2 | exact .inr h2
                                   omega) he
  | _ => cases he
end SY
namespace SY
open PySem PySem.Spec L2 SX
theorem sh_str {n : Nat} {s : Str} (h : PyData.canLay0 (.str s) = true) : Sh n (.str s) := ⟨h, Nat.zero_le _⟩
theorem sh_deed {n : Nat} (x : Deed) : Sh (n + 1) (deedD x) := sh_tup fun d hd => by
  cases x <;> simp only [Deed.L, List.mem_cons, List.not_mem_nil, or_false] at hd
  all_goals (first | (rcases hd with rfl | rfl | rfl) | (rcases hd with rfl | rfl) | subst hd) <;> first | exact sh_str (by decide +kernel) | exact sh_int _
theorem sh_slip {n : Nat} (s : Int × Deed) : Sh (n + 2) (slipD s) := sh_tup fun d hd => by
  simp only [List.mem_cons, List.not_mem_nil, or_false] at hd
  rcases hd with rfl | rfl
  · exact sh_int _
  · exact sh_deed _
theorem dlen_deed (x : Deed) : dlen (deedD x) ≤ 3 := by
  show x.L.length ≤ 3
  cases x <;> simp [Deed.L]
theorem isSlip_of {b r : Int} {n lo : Nat} {a : Int} {x : Deed} (h : (lo : Int) ≤ a ∧ a < n ∧ x ∈ allDeeds b r) : isSlipD b r n lo (slipD (a, x)) = true := by
  show (isWhole (.int a) lo ((n : Int) - 1) && isDeedD b r (deedD x)) = true
  rw [isDeed_iff.mpr ⟨x, h.2.2, rfl⟩, Bool.and_true]
  show (true && (decide ((lo : Int) ≤ a) && decide (a ≤ (n : Int) - 1))) = true
  rw [decide_eq_true h.1, decide_eq_true (by omega)]
  rfl
theorem doSum_len {b t c : Int} {od : Option Deed} {w : List Int × Int} (h : doSum b t c od = some w) : w.1.length ≤ 2 := by
  cases od with
  | none => cases h; simp
  | some x =>
    cases x <;> simp only [doSum] at h <;> first | (cases h; simp; done) | (split at h <;> cases h; simp; done)
theorem doSlip_len {b : Int} {cs : List (List Int)} {a : Nat} {c : Int} {x : Deed} {w : List Int × Int} (h : doSlip b cs a c x = some w) : w.1.length ≤ 2 := by
  unfold doSlip at h
  split at h
  · cases h
  · split at h
    · cases h
      rw [List.length_reverse, doCols_len]
      simp
      omega
    · exact doSum_len h
theorem doSlip_swap {b : Int} {cs : List (List Int)} {a : Nat} {c : Int} {w : List Int × Int} (h : doSlip b cs a c .swap = some w) (ha : a < cs.length) : a + 2 ≤ cs.length := by
  unfold doSlip at h
  split at h
  · cases h
  · rename_i hn
    have : ¬ (a + 1 = cs.length) := fun e => hn (.inr ⟨rfl, e⟩)
    omega
theorem addV_cons {b r : Int} {cs : List (List Int)} {a : Int} {x : Deed} {sl : List (Int × Deed)} {lo : Nat} {c : Int} {f : List Int × Int} (h : addV b r cs ((a, x) :: sl) lo c = some f) :
    ((lo : Int) ≤ a ∧ a < cs.length ∧ x ∈ allDeeds b r) ∧ ∃ w g, doSlip b cs a.toNat (doCols b ((cs.take a.toNat).drop lo) c).2 x = some w ∧ addV b r cs sl (if x = .swap then a.toNat + 2 else a.toNat + 1) w.2 = some g ∧ f = ((doCols b ((cs.take a.toNat).drop lo) c).1 ++ w.1 ++ g.1, g.2) := by
  unfold addV at h
  split at h
  · rename_i hc
    refine ⟨hc, ?_⟩
    cases hw : doSlip b cs a.toNat (doCols b ((cs.take a.toNat).drop lo) c).2 x with
    | none => rw [hw] at h; cases h
    | some w =>
      rw [hw] at h
      cases hg : addV b r cs sl (if x = .swap then a.toNat + 2 else a.toNat + 1) w.2 with
      | none => simp only [Option.bind_some, hg, Option.map_none] at h; cases h
      | some g =>
        simp only [Option.bind_some, hg, Option.map_some] at h
        exact ⟨w, g, rfl, hg, (Option.some.inj h).symm⟩
  · cases h
theorem addV_len {b r : Int} {cs : List (List Int)} : ∀ {sl : List (Int × Deed)} {lo : Nat} {c : Int} {f : List Int × Int}, lo ≤ cs.length → addV b r cs sl lo c = some f → f.1.length ≤ 2 * (cs.length - lo)
  | [], lo, c, f, hl, h => by
    cases h
    rw [doCols_len, List.length_drop]
    omega
  | (a, x) :: sl, lo, c, f, hl, h => by
    obtain ⟨⟨h1, h2, h3⟩, w, g, hw, hg, rfl⟩ := addV_cons h
    have hwl := doSlip_len hw
    have e1 : ((cs.take a.toNat).drop lo).length = a.toNat - lo := by simp; omega
    simp only [List.length_append, doCols_len, e1]
    by_cases hx : x = .swap
    · subst hx
      have := doSlip_swap hw (by omega)
      rw [if_pos rfl] at hg
      have := addV_len (by omega) hg
      omega
    · rw [if_neg hx] at hg
      have := addV_len (by omega) hg
      omega
theorem addV_lo {b r : Int} {cs : List (List Int)} {a : Int} {x : Deed} {lo : Nat} {c : Int} {w : List Int × Int} (h : (lo : Int) ≤ a ∧ a < cs.length) (hw : doSlip b cs a.toNat c x = some w) : (if x = .swap then a.toNat + 2 else a.toNat + 1) ≤ cs.length := by
  split
  · rename_i hx
    subst hx
    exact doSlip_swap hw (by omega)
  · omega
end SY
set_option Elab.async false
set_option linter.all false
set_option maxRecDepth 100000
namespace SY
open PySem PySem.Spec L2 SX
section
variable {E : XK} {K : PySem.W.Frag} {C : Addr} {ta tb tc : TE} {tA : TA} {δ : En} {μ μ1 : Mp} {P : Pr} {b : Int} {cs : List (List Int)}
theorem e_lv (h : EA tA δ μ [D K (.int b), P] μ1) (hl : LR K P μ1 (cs.map colD)) (h2 : ∀ c ∈ cs, -(2 ^ 64) < c.sum ∧ c.sum < 2 ^ 64) (hb : -(2 ^ 64) < b ∧ b < 2 ^ 64) : E1 (tCall (spec (lvPre K) lvPost) [] E tA) δ μ (D K (.int (valueOf b cs))) μ1 := fun σ G M s mm =>
  ev_callO h s mm fun G M vs a m2 => by
    obtain ⟨v, w, rfl, p1, p2⟩ := allP2 a
    obtain ⟨ad, xs, rfl, h3, h4⟩ := hl G w M p2 m2
    refine ⟨(b, ad, cs), ⟨by rw [dp_int p1], ⟨⟨xs, h3, h4⟩⟩, h2, hb⟩, ?_⟩
    rintro G' v' M' e ⟨rfl, rfl⟩
    exact ⟨.int _, m2.mono e⟩
end
end SY
namespace SY
open PySem PySem.Spec L2 SX
section
variable {K : PySem.W.Frag} {ta : TE} {δ : En} {μ μ1 : Mp} {P : Pr} {ds : List PyData}
theorem e_eqNil (h : E1 ta δ μ P μ1) (hl : LR K P μ1 ds) (hs : SeqAt.shaped (.list ds) = true) : E1 (tOp (rEqD K) ta (tLst tNil)) δ μ (D K (.bool ds.isEmpty)) μ1 :=
  e_eqD h (EO.frz (o_lst (K := K) d_nil (by decide))) (dr_L hl) dr_D hs (by decide) (by cases ds <;> rfl)
theorem e_neNil (h : E1 ta δ μ P μ1) (hl : LR K P μ1 ds) (hs : SeqAt.shaped (.list ds) = true) : E1 (tOp (rNeD K) ta (tLst tNil)) δ μ (D K (.bool (!ds.isEmpty))) μ1 :=
  e_neD h (EO.frz (o_lst (K := K) d_nil (by decide))) (dr_L hl) dr_D hs (by decide) (by cases ds <;> rfl)
end
end SY
namespace SY
open PySem PySem.Spec L2 SX
end SY
namespace SY
open PySem PySem.Spec L2 SX
theorem tp_notN {Ps : List Pr} : ∀ G v, (Tp Ps).p G v → v ≠ .non := fun G v h => by
  obtain ⟨a, vs, rfl, _⟩ := h
  intro h
  cases h
end SY
set_option Elab.async false
set_option linter.all false
set_option maxRecDepth 100000
namespace SY
open PySem PySem.Spec L2 SX
def slipR (a : Int) (w : Option (List Int × Int)) (x : Deed) : PyData := match w with
  | none => .none
  | some (fs, c) => .tuple [.list (fs.map .int), .int c, .int (if x = .swap then a + 2 else a + 1)]
section
variable {K : PySem.W.Frag} {te ta tb : TE} {δ : En} {μ μ1 : Mp} {P1 : Pr} {α : Type} {enc : α → PyData} {xs : List α} {lo hi : Int}
theorem o_listC {c : List Int} (h : E1 ta δ μ (D K (colD c)) μ1) : EO K (tCB (rListS K) (tCons ta tNil)) δ μ (c.map .int) μ1 := o_listT h
theorem e_ixCI {c : List Int} {i : Int} {μ2 : Mp} (h1 : E1 ta δ μ (D K (colD c)) μ1) (h2 : E1 tb δ μ1 (D K (.int i)) μ2) (h : 0 ≤ i ∧ i < c.length) : E1 (tOp (rIxT K) ta tb) δ μ (D K (.int (c.getD i.toNat 0))) μ2 := e_ixTI h1 h2 h
theorem e_ixLD {i : Int} {μ2 : Mp} {xs : List Deed} (h1 : E1 ta δ μ P1 μ1) (h2 : E1 tb δ μ1 (D K (.int i)) μ2) (hl : LR K P1 μ2 (xs.map deedD)) (h : 0 ≤ i ∧ i < xs.length) : E1 (tOp (rIxL K) ta tb) δ μ (D K (deedD (xs.getD i.toNat .right))) μ2 := e_ixLM .right h1 h2 hl h
theorem e_lenC {c : List Int} (h : E1 ta δ μ (D K (colD c)) μ1) : E1 (tCB (rLenS K) (tCons ta tNil)) δ μ (D K (.int (c.length : Int))) μ1 := by
  have := e_lenT (K := K) h
  rw [List.length_map] at this
  exact this
theorem o_cut2 (h : E1 te δ μ P1 μ1) (hl : E1 ta δ μ1 (D K (.int lo)) μ1) (hh : E1 tb δ μ1 (D K (.int hi)) μ1) (l : LR K P1 μ1 (xs.map enc)) (h0 : 0 ≤ lo) (h1 : 0 ≤ hi) : EO K (tSl (rSlL K) te (tPart ta) (tPart tb)) δ μ (((xs.take hi.toNat).drop lo.toNat).map enc) μ1 := by
  rw [← cutG_two _ h0 h1]
  exact o_slM h (y_some hl) (y_some hh) l
theorem o_cutL (h : E1 te δ μ P1 μ1) (hl : E1 ta δ μ1 (D K (.int lo)) μ1) (l : LR K P1 μ1 (xs.map enc)) (h0 : 0 ≤ lo) : EO K (tSl (rSlL K) te (tPart ta) tNoPart) δ μ ((xs.drop lo.toNat).map enc) μ1 := by
  rw [← cutG_lo _ h0]
  exact o_slM h (y_some hl) y_none l
theorem o_cutH (h : E1 te δ μ P1 μ1) (hh : E1 tb δ μ1 (D K (.int hi)) μ1) (l : LR K P1 μ1 (xs.map enc)) (h1 : 0 ≤ hi) : EO K (tSl (rSlL K) te tNoPart (tPart tb)) δ μ ((xs.take hi.toNat).map enc) μ1 := by
  rw [← cutG_hi _ h1]
  exact o_slM h y_none (y_some hh) l
end
end SY
namespace SY
open PySem PySem.Spec L2 SX
section
variable {K : PySem.W.Frag} {te ta tb : TE} {δ : En} {μ μ1 : Mp} {P : Pr} {C C' : Addr} {b : Bool}
/-- an instance of C -/
def InsY (C : Addr) (P : Pr) (μ : Mp) : Prop := ∀ G v M, P.p G v → Mm G M μ → ∃ p dx fs, v = .ref p ∧ At G M p (.ins C dx fs)
theorem e_isiO (h : E1 ta δ μ P μ1) (ic : IsCls K C) (cl : Cls K C) (hk : PySem.W.kitOne K (.ref C) (.ref C') = some b) (hp : InsY C P μ1) : E1 (tCB (rIsi K) (tCons ta (tCons (tC (.ref C')) tNil))) δ μ (D K (.bool b)) μ1 :=
  e_CB (a_cons h (a_cons (e_cst (P := Cv (.ref C')) fun _ => rfl) a_nil)) fun G H F M vs m mm p Q q => by
    match vs, p with
    | [v, c], ⟨p1, p2, _⟩ =>
      have p2 : c = .ref C' := p2
      subst p2
      obtain ⟨p0, dx, fs, rfl, h3⟩ := hp G v M p1 mm
      exact ⟨.ref p0, .ref C', .ref C, .ref C', b, rfl, .own C', .base (.ins (h3 G H F (Ex.refl _) m) cl ic.ha ic.hn ic.ht ic.hm), hk, q _ G M H (Ex.refl _) m (.bl _) mm⟩
theorem ins_wr {b0 last : Int} {figs : List Int} {μ : Mp} : InsY C (WrP K C b0 figs last) μ := fun G v M h _ => by
  obtain ⟨p, dx, fs, rfl, h1, _⟩ := wr_pre h M
  exact ⟨p, dx, fs, rfl, h1⟩
theorem ins_sh {b0 r : Int} {cs : List (List Int)} {μ : Mp} (h : SR K C P μ b0 r cs) : InsY C P μ := fun G v M hv mm => by
  obtain ⟨p, dx, fs, rfl, h1, _⟩ := h.pre hv mm
  exact ⟨p, dx, fs, rfl, h1⟩
end
end SY
namespace SY
open PySem PySem.Spec L2 SX
theorem eqv_same {d : PyData} (h : SeqAt.shaped d = true) : PyData.eqv d d = true := SeqAt.eqv_refl d (SeqAt.canLay_of_shaped h)
theorem shd_slips (sl : List (Int × Deed)) : SeqAt.shaped (.list (sl.map slipD)) = true := (sh_lst (n := 2) fun x hx => by
  obtain ⟨y, _, rfl⟩ := List.mem_map.mp hx
  exact sh_slip (n := 0) _).ok
theorem shd_deeds (ds : List Deed) : SeqAt.shaped (.list (ds.map deedD)) = true := (sh_lst (n := 1) fun x hx => by
  obtain ⟨y, _, rfl⟩ := List.mem_map.mp hx
  exact sh_deed (n := 0) _).ok
end SY
namespace SY
open PySem PySem.Spec L2 SX
section
variable {K : PySem.W.Frag} {ta : TE} {δ : En} {μ μ1 : Mp} {s : Int × Deed}
theorem e_ixS0 (h : E1 ta δ μ (D K (slipD s)) μ1) : E1 (tOp (rIxT K) ta (tC (.int 0))) δ μ (D K (.int s.1)) μ1 := e_ixT (ds := [.int s.1, deedD s.2]) h e_cI rfl
theorem e_ixS1 (h : E1 ta δ μ (D K (slipD s)) μ1) : E1 (tOp (rIxT K) ta (tC (.int 1))) δ μ (D K (deedD s.2)) μ1 := e_ixT (ds := [.int s.1, deedD s.2]) h e_cI rfl
end
end SY
namespace SY
open PySem PySem.Spec L2 SX
theorem plain_deed (x : Deed) : ∀ d ∈ x.L, ∃ i s, d = PyData.int i ∨ d = .str s := fun d hd => by
  cases x <;> simp only [Deed.L, List.mem_cons, List.not_mem_nil, or_false] at hd
  all_goals (first | (rcases hd with rfl | rfl | rfl) | (rcases hd with rfl | rfl) | subst hd) <;> first | exact ⟨0, _, .inr rfl⟩ | exact ⟨_, "", .inl rfl⟩
theorem eqv_deed (x y : Deed) : PyData.eqv (deedD x) (deedD y) = decide (x = y) := by
  rw [Bool.eq_iff_iff, decide_eq_true_eq]
  show PyData.eqvAll x.L y.L = true ↔ _
  rw [eqv_plain (plain_deed x) (plain_deed y)]
  exact ⟨fun h => deedD_inj (by show PyData.tuple x.L = .tuple y.L; rw [h]), fun h => by rw [h]⟩
section
variable {K : PySem.W.Frag} {ta : TE} {δ : En} {μ μ1 : Mp} {x : Deed} {s : Str}
theorem e_eqW (y : Deed) (hy : deedD y = .tuple [.str s]) (h : E1 ta δ μ (D K (deedD x)) μ1) : E1 (tOp (rEqD K) ta (tTup (tCons (tC (.str s)) tNil))) δ μ (D K (.bool (decide (x = y)))) μ1 := by
  refine e_eqD (K := K) (P2 := D K (.tuple [.str s])) (d := deedD x) (e := deedD y) h (e_tup (K := K) (d_cons e_cS d_nil) (by show 1 ≤ 1000; decide)) dr_D ?_ (sh_deed (n := 0) _).ok (sh_deed (n := 0) _).ok (eqv_deed _ _)
  rw [hy]
  exact dr_D
theorem e_neW (y : Deed) (hy : deedD y = .tuple [.str s]) (h : E1 ta δ μ (D K (deedD x)) μ1) : E1 (tOp (rNeD K) ta (tTup (tCons (tC (.str s)) tNil))) δ μ (D K (.bool (!decide (x = y)))) μ1 := by
  refine e_neD (K := K) (P2 := D K (.tuple [.str s])) (d := deedD x) (e := deedD y) h (e_tup (K := K) (d_cons e_cS d_nil) (by show 1 ≤ 1000; decide)) dr_D ?_ (sh_deed (n := 0) _).ok (sh_deed (n := 0) _).ok (eqv_deed _ _)
  rw [hy]
  exact dr_D
end
end SY
set_option Elab.async false
set_option linter.all false
set_option maxRecDepth 100000
namespace SY
open PySem PySem.Spec L2 SX
abbrev FsQ := List (Str × Pr)
def FsP (G : Hp) : FsQ → List (Str × V) → Prop
  | [], [] => True
  | q :: fs, p :: vs => (p.1 = q.1 ∧ q.2.p G p.2) ∧ FsP G fs vs
  | _, _ => False
theorem FsP.mono {G G' : Hp} (e : Ex G G') : ∀ {fs : FsQ} {vs : List (Str × V)}, FsP G fs vs → FsP G' fs vs
  | [], [], _ => trivial
  | q :: _, _ :: _, h => ⟨⟨h.1.1, q.2.m _ _ _ e h.1.2⟩, FsP.mono e h.2⟩
  | [], _ :: _, h => h.elim
  | _ :: _, [], h => h.elim
theorem FsP.len {G : Hp} : ∀ {fs : FsQ} {vs : List (Str × V)}, FsP G fs vs → vs.length = fs.length
  | [], [], _ => rfl
  | _ :: _, _ :: _, h => by simp [FsP.len h.2]
  | [], _ :: _, h => h.elim
  | _ :: _, [], h => h.elim
theorem lookup_hd (f g : Str) (y : V) (fs : List (Str × V)) : ((f, y) :: fs).lookup g = if g = f then some y else fs.lookup g := by
  by_cases h : g = f
  · subst h
    simp [List.lookup]
  · have e : (g == f) = false := by simpa using h
    rw [if_neg h]
    simp [List.lookup, e]
def lookP (f : Str) : FsQ → Option Pr
  | [] => none
  | (g, P) :: r => if f = g then some P else lookP f r
theorem FsP.get {G : Hp} {f : Str} {P : Pr} : ∀ {fs : FsQ} {vs : List (Str × V)}, FsP G fs vs → lookP f fs = some P → ∃ v, vs.lookup f = some v ∧ P.p G v
  | [], [], _, h => by cases h
  | (g, Q) :: fs, (g', v) :: vs, h, hl => by
    obtain ⟨⟨h1, h2⟩, h3⟩ := h
    have h1 : g' = g := h1
    subst h1
    rw [lookup_hd]
    unfold lookP at hl
    by_cases e : f = g'
    · rw [if_pos e] at hl ⊢
      cases hl
      exact ⟨v, rfl, h2⟩
    · rw [if_neg e] at hl ⊢
      exact FsP.get h3 hl
  | [], _ :: _, h, _ => h.elim
  | _ :: _, [], h, _ => h.elim
theorem FsP.no {G : Hp} {f : Str} : ∀ {fs : FsQ} {vs : List (Str × V)}, FsP G fs vs → lookP f fs = none → vs.lookup f = none
  | [], [], _, _ => rfl
  | (g, Q) :: fs, (g', v) :: vs, h, hl => by
    obtain ⟨⟨h1, h2⟩, h3⟩ := h
    have h1 : g' = g := h1
    subst h1
    rw [lookup_hd]
    unfold lookP at hl
    by_cases e : f = g'
    · rw [if_pos e] at hl
      cases hl
    · rw [if_neg e] at hl ⊢
      exact FsP.no h3 hl
  | [], _ :: _, h, _ => h.elim
  | _ :: _, [], h, _ => h.elim
def putP (f : Str) (P : Pr) : FsQ → FsQ
  | [] => [(f, P)]
  | (g, Q) :: r => if g = f then (g, P) :: r else (g, Q) :: putP f P r
theorem FsP.put {G : Hp} {f : Str} {P : Pr} {v : V} (hv : P.p G v) : ∀ {fs : FsQ} {vs : List (Str × V)}, FsP G fs vs → FsP G (putP f P fs) (putF f v vs)
  | [], [], _ => ⟨⟨rfl, hv⟩, trivial⟩
  | (g, Q) :: fs, (g', w) :: vs, h => by
    obtain ⟨⟨h1, h2⟩, h3⟩ := h
    have h1 : g' = g := h1
    subst h1
    unfold putP putF
    by_cases e : g' = f
    · rw [if_pos e, if_pos e]
      exact ⟨⟨rfl, hv⟩, h3⟩
    · rw [if_neg e, if_neg e]
      exact ⟨⟨rfl, h2⟩, FsP.put hv h3⟩
  | [], _ :: _, h => h.elim
  | _ :: _, [], h => h.elim
/-- an object that stands still -/
def ObP (C : Addr) (fs : FsQ) : Pr := ⟨fun G v => ∃ p dx vs, v = .ref p ∧ G p = some (.ins C dx vs) ∧ FsP G fs vs, fun _ _ _ e h => by
  obtain ⟨p, dx, vs, h1, h2, h3⟩ := h
  exact ⟨p, dx, vs, h1, e _ _ h2, h3.mono e⟩⟩
section
variable {E : XK} {K : PySem.W.Frag} {C C2 p : Addr} {te ta tb tc : TE} {tA : TA} {δ : En} {μ μ' μ0 μ1 μ2 rest : Mp} {P Q P1 P2 : Pr} {Ps : List Pr} {fs gs : FsQ} {f : Str} {n : Nat} {PP : PY} {u : TS}
theorem ins_ob {μ : Mp} : InsY C (ObP C fs) μ := fun G v M h _ => by
  obtain ⟨p, dx, vs, rfl, h1, h2⟩ := h
  exact ⟨p, dx, vs, rfl, .G h1⟩
theorem e_fldP (h : E1 ta δ μ (ObP C fs) μ1) (cl : Cls K C) (hn : NoAttr K C f) (hl : lookP f fs = some P) : E1 (tFld K ta f) δ μ P μ1 := fun σ G M s mm G1 H F e m1 q z =>
  h σ G M s mm G1 H F e m1 _ fun v G2 M2 H2 e2 m2 r2 => by
    obtain ⟨p, dx, vs, rfl, h1, h2⟩ := r2.1
    obtain ⟨w, h3, h4⟩ := h2.get hl
    exact ⟨p, C, dx, vs, w, rfl, m2.ex _ _ h1, cl, hn, h3, z w G2 M2 H2 e2 m2 ⟨h4, r2.2⟩⟩
end
end SY
set_option Elab.async false
set_option linter.all false
set_option maxRecDepth 100000
namespace SY
open PySem PySem.Spec L2 SX
/-- data, or an owned list of data -/
def RD (K : PySem.W.Frag) (P : Pr) (μ : Mp) (d : PyData) : Prop := Imp P (D K d) ∨ ∃ ds, d = .list ds ∧ LR K P μ ds
section
variable {E : XK} {K : PySem.W.Frag} {C : Addr} {te ta tb tc tl : TE} {tt : TT} {tA : TA} {δ δ' : En} {μ μ' μ0 μ1 μ2 rest : Mp} {P Q P1 P2 : Pr} {d e : PyData} {ds es : List PyData} {k : Nat} {g : TG} {vs : List Nat}
theorem rd_D : RD K (D K d) μ d := .inl (Imp.refl _)
theorem rd_L (h : LR K P μ ds) : RD K P μ (.list ds) := .inr ⟨ds, rfl, h⟩
theorem RD.dr (h : RD K P μ d) : DR K P μ d := by
  rcases h with h | ⟨es, rfl, h⟩
  · intro G v M F H p mm m
    exact dr_D G v M F H (h G v p) mm m
  · exact dr_L h
end
/-- a kind -/
structure GoodKd (b r : Int) (ds : List Deed) (m : Int) : Prop where
  b2 : 2 ≤ b
  b12 : b ≤ 12
  r1 : 1 ≤ r
  r4 : r ≤ 4
  pw : b ^ r.toNat ≤ 1000
  m1 : 1 ≤ m
  m3 : m ≤ 3
  n1 : 1 ≤ ds.length
  n8 : ds.length ≤ 8
  nd : ds.Nodup
  ok : ∀ x ∈ ds, x ∈ allDeeds b r
/-- in the order of a kind -/
def inOrder (b r : Int) (ds : List Deed) : List Deed := (allDeeds b r).filter fun x => decide (x ∈ ds)
/-- the deed that is told so -/
def undeed (b r : Int) (d : PyData) : Deed := ((allDeeds b r).find? fun x => PyData.eqv (deedD x) d).getD .right
theorem undeed_eq {b r : Int} {x : Deed} (h : x ∈ allDeeds b r) : undeed b r (deedD x) = x := by
  unfold undeed
  cases hf : (allDeeds b r).find? fun y => PyData.eqv (deedD y) (deedD x) with
  | none =>
    have := List.find?_eq_none.mp hf x h
    rw [eqv_deed] at this
    simp at this
  | some y =>
    have := List.find?_some hf
    rw [eqv_deed, decide_eq_true_eq] at this
    exact this
end SY
namespace SY
open PySem PySem.Spec L2 SX
end SY
namespace SY
open PySem PySem.Spec L2 SX
theorem allDeeds_len {b r : Int} (hb : 2 ≤ b ∧ b ≤ 12) (hr : 1 ≤ r ∧ r ≤ 4) : (allDeeds b r).length ≤ 70 := by
  have h1 : r.toNat * (b - 1).toNat ≤ 4 * 11 := Nat.mul_le_mul (by omega) (by omega)
  simp only [allDeeds, List.length_append, List.length_cons, List.length_nil, offsOf_len, readsOf_len, copiesOf_len]
  omega
end SY
namespace SY
open PySem PySem.Spec L2 SX
end SY
namespace SY
open PySem PySem.Spec L2 SX
end SY
set_option Elab.async false
set_option linter.all false
set_option maxRecDepth 100000
namespace SY
open PySem PySem.Spec L2 SX
/-- some of a list in drawn order: those drawn, those left, the deck -/
def someS (xs : List Deed) (Dk : Deck) : Nat → List Deed × List Deed × Deck
  | 0 => ([], xs, Dk)
  | n + 1 =>
    let t := someS xs Dk n
    (t.1 ++ [t.2.1.getD (dv t.2.2 t.2.1.length).toNat .right], t.2.1.eraseIdx (dv t.2.2 t.2.1.length).toNat, dn t.2.2 t.2.1.length)
theorem erase_perm {α : Type} : ∀ {l : List α} {k : Nat} (h : k < l.length), (l[k] :: l.eraseIdx k).Perm l
  | _ :: _, 0, _ => List.Perm.refl _
  | x :: l, k + 1, h => (List.Perm.swap x _ _).trans ((erase_perm (l := l) (k := k) (by simpa using h)).cons x)
theorem someS_ok {xs : List Deed} {Dk : Deck} : ∀ n, n ≤ xs.length → (someS xs Dk n).1.length = n ∧ (someS xs Dk n).2.1.length + n = xs.length ∧ ((someS xs Dk n).1 ++ (someS xs Dk n).2.1).Perm xs
  | 0, _ => ⟨rfl, rfl, List.Perm.refl _⟩
  | n + 1, h => by
    obtain ⟨h1, h2, h3⟩ := someS_ok (xs := xs) (Dk := Dk) n (by omega)
    unfold someS
    dsimp only
    generalize (someS xs Dk n).1 = s at h1 h3 ⊢
    generalize (someS xs Dk n).2.1 = l at h2 h3 ⊢
    generalize (someS xs Dk n).2.2 = D
    have hk0 : 0 ≤ dv D l.length := dv_lo (by omega)
    have hk1 : dv D l.length < l.length := dv_hi (by omega)
    have hk : (dv D l.length).toNat < l.length := by omega
    generalize (dv D l.length).toNat = k at hk
    refine ⟨by simp [h1], by rw [List.length_eraseIdx_of_lt hk]; omega, ?_⟩
    refine List.Perm.trans ?_ h3
    rw [List.append_assoc]
    refine List.Perm.append_left s ?_
    rw [List.getD_eq_getElem?_getD, List.getElem?_eq_getElem hk, Option.getD_some]
    exact erase_perm hk
end SY
namespace SY
open PySem PySem.Spec L2 SX
def Deed.args : Deed → List Int
  | .off d => [d]
  | .read j d => [j, d]
  | .copy j => [j]
  | _ => []
end SY
namespace SY
open PySem PySem.Spec L2 SX
theorem allDeeds_lo {b r : Int} (hb : 2 ≤ b ∧ b ≤ 12) (hr : 1 ≤ r ∧ r ≤ 4) : 8 ≤ (allDeeds b r).length := by
  have h1 : 1 * 1 ≤ r.toNat * (b - 1).toNat := Nat.mul_le_mul (by omega) (by omega)
  simp only [allDeeds, List.length_append, List.length_cons, List.length_nil, offsOf_len, readsOf_len, copiesOf_len]
  omega
theorem in_offs {b : Int} {x : Deed} (h : x ∈ offsOf b) : ∃ d, x = .off d := by
  obtain ⟨d, _, rfl⟩ := List.mem_map.mp h
  exact ⟨_, rfl⟩
theorem in_reads {b r : Int} {x : Deed} (h : x ∈ readsOf b r) : ∃ j d, x = .read j d := by
  obtain ⟨j, _, h⟩ := List.mem_flatMap.mp h
  obtain ⟨d, _, rfl⟩ := List.mem_map.mp h
  exact ⟨_, _, rfl⟩
theorem in_copies {r : Int} {x : Deed} (h : x ∈ copiesOf r) : ∃ j, x = .copy j := by
  obtain ⟨d, _, rfl⟩ := List.mem_map.mp h
  exact ⟨_, rfl⟩
theorem offsOf_nodup (b : Int) : (offsOf b).Nodup := by
  unfold offsOf List.Nodup
  rw [List.pairwise_map, List.pairwise_map]
  exact List.Pairwise.imp (fun h => by intro e; injection e; omega) List.nodup_range
theorem readsOf_nodup (b r : Int) : (readsOf b r).Nodup := by
  unfold readsOf List.Nodup
  rw [List.pairwise_flatMap]
  refine ⟨fun j _ => ?_, ?_⟩
  · rw [List.pairwise_map, List.pairwise_map]
    exact List.Pairwise.imp (fun h => by intro e; injection e; omega) List.nodup_range
  · refine List.Pairwise.imp (fun h x hx y hy => ?_) List.nodup_range
    obtain ⟨_, _, rfl⟩ := List.mem_map.mp hx
    obtain ⟨_, _, rfl⟩ := List.mem_map.mp hy
    intro e
    injection e
    omega
theorem copiesOf_nodup (r : Int) : (copiesOf r).Nodup := by
  unfold copiesOf List.Nodup
  rw [List.pairwise_map]
  exact List.Pairwise.imp (fun h => by intro e; injection e; omega) List.nodup_range
theorem allDeeds_nodup (b r : Int) : (allDeeds b r).Nodup := by
  unfold allDeeds
  refine List.nodup_append.mpr ⟨by decide, List.nodup_append.mpr ⟨offsOf_nodup b, List.nodup_append.mpr ⟨readsOf_nodup b r, List.nodup_append.mpr ⟨copiesOf_nodup r, by decide, ?_⟩, ?_⟩, ?_⟩, ?_⟩
  · intro x hx y hy e
    obtain ⟨j, rfl⟩ := in_copies hx
    subst e
    simp at hy
  · intro x hx y hy e
    obtain ⟨j, d, rfl⟩ := in_reads hx
    subst e
    rcases List.mem_append.mp hy with h | h
    · obtain ⟨_, h⟩ := in_copies h
      cases h
    · simp at h
  · intro x hx y hy e
    obtain ⟨d, rfl⟩ := in_offs hx
    subst e
    rcases List.mem_append.mp hy with h | h
    · obtain ⟨_, _, h⟩ := in_reads h
      cases h
    · rcases List.mem_append.mp h with h | h
      · obtain ⟨_, h⟩ := in_copies h
        cases h
      · simp at h
  · intro x hx y hy e
    subst e
    rcases List.mem_append.mp hy with h | h
    · obtain ⟨_, rfl⟩ := in_offs h
      simp at hx
    · rcases List.mem_append.mp h with h | h
      · obtain ⟨_, _, rfl⟩ := in_reads h
        simp at hx
      · rcases List.mem_append.mp h with h | h
        · obtain ⟨_, rfl⟩ := in_copies h
          simp at hx
        · simp only [List.mem_cons, List.not_mem_nil, or_false] at hx h
          rcases hx with rfl | rfl <;> rcases h with h | h | h <;> cases h
end SY
namespace SY
open PySem PySem.Spec L2 SX
/-- a kind's deeds, out of a pool of at most eight, one of them in any case -/
structure InPool (b r : Int) (pool : List Deed) (x0 : Deed) (ds : List Deed) : Prop where
  sub : ∀ x ∈ ds, x ∈ pool
  has : x0 ∈ ds
  ord : inOrder b r ds = ds
structure GoodPool (b r : Int) (pool : List Deed) : Prop where
  b2 : 2 ≤ b
  b12 : b ≤ 12
  r1 : 1 ≤ r
  r4 : r ≤ 4
  pw : b ^ r.toNat ≤ 1000
  n8 : pool.length ≤ 8
  nd : pool.Nodup
  ok : ∀ x ∈ pool, x ∈ allDeeds b r
theorem sub_len {xs pool : List Deed} (hx : xs.Nodup) (hp : pool.Nodup) (h : ∀ x ∈ xs, x ∈ pool) : xs.length ≤ pool.length := by
  have : xs.Perm (pool.filter fun x => decide (x ∈ xs)) := (List.perm_ext_iff_of_nodup hx (hp.filter _)).mpr fun x => by
    rw [List.mem_filter, decide_eq_true_eq]
    exact ⟨fun z => ⟨h x z, z⟩, fun z => z.2⟩
  rw [this.length_eq]
  exact List.length_filter_le _ _
theorem GoodPool.kd {b r m : Int} {pool ds : List Deed} (g : GoodPool b r pool) (hm : 1 ≤ m ∧ m ≤ 3) (h1 : 1 ≤ ds.length) (hn : ds.Nodup) (hs : ∀ x ∈ ds, x ∈ pool) : GoodKd b r ds m :=
  ⟨g.b2, g.b12, g.r1, g.r4, g.pw, hm.1, hm.2, h1, Nat.le_trans (sub_len hn g.nd hs) g.n8, hn, fun x hx => g.ok x (hs x hx)⟩
theorem InPool.nd {b r : Int} {pool ds : List Deed} {x0 : Deed} (h : InPool b r pool x0 ds) : ds.Nodup := by
  rw [← h.ord]
  exact (allDeeds_nodup b r).filter _
theorem InPool.pos {b r : Int} {pool ds : List Deed} {x0 : Deed} (h : InPool b r pool x0 ds) : 1 ≤ ds.length := List.length_pos_of_mem h.has
theorem InPool.kd {b r m : Int} {pool ds : List Deed} {x0 : Deed} (h : InPool b r pool x0 ds) (g : GoodPool b r pool) (hm : 1 ≤ m ∧ m ≤ 3) : GoodKd b r ds m := g.kd hm h.pos h.nd h.sub
end SY
namespace SY
open PySem PySem.Spec L2 SX
def rMax2 : List V → Hp → VK → Prop := fun xs H Q => ∃ i j, xs = [.int i, .int j] ∧ Q (.int (if j > i then j else i)) H
theorem k_max2 {X : Cx} (hc : X.calm = true) : CallR X (.builtin "max") rMax2 := call_max2 hc
section
variable {K : PySem.W.Frag} {ta tb : TE} {δ : En} {μ μ1 μ2 : Mp} {i j : Int}
theorem e_max2 (h1 : E1 ta δ μ (D K (.int i)) μ1) (h2 : E1 tb δ μ1 (D K (.int j)) μ2) : E1 (tCB rMax2 (tCons ta (tCons tb tNil))) δ μ (D K (.int (if j > i then j else i))) μ2 :=
  e_CB (a_cons h1 (a_cons h2 a_nil)) fun G H F M vs m mm p Q q => by
    match vs, p with
    | [v, w], ⟨p1, p2, _⟩ =>
      rw [dp_int p1, dp_int p2]
      exact ⟨i, j, rfl, q _ G M H (Ex.refl _) m (.int _) mm⟩
end
end SY
namespace SY
open PySem PySem.Spec L2 SX
structure PK (b r : Int) (pool : List Deed) (x0 : Deed) (ds : List Deed) (m : Int) : Prop where
  g : GoodPool b r pool
  i : InPool b r pool x0 ds
  m1 : 1 ≤ m
  m3 : m ≤ 3
section
variable {b r m m2 : Int} {pool ds es : List Deed} {x0 : Deed}
theorem PK.kd (h : PK b r pool x0 ds m) : GoodKd b r ds m := h.i.kd h.g ⟨h.m1, h.m3⟩
theorem PK.len (h : PK b r pool x0 ds m) : ds.length ≤ 1000 := Nat.le_trans h.kd.n8 (by decide)
theorem PK.sub (h : PK b r pool x0 ds m) {x : Deed} (hx : x ∈ ds) : x ∈ allDeeds b r := h.g.ok x (h.i.sub x hx)
end
end SY
namespace SY
open PySem PySem.Spec L2 SX
end SY
namespace SY
open PySem PySem.Spec L2 SX
end SY
namespace SY
open PySem PySem.Spec L2 SX
end SY
set_option Elab.async false
set_option linter.all false
set_option maxRecDepth 100000
namespace SY
open PySem PySem.Spec L2 SX
end SY
namespace SY
open PySem PySem.Spec L2 SX
end SY
namespace SY
open PySem PySem.Spec L2 SX
end SY
set_option Elab.async false
set_option linter.all false
set_option maxRecDepth 100000
namespace SY
open PySem PySem.Spec L2 SX
abbrev EXY := Value → Option Addr → Mp → Prop
def EXY.po (X : EXY) : Value → Option Addr → Hp → Mem → Prop := fun c d G M => ∃ μ, X c d μ ∧ Mm G M μ
/-- an expression that raises, surely -/
def ER (E : XK) (te : TE) (δ : En) (μ : Mp) (X : EXY) : Prop := ∀ σ G M, Sl G σ δ → Mm G M μ → EvR E te σ G M X.po
/-- a promise: comes back, or raises -/
def spX {α : Type} (A : α → List Pr) (m : α → Mp) (pre : α → Prop) (R : α → Pr → Mp → Prop) (Xc : α → EXY) : Sp :=
  specX (fun x G M vs => Mm G M (m x) ∧ AP G (A x) vs ∧ pre x) (fun x _ G v M' => ∃ Q μ', R x Q μ' ∧ Q.p G v ∧ Mm G M' μ') (fun x _ => (Xc x).po)
def BackX {α : Type} (Xc : α → EXY) (x : α) : EXY := fun c d μ => ∃ μ2, Xc x c d μ2 ∧ μ2.Sublist μ
section
variable {P : Program} {w : World} {K : PySem.W.Frag} {mg : Str → Option Value} {base : Heap} {α : Type} {A : α → List Pr} {m : α → Mp} {pre : α → Prop} {R : α → Pr → Mp → Prop} {Xc : α → EXY}
theorem fn_YX {x qual : Str} {st : Stmt} {f : Addr} {fd : FuncData} {N ps : List Str} {k : Nat} (F : Fun K x qual st f fd) (S : FnScope N ps (defScope st)) (len : ∀ x, (A x).length = ps.length)
    (body : ∀ (cdv : Value) (Ar : Around) (outer : List Env) (s : Shared) (H : Hp) (E : XK), Room k (Ar.deeper (PyProof.Rows.envOfC qual (defScope st) s.heap.objs.size f cdv)) →
      ∃ t, PSs (cxOf (L2.CX P w) P w K mg base N qual (defScope st) f cdv Ar outer s H E) (defBody st) t ∧ ∀ x, pre x → S1 E t (startY N (A x)) (m x) { nx := fun _ μ => BackY R x (D K .none) μ, rt := BackY R x, ex := BackX Xc x }) :
    FnOk P w K mg base (L2.CX P w) (k + 1) f fd ps (spX A m pre R Xc) := by
  refine fn_svX F S (fun x G M vs h => by rw [AP.len h.2.1, len]) fun cdv Ar outer s H E hr => ?_
  obtain ⟨t, ht, hs⟩ := body cdv Ar outer s H E hr
  refine ⟨t, ht, fun x G M vs h => ?_⟩
  have hb : ∀ {Q : Pr} {μ : Mp} {G' : Hp} {v : V} {M' : Mem} {F : Mem} {H' : Hp}, BackY R x Q μ → Q.p G' v → Mm G' M' μ → Me G' (M' ++ F) H' → ∃ M2, Me G' (M2 ++ F) H' ∧ ∃ Q2 μ2, R x Q2 μ2 ∧ Q2.p G' v ∧ Mm G' M2 μ2 := by
    intro Q μ G' v M' F H' hq hp hm he
    obtain ⟨Q2, μ2, h1, h2, h3⟩ := backY_of hq
    obtain ⟨M2, h4, h5⟩ := hm.sub h3
    exact ⟨M2, he.sub (List.Sublist.append_right h4 F), Q2, μ2, h1, h2 _ _ hp, h5⟩
  intro G1 H F DD e m1 hd
  refine hs x h.2.2 _ G M (sl_start h.2.1) h.1 G1 H F DD e m1 ⟨?_, ?_, ?_, ?_, ?_⟩
  · rintro σ2 G2 M2 H2 e2 m2 ⟨δ2, μ2, n0, n1, n2⟩
    obtain ⟨M3, m3, r⟩ := hb n0 .non n2 m2
    exact hd.nx σ2 G2 M3 H2 e2 m3 r
  · rintro v G2 M2 H2 e2 m2 ⟨Q2, μ2, n0, n1, n2⟩
    obtain ⟨M3, m3, r⟩ := hb n0 n1 n2 m2
    exact hd.rt v G2 M3 H2 e2 m3 r
  · rintro σ2 G2 M2 H2 e2 m2 ⟨δ2, μ2, n0, _⟩
    exact n0.elim
  · rintro σ2 G2 M2 H2 e2 m2 ⟨δ2, μ2, n0, _⟩
    exact n0.elim
  · rintro c d G2 M2 H2 e2 m2 ⟨μ2, ⟨μ3, n0, n1⟩, n2⟩
    obtain ⟨M3, h4, h5⟩ := n2.sub n1
    exact hd.ex c d G2 M3 H2 e2 (m2.sub (List.Sublist.append_right h4 F)) ⟨μ3, n0, h5⟩
end
section
variable {E : XK} {K : PySem.W.Frag} {te ta tb : TE} {tA tr : TA} {δ δ' : En} {μ μ1 μ2 rest : Mp} {Q : Pr} {u : TS} {P : PY} {g : TG} {X : EXY} {c : Value}
theorem ER.imp {X' : EXY} (h : ER E te δ μ X) (i : ∀ c d μ, X c d μ → X' c d μ) : ER E te δ μ X' := fun σ G M s mm G1 H F e m1 x Q => h σ G M s mm G1 H F e m1 (fun c d G2 M2 H2 e2 m2 ⟨μ2, h2, h3⟩ => x c d G2 M2 H2 e2 m2 ⟨μ2, i c d μ2 h2, h3⟩) Q
end
end SY
namespace SY
open PySem PySem.Spec L2 SX
end SY
set_option Elab.async false
set_option linter.all false
set_option maxRecDepth 100000
namespace SY
open PySem PySem.Spec L2 SX
/-- raises, surely; the wish is told at the slots -/
def ES (EE : L2.St → XK) (te : TE) (δ : En) (μ : Mp) (X : EXY) : Prop := ∀ σ G M, Sl G σ δ → Mm G M μ → EvR (EE σ) te σ G M X.po
def SS (EE : L2.St → XK) (t : TS) (δ : En) (μ : Mp) (P : PY) : Prop := ∀ σ G M, Sl G σ δ → Mm G M μ → Sv (EE σ) t σ G M P.po
section
variable {EE : L2.St → XK} {E : XK} {K : PySem.W.Frag} {te ta tb : TE} {tA tr : TA} {δ δ' : En} {μ μ1 μ2 rest : Mp} {Q P1 P2 : Pr} {u : TS} {P : PY} {g : TG} {X X' : EXY} {R : Pr → Mp → Prop} {k : Nat}
theorem ss_drop (h : E1 te δ μ Q μ1) (k' : P.nx δ μ1) : SS EE (tDrop te) δ μ P := fun σ G M s mm => s_drop (E := EE σ) h k' σ G M s mm
theorem ss_dropR (h : ES EE te δ μ P.ex) : SS EE (tDrop te) δ μ P := fun σ G M s mm => sv_dropR (h σ G M s mm)
theorem ES.imp (h : ES EE te δ μ X) (i : ∀ c d μ, X c d μ → X' c d μ) : ES EE te δ μ X' := fun σ G M s mm G1 H F e m1 x Q => h σ G M s mm G1 H F e m1 (fun c d G2 M2 H2 e2 m2 ⟨μ2, h2, h3⟩ => x c d G2 M2 H2 e2 m2 ⟨μ2, i c d μ2 h2, h3⟩) Q
section
variable {α : Type} {A : α → List Pr} {m : α → Mp} {pre : α → Prop} {Rx : α → Pr → Mp → Prop} {Xc : α → EXY}
/-- a call that comes back -/
theorem y_callS (x : α) (h : EA tA δ μ (A x) (m x ++ rest)) (hp : pre x) (hx : ∀ c d μ, ¬ Xc x c d μ) : EY (tCallS (spX A m pre Rx Xc) EE tA) δ μ (fun Q μ' => ∃ μ2, Rx x Q μ2 ∧ μ' = μ2 ++ rest) := fun σ G M s mm G1 H F e m1 q z =>
  h σ G M s mm G1 H F e m1 _ fun vs G2 M2 H2 e2 m2 a2 r2 => by
    obtain ⟨Ma, Mb, rfl, ma, mb⟩ := Mm.cut r2
    refine ⟨x, G2, Ma, Mb ++ F, by rw [← List.append_assoc]; exact m2, ⟨ma, a2, hp⟩, fun v G' M' H' e' m' ⟨Q, μ', r0, r1, r2⟩ => ?_, fun c d G' M' H' e' m' ⟨μ', r0, _⟩ => absurd r0 (hx c d μ')⟩
    exact z v G' (M' ++ Mb) H' (e2.trans e') (by rw [List.append_assoc]; exact m') ⟨Q, _, ⟨μ', r0, rfl⟩, r1, Mm.app r2 (mb.mono e')⟩
/-- a call that raises -/
theorem es_callS (x : α) (h : EA tA δ μ (A x) (m x ++ rest)) (hp : pre x) (hr : ∀ Q μ, ¬ Rx x Q μ) : ES EE (tCallS (spX A m pre Rx Xc) EE tA) δ μ (fun c d μ' => ∃ μ2, Xc x c d μ2 ∧ μ' = μ2 ++ rest) := fun σ G M s mm G1 H F e m1 z q =>
  h σ G M s mm G1 H F e m1 _ fun vs G2 M2 H2 e2 m2 a2 r2 => by
    obtain ⟨Ma, Mb, rfl, ma, mb⟩ := Mm.cut r2
    refine ⟨x, G2, Ma, Mb ++ F, by rw [← List.append_assoc]; exact m2, ⟨ma, a2, hp⟩, fun v G' M' H' e' m' ⟨Q, μ', r0, _⟩ => absurd r0 (hr Q μ'), fun c d G' M' H' e' m' ⟨μ', r0, r1⟩ => ?_⟩
    exact z c d G' (M' ++ Mb) H' (e2.trans e') (by rw [List.append_assoc]; exact m') ⟨_, ⟨μ', r0, rfl⟩, Mm.app r1 (mb.mono e')⟩
end
section
variable {α : Type} {A : α → List Pr} {m : α → Mp} {pre : α → Prop} {ok : α → Bool} {B : α → Pr} {c : Addr}
/-- where it does not raise -/
abbrev spTG {α : Type} (A : α → List Pr) (m : α → Mp) (pre : α → Prop) (ok : α → Bool) (B : α → Pr) : Sp := sp A m (fun x => pre x ∧ ok x = true) (fun x Q μ => Q = B x ∧ μ = m x)
theorem e_callG (x : α) (h : EA tA δ μ (A x) (m x)) (hp : pre x) (hk : ok x = true) : E1 (tCall (spTG A m pre ok B) [] E tA) δ μ (B x) (m x) := e_callR (pre := fun x => pre x ∧ ok x = true) x h ⟨hp, hk⟩
theorem back_T {x : α} {Q : Pr} {μ : Mp} (hk : ok x = true) (h : Imp Q (B x)) (hm : (m x).Sublist μ) : BackY (fun x Q μ => ok x = true ∧ Q = B x ∧ μ = m x) x Q μ := backY_mk ⟨hk, rfl, rfl⟩ h hm
end
theorem s_tryS {i : Nat} {tw : WX → TS} {ts : Addr → Value → Option Addr → TS} {c : Value} {Wout : WX} (X : EXY) (hB : ∀ W : WX, SS (WE W) (tw W) δ μ { P with ex := X })
    (hS : ∀ cls d a μ2, X cls d μ2 → PySem.W.exmOne K cls c = some true ∧ S1 E (ts a cls d) (δ.set i (some (Av a))) μ2 { P with nx := fun δ' μ' => P.nx (δ'.set i none) μ', bk := fun δ' μ' => P.bk (δ'.set i none) μ', ct := fun δ' μ' => P.ct (δ'.set i none) μ' }) :
    S1 E (fun D σ H => tw (wAs K c i ts Wout D) D σ H) δ μ P := fun σ G M s mm =>
  sv_tryAs (P := P.po) X.po (fun W => hB W σ G M s mm) fun cls d a G2 M2 e2 ⟨μ2, hx, h2⟩ => by
    obtain ⟨h3, h4⟩ := hS cls d a μ2 hx
    refine ⟨h3, (h4 _ G2 M2 ((s.mono e2).set (P := Av a) (v := .ref a) (by rfl)) h2).imp ?_ ?_ ?_ ?_ ?_⟩
    · rintro G3 σ3 M3 _ ⟨δ3, μ3, n0, n1, n2⟩
      exact ⟨_, μ3, n0, n1.none2, n2⟩
    · exact fun _ _ _ _ z => z
    · rintro G3 σ3 M3 _ ⟨δ3, μ3, n0, n1, n2⟩
      exact ⟨_, μ3, n0, n1.none2, n2⟩
    · rintro G3 σ3 M3 _ ⟨δ3, μ3, n0, n1, n2⟩
      exact ⟨_, μ3, n0, n1.none2, n2⟩
    · exact fun _ _ _ _ _ z => z
/-- the body comes back -/
theorem s_tryN {i : Nat} {tw : WX → TS} {ts : Addr → Value → Option Addr → TS} {c : Value} {Wout : WX} (hB : ∀ W : WX, SS (WE W) (tw W) δ μ { P with ex := fun _ _ _ => False }) : S1 E (fun D σ H => tw (wAs K c i ts Wout D) D σ H) δ μ P :=
  s_tryS (fun _ _ _ => False) hB fun _ _ _ _ z => z.elim
theorem ap_cv {G : Hp} : ∀ {cs vs : List V}, AP G (cs.map Cv) vs → vs = cs
  | [], [], _ => rfl
  | _ :: _, _ :: _, h => by
    obtain ⟨h1, h2⟩ := h
    have h1 : _ = _ := h1
    rw [h1, ap_cv h2]
  | [], _ :: _, h => h.elim
  | _ :: _, [], h => h.elim
theorem a_cs {cs : List V} : ∀ {ts : TA}, (∀ σ H Q, Q cs H → ts σ H Q) → EA ts δ μ (cs.map Cv) μ := fun ht σ G M s mm G1 H F e m1 Q q => ht σ H Q (q cs G1 M H (Ex.refl _) m1 (by
  clear q ht
  induction cs with
  | nil => trivial
  | cons c cs ih => exact ⟨rfl, ih⟩) (mm.mono e))
end
end SY
namespace SY
open PySem PySem.Spec L2 SX
end SY
namespace SY
open PySem PySem.Spec L2 SX
end SY
namespace SY
open PySem PySem.Spec L2 SX
end SY
namespace SY
open PySem PySem.Spec L2 SX
theorem E1.cast {te : TE} {δ : En} {μ μ' : Mp} {P P1 : Pr} (h : E1 te δ μ P μ') (e : P = P1) : E1 te δ μ P1 μ' := e ▸ h
end SY
namespace SY
open PySem PySem.Spec L2 SX
/-- what some are drawn of -/
structure PoolOk (b r : Int) (pool : List Deed) : Prop where
  nd : pool.Nodup
  ok : ∀ x ∈ pool, x ∈ allDeeds b r
  n1 : 1 ≤ pool.length
  n70 : pool.length ≤ 70
theorem PoolOk.all {b r : Int} (hb : 2 ≤ b ∧ b ≤ 12) (hr : 1 ≤ r ∧ r ≤ 4) : PoolOk b r (allDeeds b r) := ⟨allDeeds_nodup b r, fun _ h => h, by have := allDeeds_lo hb hr; omega, allDeeds_len hb hr⟩
theorem PoolOk.some {b r : Int} {pool : List Deed} (g : PoolOk b r pool) {Dk : Deck} {n : Nat} (h1 : 1 ≤ n) (h : n ≤ pool.length) : PoolOk b r (someS pool Dk n).1 := by
  obtain ⟨h2, h3, h4⟩ := someS_ok (xs := pool) (Dk := Dk) n h
  have := g.n70
  exact ⟨(List.nodup_append.mp (h4.nodup_iff.mpr g.nd)).1, fun x hx => g.ok x (h4.mem_iff.mp (List.mem_append_left _ hx)), by omega, by omega⟩
theorem PoolOk.kd {b r m : Int} {pool : List Deed} (g : PoolOk b r pool) (hb : 2 ≤ b ∧ b ≤ 12) (hr : 1 ≤ r ∧ r ≤ 4) (hp : b ^ r.toNat ≤ 1000) (hm : 1 ≤ m ∧ m ≤ 3) (h8 : pool.length ≤ 8) : GoodKd b r pool m := ⟨hb.1, hb.2, hr.1, hr.2, hp, hm.1, hm.2, g.n1, h8, g.nd, g.ok⟩
end SY
set_option Elab.async false
set_option linter.all false
set_option maxRecDepth 100000
namespace SY
open PySem PySem.Spec L2 SX
section
variable {E : XK} {K : PySem.W.Frag} {te ta tb : TE} {tc tt : TT} {tA tr : TA} {δ δ' : En} {μ μ' μ1 μ2 rest : Mp} {Q P1 : Pr} {u t : TS} {P : PY} {Ps : List Pr} {ad : Addr} {i : Int}
/-- what is owned, told otherwise -/
def Mi (μ μ' : Mp) : Prop := ∀ G M, Mm G M μ → Mm G M μ'
theorem Mi.refl : Mi μ μ := fun _ _ h => h
theorem Mi.cons {a : Addr} {o o' : Ob} (h : ∀ G x, o.p G x → o'.p G x) (i : Mi μ μ') : Mi ((a, o) :: μ) ((a, o') :: μ') := fun G M m => by
  match M, m with
  | _ :: M, ⟨⟨h1, h2⟩, h3⟩ => exact ⟨⟨h1, h _ _ h2⟩, i G M h3⟩
theorem Mi.same {x : Addr × Ob} (i : Mi μ μ') : Mi (x :: μ) (x :: μ') := Mi.cons (fun _ _ h => h) i
theorem E1.mem (h : E1 te δ μ Q μ1) (i : Mi μ1 μ2) : E1 te δ μ Q μ2 := fun σ G M s m => (h σ G M s m).imp fun G1 v M1 _ r => ⟨r.1, i _ _ r.2⟩
end
def mix2 (b c : Int) : Int := ((((b + 7919 * c * c) % 2147483647 * 48271 + 101 * c) % 2147483629) * (((b + 7919 * c * c) % 2147483647 * 48271 + 101 * c) % 2147483629) + 16807 * c) % 2147483587
def dv2 (D : Deck) (n : Int) : Int := if D.a > 0 then D.a % n else (mix2 D.b (D.c + 1) / 32) % n
def dn2 (D : Deck) (n : Int) : Deck := if D.a > 0 then ⟨D.a / n, D.b, D.c⟩ else ⟨D.a, D.b, D.c + 1⟩
end SY
namespace SY
open PySem PySem.Spec L2 SX
def wordsL : List Str := ["forget", "again", "off", "read", "copy", "swap", "out", "twice"]
def rowOf (rest : List Deed) (w : Str) : List Deed := if (rest.filter fun x => decide (x.word = w)).length = 0 then rest else rest.filter fun x => decide (x.word = w)
def chosenS (rest0 : List Deed) (Dk : Deck) : Nat → List Deed × List Deed × Deck
  | 0 => ([], rest0, Dk)
  | n + 1 =>
    let t := chosenS rest0 Dk n
    let row := rowOf t.2.1 (wordsL.getD (dv2 t.2.2 8).toNat "")
    let d := row.getD (dv2 (dn2 t.2.2 8) row.length).toNat .right
    (t.1 ++ [d], t.2.1.filter fun x => !decide (x = d), dn2 (dn2 t.2.2 8) row.length)
def downN (b : Int) : Nat → Nat
  | 0 => 0
  | n + 1 => if b ^ (n + 1) ≤ 1000 then n + 1 else downN b n
def kB (Dk : Deck) : Int := 2 + dv2 Dk 11
def kR (Dk : Deck) : Int := (downN (kB Dk) (1 + dv2 (dn2 Dk 11) 4).toNat : Nat)
def kC (Dk : Deck) : List Deed × List Deed × Deck := chosenS (allDeeds (kB Dk) (kR Dk)) (dn2 (dn2 (dn2 Dk 11) 4) 8) (1 + dv2 (dn2 (dn2 Dk 11) 4) 8).toNat
end SY
namespace SY
open PySem PySem.Spec L2 SX
end SY
namespace SY
open PySem PySem.Spec L2 SX
end SY
namespace SY
open PySem PySem.Spec L2 SX
theorem T1.le {tt : TT} {δ δ' : En} {μ μ' : Mp} {b : Bool} (h : T1 tt δ' μ b μ') (l : Le δ δ') : T1 tt δ μ b μ' := fun σ G M s m => h σ G M (s.le l) m
end SY
namespace SY
open PySem PySem.Spec L2 SX
end SY
namespace SY
open PySem PySem.Spec L2 SX
end SY
namespace SY
open PySem PySem.Spec L2 SX
theorem Mm.perm {G : Hp} {μ' μ : Mp} (h : μ'.Perm μ) : ∀ {M : Mem}, Mm G M μ → ∃ M' : Mem, M'.Perm M ∧ Mm G M' μ' := by
  induction h with
  | nil => exact fun h => ⟨_, List.Perm.refl _, h⟩
  | cons x _ ih =>
    intro M h
    match M, h with
    | m :: M, ⟨h1, h2⟩ =>
      obtain ⟨M', h3, h4⟩ := ih h2
      exact ⟨m :: M', h3.cons m, h1, h4⟩
  | swap x y l =>
    intro M h
    match M, h with
    | a :: b :: M, ⟨h1, h2, h3⟩ => exact ⟨b :: a :: M, List.Perm.swap _ _ _, h2, h1, h3⟩
  | trans _ _ ih1 ih2 =>
    intro M h
    obtain ⟨M1, h1, h2⟩ := ih2 h
    obtain ⟨M2, h3, h4⟩ := ih1 h2
    exact ⟨M2, h3.trans h1, h4⟩
end SY
set_option Elab.async false
set_option linter.all false
set_option maxRecDepth 100000
namespace SY
open PySem PySem.Spec L2 SX
structure Stand where
  left : Int
  wait : Option Int
  before : Option (List Int)
  carry : Int
  gap : Int
  near : Option Int
  rests : List (Int × Int × Int)
def oiD : Option Int → PyData
  | none => .none
  | some i => .int i
/-- well made, for so wide gaps -/
structure WfS (b : Int) (cp lot : List Int) (N : Int) (s : Stand) : Prop where
  gap : -N ≤ s.gap ∧ s.gap ≤ N
  len : s.rests.length = lot.length
  carry : 0 ≤ s.carry ∧ s.carry ≤ 100
  wait : ∀ w, s.wait = some w → 0 ≤ w ∧ w < b
  bef : ∀ l, s.before = some l → l.length = cp.length ∧ ∀ x ∈ l, 0 ≤ x ∧ x < b
end SY
namespace SY
open PySem PySem.Spec L2 SX
end SY
namespace SY
open PySem PySem.Spec L2 SX
end SY
namespace SY
open PySem PySem.Spec L2 SX
end SY
namespace SY
open PySem PySem.Spec L2 SX
structure ColOk (b r : Int) (c : List Int) : Prop where
  len : (c.length : Int) = r
  fig : ∀ x ∈ c, 0 ≤ x ∧ x < b
theorem WfS.mono {b : Int} {cp lot : List Int} {N N' : Int} {s : Stand} (h : WfS b cp lot N s) (hn : N ≤ N') : WfS b cp lot N' s := ⟨⟨by have := h.gap; omega, by have := h.gap; omega⟩, h.len, h.carry, h.wait, h.bef⟩
end SY
namespace SY
open PySem PySem.Spec L2 SX
end SY
set_option Elab.async false
set_option linter.all false
set_option maxRecDepth 100000
namespace SY
open PySem PySem.Spec L2 SX
end SY
set_option Elab.async false
set_option linter.all false
set_option maxRecDepth 100000
namespace SY
open PySem PySem.Spec L2 SX
/-- the dict of an exception that bears the index i -/
def XI (i : Int) : Ob := ⟨fun _ o => o = .xd [("index", .int i)], fun _ _ _ _ h => h⟩
/-- the error: of the class c, it bears i -/
abbrev ErI (c : Addr) (i : Int) (μ0 : Mp) : EXY := fun cl d μ => ∃ dd, cl = .ref c ∧ d = some dd ∧ μ = (dd, XI i) :: μ0
/-- raise C(e), C's __init__ keeping spIdx -/
def tRaiseI (E : XK) (C : Addr) (ta : TA) : TS := fun _ σ H => tMkO C (spIdx C) [] ta σ H fun cls d H' => E cls d H'
section
variable {EE : L2.St → XK} {E : XK} {K : PySem.W.Frag} {te : TE} {tA : TA} {δ : En} {μ μ1 μ2 rest : Mp} {P : PY} {C c : Addr} {i : Int} {X : EXY}
theorem s_raiseI (h : EA tA δ μ [D K (.int i)] μ1) (h0 : 0 ≤ i) (h1 : i < 1000) (k : ∀ dd, P.ex (.ref C) (some dd) ((dd, XI i) :: μ1)) : S1 E (tRaiseI E C tA) δ μ P := fun σ G M s mm G1 H F D e m1 hd =>
  h σ G M s mm G1 H F e m1 _ fun vs G2 M2 H2 e2 m2 a2 r2 => by
    match vs, a2 with
    | [v], ⟨p, q⟩ =>
      have p : Dp K G2 v (.int i) := p
      obtain rfl := dp_int p
      refine ⟨by show 1 ≤ 1000; decide, fun a ha => ⟨a, i, rfl, h0, h1, upd_same, fun dx hdx hne => ⟨rfl, dx, [("index", .int i)], upd_same, ?_, ?_, ?_⟩⟩⟩
      · rw [upd_ne hne, upd_same]
      · rw [upd_ne hne] at hdx
        exact hdx
      · rw [upd_ne hne] at hdx
        have he : upd (del (upd (upd (upd H2 a (exo a C none)) dx (exd dx [("index", .int i)])) a (exo a C (some dx))) a) dx (.xd [("index", .int i)]) = upd H2 dx (.xd [("index", .int i)]) := by
          funext b
          by_cases hb : b = dx
          · rw [hb, upd_same, upd_same]
          · rw [upd_ne hb, upd_ne hb]
            by_cases ha' : b = a
            · rw [ha', del_same, ha]
            · rw [del_ne ha', upd_ne ha', upd_ne hb, upd_ne ha']
        show E (.ref C) (some dx) _
        rw [he]
        exact hd.ex _ _ G2 ((dx, .xd [("index", .int i)]) :: M2) _ e2 (m2.newM (o := .xd [("index", .int i)]) hdx) ⟨_, k dx, ⟨rfl, rfl⟩, r2⟩
/-- e.index, e the caught one -/
theorem e_xf {a dd : Addr} (h : E1 te δ μ (Av a) ((dd, XI i) :: rest)) : E1 (tXf a (.ref C) (some dd) C "index" te) δ μ (D K (.int i)) ((dd, XI i) :: rest) := fun σ G M s m G1 H F e m1 Q q => h σ G M s m G1 H F e m1 _ fun x G2 M2 H2 e2 m2 r2 => by
  match M2, r2.2 with
  | (b, o) :: M3, ⟨⟨h3, h4⟩, h6⟩ =>
    have h3 : b = dd := h3
    have h4 : o = .xd [("index", .int i)] := h4
    subst h3 h4
    have hx : x = .ref a := r2.1
    exact ⟨hx, rfl, b, _, .int i, rfl, (m2.at_ (b, .xd [("index", .int i)]) (by simp)).1, rfl, q _ G2 _ H2 e2 m2 ⟨.int i, ⟨rfl, rfl⟩, h6⟩⟩
end
theorem _root_.L2.ExcC.xf {K : PySem.W.Frag} {D : Addr} (e : ExcC K D) : XfC K D := ⟨e.hg, e.hk, e.hs, e.hd⟩
abbrev spTI {α : Type} (A : α → List Pr) (m : α → Mp) (pre : α → Prop) (ok : α → Bool) (B : α → Pr) (c : Addr) (ix : α → Int) : Sp :=
  spX A m pre (fun x Q μ => ok x = true ∧ Q = B x ∧ μ = m x) (fun x => fun cl d μ => ok x = false ∧ ErI c (ix x) (m x) cl d μ)
section
variable {EE : L2.St → XK} {E : XK} {K : PySem.W.Frag} {te : TE} {tA : TA} {δ : En} {μ μ1 μ2 rest : Mp} {α : Type} {A : α → List Pr} {m : α → Mp} {pre : α → Prop} {ok : α → Bool} {B : α → Pr} {c : Addr} {ix : α → Int}
theorem e_callTI (x : α) (h : EA tA δ μ (A x) (m x)) (hp : pre x) (hk : ok x = true) : E1 (tCallS (spTI A m pre ok B c ix) EE tA) δ μ (B x) (m x) := ((y_callS (m := m) (rest := []) x (by rw [List.append_nil]; exact h) hp fun c d μ z => by rw [hk] at z; cases z.1).imp fun Q μ' r => by
  obtain ⟨_, ⟨_, rfl, rfl⟩, rfl⟩ := r
  exact ⟨rfl, List.append_nil _⟩).one
theorem es_callTI (x : α) (h : EA tA δ μ (A x) (m x)) (hp : pre x) (hk : ok x = false) : ES EE (tCallS (spTI A m pre ok B c ix) EE tA) δ μ (ErI c (ix x) (m x)) := (es_callS (m := m) (rest := []) x (by rw [List.append_nil]; exact h) hp fun Q μ z => by rw [hk] at z; cases z.1).imp fun c d μ' r => by
  obtain ⟨_, ⟨_, dd, rfl, rfl, rfl⟩, rfl⟩ := r
  exact ⟨dd, rfl, rfl, List.append_nil _⟩
theorem spTI_calm {P : Program} {w : World} {mg : Str → Option Value} {base : Heap} {CX : CXT} {k : Nat} {f : Addr} {fd : FuncData} {ps : List Str} (F : FnOk P w K mg base CX k f fd ps (spTI A m pre ok B c ix)) : FnOk P w K mg base CX k f fd ps (spTG A m pre ok B) :=
  F.imp fun vs H Q E h => by
    obtain ⟨x, G, M, Fr, m1, ⟨p1, p2, p3, p4⟩, q⟩ := h
    exact ⟨x, G, M, Fr, m1, ⟨p1, p2, p3⟩, fun v G' M' H' e' m' ⟨Q', μ', ⟨_, r0⟩, r1⟩ => q v G' M' H' e' m' ⟨Q', μ', r0, r1⟩, fun c d G' M' H' _ _ ⟨_, z, _⟩ => by
      have z := z.1
      rw [p4] at z
      cases z⟩
end
section
variable {E : XK} {K : PySem.W.Frag} {δ : En} {μ μ1 : Mp} {P : PY} {ix : Int}
/-- the body raises this, with an index -/
theorem s_tryEI {i : Nat} {tw : WX → TS} {ts : Addr → Value → Option Addr → TS} {c : Value} {Wout : WX} {C : Addr} (hB : ∀ W : WX, SS (WE W) (tw W) δ μ { P with ex := ErI C ix μ1 }) (hm : PySem.W.exmOne K (.ref C) c = some true)
    (hS : ∀ a dd, S1 E (ts a (.ref C) (some dd)) (δ.set i (some (Av a))) ((dd, XI ix) :: μ1) { P with nx := fun δ' μ' => P.nx (δ'.set i none) μ', bk := fun δ' μ' => P.bk (δ'.set i none) μ', ct := fun δ' μ' => P.ct (δ'.set i none) μ' }) : S1 E (fun D σ H => tw (wAs K c i ts Wout D) D σ H) δ μ P :=
  s_tryS (ErI C ix μ1) hB fun cls d a μ2 ⟨dd, h1, h2, h3⟩ => by subst h1 h2 h3; exact ⟨hm, hS a dd⟩
end
section
variable {K : PySem.W.Frag} {ta : TE} {δ : En} {μ rest : Mp} {ix : Int}
theorem e_isCd {a Dc dd : Addr} {b : Bool} {c : V} {cv : Value} (hD : ExcC K Dc) (h : E1 ta δ μ (Av a) ((dd, XI ix) :: rest)) (hcv : ∀ u, RelV c u → u = cv) (hk : PySem.W.kitOne K (.ref Dc) cv = some b) : E1 (tCB (rIsCd K (.ref Dc) (some dd) a) (tCons ta (tCons (tC c) tNil))) δ μ (D K (.bool b)) ((dd, XI ix) :: rest) :=
  e_CB (a_cons h (a_cons (e_cst (P := Cv c) fun _ => rfl) a_nil)) fun G H F M vs m mm p Q q => by
    match vs, p, M, mm with
    | [v, w], ⟨p1, p2, _⟩, (b0, o) :: M3, ⟨⟨h3, h4⟩, h6⟩ =>
      have p1 : v = .ref a := p1
      have p2 : w = c := p2
      have h3 : b0 = dd := h3
      have h4 : o = .xd [("index", .int ix)] := h4
      subst p1 p2 h3 h4
      exact ⟨Dc, b0, _, rfl, rfl, (m.at_ (b0, .xd [("index", .int ix)]) (by simp)).1, hD, w, cv, b, rfl, hcv, hk, q _ G _ H (Ex.refl _) m (.bl _) ⟨⟨rfl, rfl⟩, h6⟩⟩
theorem e_isCTd {a Dc dd : Addr} {b : Bool} {tt : TA} {cs : List V} {us : List Value} (hD : ExcC K Dc) (h : E1 ta δ μ (Av a) ((dd, XI ix) :: rest)) (ht : ∀ σ H Q, Q cs H → tt σ H Q) (hl : cs.length ≤ 1000) (hcs : Paired ClsV cs us) (hk : PySem.W.kitAny K (.ref Dc) us = some b) : E1 (tCB (rIsCTd K (.ref Dc) (some dd) a) (tCons ta (tCons (tTup tt) tNil))) δ μ (D K (.bool b)) ((dd, XI ix) :: rest) :=
  e_CB (a_cons h (a_cons (e_tupP (a_cs ht) (by simpa using hl)) a_nil)) fun G H F M vs m mm p Q q => by
    match vs, p, M, mm with
    | [v, w], ⟨p1, p2, _⟩, (b0, o) :: M3, ⟨⟨h3, h4⟩, h6⟩ =>
      have p1 : v = .ref a := p1
      have h3 : b0 = dd := h3
      have h4 : o = .xd [("index", .int ix)] := h4
      subst p1 h3 h4
      obtain ⟨tp, ws, rfl, h7, h8⟩ := p2
      have := ap_cv h8
      subst this
      exact ⟨Dc, b0, _, rfl, rfl, (m.at_ (b0, .xd [("index", .int ix)]) (by simp)).1, hD, tp, ws, us, b, rfl, m.ex _ _ h7, hcs, hk, q _ G _ H (Ex.refl _) m (.bl _) ⟨⟨rfl, rfl⟩, h6⟩⟩
end
end SY
set_option Elab.async false
set_option linter.all false
set_option maxRecDepth 100000
namespace SY
open PySem PySem.Spec L2 SX
/-- the law's own figures that are taken -/
def lawTaken (b : Int) (cs : List (List Int)) (i : Nat) : Deed → List Int
  | .read j d => (cs.getD i []).set j.toNat (((cs.getD i []).getD j.toNat 0 + d) % b)
  | .copy j => (cs.getD i []).set j.toNat ((cs.getD (i - 1) []).getD j.toNat 0)
  | _ => cs.getD i []
theorem sum_set : ∀ (l : List Int) (j : Nat) (v : Int), j < l.length → (l.set j v).sum = l.sum - l.getD j 0 + v
  | [], j, v, h => by simp at h
  | x :: l, 0, v, _ => by simp; omega
  | x :: l, j + 1, v, h => by
    have ih := sum_set l j v (by simpa using h)
    simp only [List.set_cons_succ, List.sum_cons, ih, List.getD_cons_succ]
    omega
theorem lawTaken_sum {b : Int} {cs : List (List Int)} {i : Nat} {x : Deed} (h : RowOk (cs.getD i []).length (some x)) : (lawTaken b cs i x).sum = sumTaken b (cs.getD i []) (copiedV cs i x) (some x) := by
  cases x <;> first | rfl | (obtain ⟨h1, h2⟩ := h; exact sum_set _ _ _ (by omega))
/-- the law's own doing of column i -/
def lawStep (b : Int) (cs : List (List Int)) (i : Nat) (x : Deed) (c : Int) : Option (List Int × Int) :=
  if isCopy x = true ∧ i = 0 ∨ x = .swap ∧ i + 1 = cs.length then none
  else doSum b (sumTaken b (cs.getD i []) (copiedV cs i x) (some x)) c (some x)
/-- a deed of the sheet, or none -/
def DeedOk (b r : Int) (x : Deed) : Prop := x = .right ∨ x ∈ allDeeds b r
theorem rowOk_ok {b r : Int} {x : Deed} {n : Nat} (h : DeedOk b r x) (hn : r ≤ n) : RowOk n (some x) := by
  rcases h with rfl | h
  · trivial
  · exact rowOk_all h hn
theorem _root_.SX.GoodSh.row {b r : Int} {cs : List (List Int)} (g : GoodSh b r cs) {n : Nat} (hn : n < cs.length) : GoodCol b r (cs.getD n []) := by
  have : cs.getD n [] = cs[n] := by simp [List.getD, List.getElem?_eq_getElem hn]
  rw [this]
  exact g.col _ (List.getElem_mem hn)
theorem sum_nn : ∀ {l : List Int}, (∀ x ∈ l, 0 ≤ x) → 0 ≤ l.sum
  | [], _ => by simp
  | x :: l, h => by
    have := sum_nn (l := l) fun y hy => h y (List.mem_cons_of_mem _ hy)
    have := h x List.mem_cons_self
    simp
    omega
theorem lawTaken_nn {b r : Int} {cs : List (List Int)} (g : GoodSh b r cs) {i : Nat} {x : Deed} (hi : i < cs.length) (hc : isCopy x = true → 0 < i) (hx : DeedOk b r x) : 0 ≤ (lawTaken b cs i x).sum := by
  refine sum_nn fun y hy => ?_
  have h1 := g.row hi
  cases x with
  | read j d =>
    rcases List.mem_or_eq_of_mem_set hy with h | rfl
    · exact (h1.2 _ h).1
    · exact Int.emod_nonneg _ (by have := g.b2; omega)
  | copy j =>
    rcases List.mem_or_eq_of_mem_set hy with h | rfl
    · exact (h1.2 _ h).1
    · have h2 := g.row (n := i - 1) (by omega)
      have hj : j.toNat < (cs.getD (i - 1) []).length := by
        have hr := rowOk_ok (n := (cs.getD (i - 1) []).length) hx (by rw [h2.1]; exact Int.le_refl _)
        have hr : 0 ≤ j ∧ j < ((cs.getD (i - 1) []).length : Int) := hr
        omega
      generalize cs.getD (i - 1) [] = q at h2 hj ⊢
      have : q.getD j.toNat 0 ∈ q := by
        simp [List.getD, List.getElem?_eq_getElem hj]
      exact (h2.2 _ this).1
  | _ => exact (h1.2 _ hy).1
end SY
namespace SY
open PySem PySem.Spec L2 SX
def deedAt (w d j : Int) : Deed := if w = 0 then .off d else if w = 1 then .read j d else if w = 2 then .copy j else [Deed.forget, .again, .swap, .out, .twice].getD (w - 3).toNat .forget
def deedV (D : Deck) (b r : Int) : Deed := deedAt (dv D 8) (1 + dv (dn D 8) (b - 1)) (dv (dn (dn D 8) (b - 1)) r)
def deedDk (D : Deck) (b r : Int) : Deck := dn (dn (dn D 8) (b - 1)) r
theorem deedAt_mem {w d j b r : Int} (hw : 0 ≤ w ∧ w < 8) (hd : 1 ≤ d ∧ d < b) (hj : 0 ≤ j ∧ j < r) : deedAt w d j ∈ allDeeds b r := by
  have : w = 0 ∨ w = 1 ∨ w = 2 ∨ w = 3 ∨ w = 4 ∨ w = 5 ∨ w = 6 ∨ w = 7 := by omega
  rw [mem_all]
  rcases this with rfl | rfl | rfl | rfl | rfl | rfl | rfl | rfl
  · exact .inr (.inr (.inl ⟨d, rfl, hd⟩))
  · exact .inr (.inr (.inr (.inl ⟨j, d, rfl, hj.1, hj.2, hd.1, hd.2⟩)))
  · exact .inr (.inr (.inr (.inr (.inl ⟨j, rfl, hj⟩))))
  · exact .inl rfl
  · exact .inr (.inl rfl)
  · exact .inr (.inr (.inr (.inr (.inr (.inl rfl)))))
  · exact .inr (.inr (.inr (.inr (.inr (.inr (.inl rfl))))))
  · exact .inr (.inr (.inr (.inr (.inr (.inr (.inr rfl))))))
theorem deedV_mem {D : Deck} {b r : Int} (hb : 2 ≤ b) (hr : 1 ≤ r) : deedV D b r ∈ allDeeds b r :=
  deedAt_mem ⟨dv_lo (by decide), dv_hi (by decide)⟩ (by
    have h1 : 0 ≤ dv (dn D 8) (b - 1) := dv_lo (by omega)
    have h2 : dv (dn D 8) (b - 1) < b - 1 := dv_hi (by omega)
    omega) ⟨dv_lo (by omega), dv_hi (by omega)⟩
end SY
namespace SY
open PySem PySem.Spec L2 SX
theorem Le.trans {a b c : En} (h1 : Le a b) (h2 : Le b c) : Le a c := ⟨h1.1.trans h2.1, fun k P h => by
  obtain ⟨P1, h3, h4⟩ := h2.2 k P h
  obtain ⟨P0, h5, h6⟩ := h1.2 k P1 h3
  exact ⟨P0, h5, fun G v z => h4 G v (h6 G v z)⟩⟩
def planQ (n : Int) (D : Deck) (i : Nat) (ds : List Deed) : Bool := decide (dv D n = 0) && (decide ((i : Int) = 0) || !decide ((ds.getD ((i : Int) - 1).toNat .right).word = "swap"))
def planX (b r n : Int) (D : Deck) (i : Nat) (ds : List Deed) : Deed := if planQ n D i ds = true then deedV (dn D n) b r else .right
def planD (b r n : Int) (D : Deck) (i : Nat) (ds : List Deed) : Deck := if planQ n D i ds = true then deedDk (dn D n) b r else dn D n
def planY (b : Int) (cs : List (List Int)) (i : Nat) (x : Deed) (c : Int) : Deed := if lawStep b cs i x c = none then .right else x
def planS (b r n : Int) (cs : List (List Int)) (D : Deck) : Nat → List Deed × Int × Deck
  | 0 => ([], 0, D)
  | i + 1 =>
    let s := planS b r n cs D i
    let y := planY b cs i (planX b r n s.2.2 i s.1) s.2.1
    (s.1 ++ [y], ((lawStep b cs i y s.2.1).getD ([], 0)).2, planD b r n s.2.2 i s.1)
theorem planX_ok {b r n : Int} {D : Deck} {i : Nat} {ds : List Deed} (hb : 2 ≤ b) (hr : 1 ≤ r) : DeedOk b r (planX b r n D i ds) := by
  unfold planX
  split
  · exact .inr (deedV_mem hb hr)
  · exact .inl rfl
theorem planY_ok {b r c : Int} {cs : List (List Int)} {i : Nat} {x : Deed} (h : DeedOk b r x) : DeedOk b r (planY b cs i x c) := by
  unfold planY
  split
  · exact .inl rfl
  · exact h
theorem step_right {b c : Int} {cs : List (List Int)} {i : Nat} : lawStep b cs i .right c = some ([((cs.getD i []).sum + c) % b], ((cs.getD i []).sum + c) / b) := rfl
theorem planY_some {b c : Int} {cs : List (List Int)} {i : Nat} {x : Deed} : ∃ w, lawStep b cs i (planY b cs i x c) c = some w := by
  unfold planY
  split
  · exact ⟨_, step_right⟩
  · rename_i h
    cases h2 : lawStep b cs i x c with
    | none => exact absurd h2 h
    | some w => exact ⟨w, rfl⟩
theorem step_nn {b r c : Int} {cs : List (List Int)} {i : Nat} {x : Deed} {w : List Int × Int} (g : GoodSh b r cs) (hi : i < cs.length) (hx : DeedOk b r x) (hc : 0 ≤ c) (h : lawStep b cs i x c = some w) : 0 ≤ w.2 := by
  have hg := g.row hi
  have hr := rowOk_ok (n := (cs.getD i []).length) hx (by rw [hg.1]; exact Int.le_refl _)
  have hb := g.b2
  unfold lawStep at h
  split at h
  · cases h
  · rename_i hno
    rw [← lawTaken_sum hr] at h
    have hcp : isCopy x = true → 0 < i := fun h1 => by
      by_cases h0 : i = 0
      · exact absurd (.inl ⟨h1, h0⟩) hno
      · omega
    have hnn := lawTaken_nn g hi hcp hx
    generalize (lawTaken b cs i x).sum = t at h hnn
    have h1 : 0 ≤ (t + c) / b := Int.ediv_nonneg (by omega) (by omega)
    have h2 : 0 ≤ (t + (t + c) / b) / b := Int.ediv_nonneg (by omega) (by omega)
    cases x <;> simp only [doSum] at h <;> first | (cases h; exact h1) | (cases h; exact h2) | (cases h; exact hc) | (cases h; show 0 ≤ _ + 1; omega) | (split at h <;> cases h; exact Int.le_refl _)
theorem planS_ok {b r n : Int} {cs : List (List Int)} {D : Deck} (g : GoodSh b r cs) : ∀ i, i ≤ cs.length → (planS b r n cs D i).1.length = i ∧ 0 ≤ (planS b r n cs D i).2.1 ∧ ∀ x ∈ (planS b r n cs D i).1, DeedOk b r x
  | 0, _ => ⟨rfl, Int.le_refl _, fun _ h => by cases h⟩
  | i + 1, hi => by
    obtain ⟨h1, h2, h3⟩ := planS_ok (n := n) (D := D) g i (by omega)
    have hx := planX_ok (n := n) (D := (planS b r n cs D i).2.2) (i := i) (ds := (planS b r n cs D i).1) g.b2 g.r1
    have hy := planY_ok (c := (planS b r n cs D i).2.1) (cs := cs) (i := i) hx
    refine ⟨by simp [planS, h1], ?_, ?_⟩
    · obtain ⟨w, hw⟩ := planY_some (b := b) (c := (planS b r n cs D i).2.1) (cs := cs) (i := i) (x := planX b r n (planS b r n cs D i).2.2 i (planS b r n cs D i).1)
      simp only [planS, hw, Option.getD_some]
      exact step_nn g (by omega) hy h2 hw
    · intro x hx
      simp only [planS, List.mem_append, List.mem_singleton] at hx
      rcases hx with hx | rfl
      · exact h3 x hx
      · exact hy
end SY
set_option Elab.async false
set_option linter.all false
set_option maxRecDepth 100000
namespace SY
open PySem PySem.Spec L2 SX
def dAt (ds : List Deed) (i : Nat) : Deed := ds.getD i .right
def slipsFrom (ds : List Deed) (k : Nat) : Nat → List (Int × Deed)
  | 0 => []
  | n + 1 => if dAt ds k = .right then slipsFrom ds (k + 1) n else ((k : Int), dAt ds k) :: slipsFrom ds (k + 1) n
def slipsOf (ds : List Deed) : List (Int × Deed) := ((List.range ds.length).filter fun i => !decide (dAt ds i = .right)).map fun (i : Nat) => ((i : Int), dAt ds i)
theorem slipsFrom_eq (ds : List Deed) : ∀ (n k : Nat), slipsFrom ds k n = ((List.range' k n).filter fun i => !decide (dAt ds i = .right)).map fun (i : Nat) => ((i : Int), dAt ds i)
  | 0, _ => rfl
  | n + 1, k => by
    rw [List.range'_succ, List.filter_cons]
    unfold slipsFrom
    by_cases h : dAt ds k = .right
    · rw [if_pos h, if_neg (by simp [h]), slipsFrom_eq ds n]
    · rw [if_neg h, if_pos (by simp [h]), slipsFrom_eq ds n]
      rfl
theorem slipsOf_eq (ds : List Deed) : slipsOf ds = slipsFrom ds 0 ds.length := by
  rw [slipsFrom_eq, ← List.range_eq_range']
  rfl
/-- figures, the carry, what waits behind i columns -/
def addS (b : Int) (cs : List (List Int)) (ds : List Deed) : Nat → Option (List Int × Int × List Int)
  | 0 => some ([], 0, [])
  | i + 1 => (addS b cs ds i).bind fun s => (lawStep b cs i (dAt ds i) s.2.1).map fun w =>
      if s.2.2 ≠ [] then (s.1 ++ w.1 ++ s.2.2, w.2, []) else if dAt ds i = .swap then (s.1, w.2, w.1) else (s.1 ++ w.1, w.2, [])
theorem addS_some {b : Int} {cs : List (List Int)} {ds : List Deed} {i : Nat} {s : List Int × Int × List Int} (h : addS b cs ds (i + 1) = some s) :
    ∃ F c W w, addS b cs ds i = some (F, c, W) ∧ lawStep b cs i (dAt ds i) c = some w ∧ s = if W ≠ [] then (F ++ w.1 ++ W, w.2, []) else if dAt ds i = .swap then (F, w.2, w.1) else (F ++ w.1, w.2, []) := by
  simp only [addS, Option.bind_eq_some_iff, Option.map_eq_some_iff] at h
  obtain ⟨⟨F, c, W⟩, h1, w, h2, h3⟩ := h
  exact ⟨F, c, W, w, h1, h2, h3.symm⟩
theorem addS_pre {b : Int} {cs : List (List Int)} {ds : List Deed} {n : Nat} {s : List Int × Int × List Int} (h : addS b cs ds n = some s) : ∀ i, i ≤ n → ∃ t, addS b cs ds i = some t := by
  induction n generalizing s with
  | zero =>
    intro i hi
    have : i = 0 := by omega
    subst this
    exact ⟨s, h⟩
  | succ n ih =>
    intro i hi
    by_cases h0 : i = n + 1
    · subst h0
      exact ⟨s, h⟩
    · obtain ⟨F, c, W, w, h1, _⟩ := addS_some h
      exact ih h1 i (by omega)
theorem addS_none {b : Int} {cs : List (List Int)} {ds : List Deed} {i n : Nat} (hi : i ≤ n) (h : addS b cs ds i = none) : addS b cs ds n = none := by
  cases h2 : addS b cs ds n with
  | none => rfl
  | some s =>
    obtain ⟨t, ht⟩ := addS_pre h2 i hi
    rw [ht] at h
    cases h
section
variable {b r : Int} {cs : List (List Int)} {ds : List Deed} {n : Nat}
theorem dropTake {α : Type} {xs : List α} {lo k : Nat} (hk : k < xs.length) (hlo : lo ≤ k) {d : α} : (xs.take (k + 1)).drop lo = (xs.take k).drop lo ++ [xs.getD k d] := by
  rw [List.take_add_one, List.getElem?_eq_getElem hk, Option.toList, List.drop_append_of_le_length (by rw [List.length_take]; omega)]
  simp [List.getD, List.getElem?_eq_getElem hk]
/-- columns done rightly -/
theorem addS_rights {F : List Int} {c : Int} {lo : Nat} (h0 : addS b cs ds lo = some (F, c, [])) : ∀ k, lo ≤ k → k ≤ cs.length → (∀ j, lo ≤ j → j < k → dAt ds j = .right) →
    addS b cs ds k = some (F ++ (doCols b ((cs.take k).drop lo) c).1, (doCols b ((cs.take k).drop lo) c).2, []) := by
  intro k hk hn hr
  induction k with
  | zero =>
    have : lo = 0 := by omega
    subst this
    rw [h0]
    simp [doCols]
  | succ k ih =>
    by_cases hl : lo = k + 1
    · subst hl
      rw [h0]
      have : (cs.take (k + 1)).drop (k + 1) = [] := List.drop_eq_nil_of_le (by rw [List.length_take]; omega)
      rw [this]
      simp [doCols]
    · have ih := ih (by omega) (by omega) fun j h1 h2 => hr j h1 (by omega)
      have hd := hr k (by omega) (by omega)
      rw [dropTake (by omega) (by omega) (d := []), doCols_snoc]
      simp only [addS, ih, Option.bind_some, hd, step_right, Option.map_some]
      simp
theorem slip_step {i : Nat} {x : Deed} {c : Int} (hx : x ≠ .swap) : doSlip b cs i c x = lawStep b cs i x c := by
  unfold doSlip lawStep
  rw [if_neg hx]
theorem add_go (hl : n = cs.length) (hd : ∀ i, i < n → dAt ds i = .right ∨ dAt ds i ∈ allDeeds b r) (hadj : ∀ i, i + 1 < n → dAt ds i = .swap → dAt ds (i + 1) = .right) {Fn : List Int} {cn : Int} {Wn : List Int} (h : addS b cs ds n = some (Fn, cn, Wn)) :
    ∀ (m k lo : Nat) (F : List Int) (c : Int), k + m = n → lo ≤ k → (∀ j, lo ≤ j → j < k → dAt ds j = .right) → addS b cs ds lo = some (F, c, []) → Wn = [] ∧ ∃ G, addV b r cs (slipsFrom ds k m) lo c = some (G, cn) ∧ F ++ G = Fn := by
  intro m
  induction m using Nat.strongRecOn with
  | ind m ih =>
  intro k lo F c hk hlo hr h0
  cases m with
  | zero =>
    have : k = n := by omega
    subst this
    have h1 := addS_rights h0 k hlo (by omega) hr
    rw [h] at h1
    rw [hl, List.take_length] at h1
    injection h1 with h1
    injection h1 with e1 e2
    injection e2 with e2 e3
    refine ⟨e3, (doCols b (cs.drop lo) c).1, ?_, e1.symm⟩
    rw [e2]
    rfl
  | succ m =>
    by_cases hk0 : dAt ds k = .right
    · unfold slipsFrom
      rw [if_pos hk0]
      refine ih m (by omega) (k + 1) lo F c (by omega) (by omega) (fun j h1 h2 => ?_) h0
      by_cases hj : j = k
      · rw [hj]; exact hk0
      · exact hr j h1 (by omega)
    · unfold slipsFrom
      rw [if_neg hk0]
      have hmem : dAt ds k ∈ allDeeds b r := (hd k (by omega)).resolve_left hk0
      have hk1 := addS_rights h0 k hlo (by omega) hr
      obtain ⟨t, ht⟩ := addS_pre h (k + 1) (by omega)
      obtain ⟨F', c', W', w, h2, h3, rfl⟩ := addS_some ht
      rw [hk1] at h2
      injection h2 with h2
      injection h2 with e1 e2
      injection e2 with e2 e3
      subst e1 e2 e3
      rw [if_neg (by simp)] at ht
      unfold addV
      rw [if_pos ⟨by omega, by omega, hmem⟩, Int.toNat_natCast]
      by_cases hs : dAt ds k = .swap
      · rw [if_pos hs] at ht
        rw [hs] at h3 ⊢
        have hne : ¬ (k + 1 = cs.length) := fun e => by
          unfold lawStep at h3
          rw [if_pos (.inr ⟨rfl, e⟩)] at h3
          cases h3
        have hr1 := hadj k (by omega) hs
        have h3' : w = ([((cs.getD k []).sum + (doCols b ((cs.take k).drop lo) c).2) % b], ((cs.getD k []).sum + (doCols b ((cs.take k).drop lo) c).2) / b) := by
          unfold lawStep at h3
          rw [if_neg (by rintro (⟨z, _⟩ | ⟨_, z⟩); · cases z
                         · exact hne z)] at h3
          exact (Option.some.inj h3).symm
        subst h3'
        have ht4 : addS b cs ds (k + 2) = some (F ++ (doCols b ((cs.take k).drop lo) c).1 ++ [((cs.getD (k + 1) []).sum + ((cs.getD k []).sum + (doCols b ((cs.take k).drop lo) c).2) / b) % b] ++ [((cs.getD k []).sum + (doCols b ((cs.take k).drop lo) c).2) % b], ((cs.getD (k + 1) []).sum + ((cs.getD k []).sum + (doCols b ((cs.take k).drop lo) c).2) / b) / b, []) := by
          rw [show k + 2 = k + 1 + 1 from rfl, addS, addS, hk1]
          simp only [Option.bind_some, hs, h3, Option.map_some]
          simp only [hr1, step_right]
          simp
        cases m with
        | zero => omega
        | succ m =>
        have hsl : slipsFrom ds (k + 1) (m + 1) = slipsFrom ds (k + 2) m := by
          conv => lhs; unfold slipsFrom
          rw [if_pos hr1]
        obtain ⟨hW, G, hG, hFG⟩ := ih m (by omega) (k + 2) (k + 2) _ _ (by omega) (Nat.le_refl _) (fun j h1 h2 => by omega) ht4
        refine ⟨hW, (doCols b ((cs.take k).drop lo) c).1 ++ [((cs.getD (k + 1) []).sum + ((cs.getD k []).sum + (doCols b ((cs.take k).drop lo) c).2) / b) % b, ((cs.getD k []).sum + (doCols b ((cs.take k).drop lo) c).2) % b] ++ G, ?_, ?_⟩
        · have hcut : (cs.take (k + 2)).drop k = [cs.getD k [], cs.getD (k + 1) []] := by
            rw [dropTake (by omega) (by omega) (d := []), dropTake (by omega) (by omega) (d := [])]
            have : (cs.take k).drop k = [] := List.drop_eq_nil_of_le (by rw [List.length_take]; omega)
            rw [this]
            rfl
          have hds : doSlip b cs k (doCols b ((cs.take k).drop lo) c).2 .swap = some ([((cs.getD (k + 1) []).sum + ((cs.getD k []).sum + (doCols b ((cs.take k).drop lo) c).2) / b) % b, ((cs.getD k []).sum + (doCols b ((cs.take k).drop lo) c).2) % b], ((cs.getD (k + 1) []).sum + ((cs.getD k []).sum + (doCols b ((cs.take k).drop lo) c).2) / b) / b) := by
            unfold doSlip
            rw [if_neg (by rintro (⟨z, _⟩ | ⟨_, z⟩); · cases z
                           · exact hne z), if_pos rfl, hcut]
            rfl
          rw [hds, Option.bind_some, if_pos rfl, hsl, hG]
          rfl
        · rw [← hFG]
          simp
      · rw [if_neg hs] at ht
        rw [slip_step hs, h3, Option.bind_some, if_neg hs]
        obtain ⟨hW, G, hG, hFG⟩ := ih m (by omega) (k + 1) (k + 1) _ _ (by omega) (Nat.le_refl _) (fun j h1 h2 => by omega) ht
        refine ⟨hW, _, by rw [hG]; rfl, ?_⟩
        rw [← hFG]
        simp
end
end SY
namespace SY
open PySem PySem.Spec L2 SX
section
variable {b r n : Int} {cs : List (List Int)} {D : Deck}
theorem planS_len : ∀ i, (planS b r n cs D i).1.length = i
  | 0 => rfl
  | i + 1 => by simp [planS, planS_len i]
theorem getD_app_r {α : Type} {xs : List α} {y d : α} {i : Nat} (h : xs.length = i) : (xs ++ [y]).getD i d = y := by
  subst h
  simp [List.getD]
theorem getD_app_l {α : Type} {xs ys : List α} {d : α} {i : Nat} (h : i < xs.length) : (xs ++ ys).getD i d = xs.getD i d := by
  simp [List.getD, List.getElem?_append_left h]
theorem planS_at : ∀ (m i : Nat), i < m → dAt (planS b r n cs D m).1 i = planY b cs i (planX b r n (planS b r n cs D i).2.2 i (planS b r n cs D i).1) (planS b r n cs D i).2.1
  | 0, _, h => absurd h (Nat.not_lt_zero _)
  | m + 1, i, h => by
    unfold dAt
    simp only [planS]
    by_cases hi : i = m
    · subst hi
      exact getD_app_r (planS_len i)
    · rw [getD_app_l (by rw [planS_len]; omega)]
      exact planS_at m i (by omega)
theorem planS_pre {m i : Nat} (h : i ≤ m) : ∀ j, j < i → dAt (planS b r n cs D m).1 j = dAt (planS b r n cs D i).1 j := fun j hj => by
  rw [planS_at m j (by omega), planS_at i j hj]
theorem planS_add : ∀ i, i ≤ cs.length → ∃ F W, addS b cs (planS b r n cs D cs.length).1 i = some (F, (planS b r n cs D i).2.1, W)
  | 0, _ => ⟨[], [], rfl⟩
  | i + 1, hi => by
    obtain ⟨F, W, h⟩ := planS_add i (by omega)
    obtain ⟨w, hw⟩ := planY_some (b := b) (c := (planS b r n cs D i).2.1) (cs := cs) (i := i) (x := planX b r n (planS b r n cs D i).2.2 i (planS b r n cs D i).1)
    have hc : (planS b r n cs D (i + 1)).2.1 = w.2 := by simp only [planS, hw, Option.getD_some]
    simp only [addS, h, Option.bind_some, planS_at _ i hi, hw, Option.map_some, hc]
    split
    · exact ⟨_, _, rfl⟩
    · split
      · exact ⟨_, _, rfl⟩
      · exact ⟨_, _, rfl⟩
theorem planS_adj (i : Nat) (hi : i + 1 < cs.length) (h : dAt (planS b r n cs D cs.length).1 i = .swap) : dAt (planS b r n cs D cs.length).1 (i + 1) = .right := by
  rw [planS_at _ (i + 1) hi]
  have hx : planX b r n (planS b r n cs D (i + 1)).2.2 (i + 1) (planS b r n cs D (i + 1)).1 = .right := by
    unfold planX
    rw [if_neg]
    unfold planQ
    rw [planS_pre (i := i + 1) (by omega) i (by omega)] at h
    have h2 : (((i + 1 : Nat) : Int) - 1).toNat = i := by omega
    rw [h2, show (planS b r n cs D (i + 1)).1.getD i .right = .swap from h, decide_eq_false (show ¬ ((i + 1 : Nat) : Int) = 0 by omega)]
    simp [Deed.word]
  rw [hx]
  unfold planY
  split <;> rfl
theorem dAt_mem {ds : List Deed} {i : Nat} (h : i < ds.length) : dAt ds i ∈ ds := by
  unfold dAt
  simp [List.getD, List.getElem?_eq_getElem h]
/-- planned slips: what the law adds is what the program writes -/
theorem plan_add (g : GoodSh b r cs) : ∃ F c, addS b cs (planS b r n cs D cs.length).1 cs.length = some (F, c, []) ∧ addV b r cs (slipsOf (planS b r n cs D cs.length).1) 0 0 = some (F, c) := by
  obtain ⟨F, W, h⟩ := planS_add (b := b) (r := r) (n := n) (D := D) cs.length (Nat.le_refl _)
  obtain ⟨h1, h2, h3⟩ := planS_ok (n := n) (D := D) g cs.length (Nat.le_refl _)
  obtain ⟨hW, G, hG, hF⟩ := add_go (r := r) rfl (fun i hi => h3 _ (dAt_mem (by rw [h1]; exact hi))) planS_adj h cs.length 0 0 [] 0 (by omega) (Nat.le_refl _) (fun j h1 h2 => by omega) rfl
  subst hW
  rw [List.nil_append] at hF
  subst hF
  refine ⟨G, _, h, ?_⟩
  rw [slipsOf_eq, h1]
  exact hG
end
end SY
namespace SY
open PySem PySem.Spec L2 SX
def addR : Option (List Int × Int × List Int) → PyData
  | none => .none
  | some (F, c, _) => .tuple [.list (F.map .int), .int c]
theorem step_len {b c : Int} {cs : List (List Int)} {i : Nat} {x : Deed} {w : List Int × Int} (h : lawStep b cs i x c = some w) : w.1.length ≤ 2 := by
  unfold lawStep at h
  split at h
  · cases h
  · exact doSum_len h
theorem addS_ok {b r : Int} {cs : List (List Int)} {ds : List Deed} (g : GoodSh b r cs) (hd : ∀ i, i < cs.length → DeedOk b r (dAt ds i)) : ∀ i, i ≤ cs.length → ∀ {F c W}, addS b cs ds i = some (F, c, W) → 0 ≤ c ∧ F.length + W.length ≤ 2 * i
  | 0, _, F, c, W, h => by
    cases h
    exact ⟨Int.le_refl _, Nat.le_refl _⟩
  | i + 1, hi, F, c, W, h => by
    obtain ⟨F', c', W', w, h1, h2, h3⟩ := addS_some h
    obtain ⟨h4, h5⟩ := addS_ok g hd i (by omega) h1
    have h6 := step_nn g (by omega) (hd i (by omega)) h4 h2
    have h7 := step_len h2
    split at h3
    · cases h3
      refine ⟨h6, ?_⟩
      simp only [List.length_append, List.length_nil]
      omega
    · split at h3
      · cases h3
        exact ⟨h6, by omega⟩
      · cases h3
        refine ⟨h6, ?_⟩
        simp only [List.length_append, List.length_nil]
        omega
end SY
namespace SY
theorem slipsOf_len (ds : List Deed) : (slipsOf ds).length ≤ ds.length := by
  unfold slipsOf
  rw [List.length_map]
  exact Nat.le_trans (List.length_filter_le _ _) (by rw [List.length_range]; exact Nat.le_refl _)
end SY
set_option Elab.async false
set_option linter.all false
set_option maxRecDepth 100000
namespace SY
open PySem PySem.Spec L2 SX
end SY
namespace SY
open PySem PySem.Spec L2 SX
end SY
namespace SY
open PySem PySem.Spec L2 SX
end SY
set_option Elab.async false
set_option linter.all false
set_option maxRecDepth 100000
namespace SY
open PySem PySem.Spec L2 SX
structure Wr where
  figs : List Int
  wait : Option Int
  carry : Int
def deedOn (sl : List (Int × Deed)) (a : Int) : Deed := ((sl.find? fun s => decide (s.1 = a)).map fun s => s.2).getD .right
def lawW1 (b f c : Int) (x : Deed) (W : Wr) : Wr :=
  match W.wait with
  | some w => ⟨W.figs ++ [f, w], none, c⟩
  | none => match x with
    | .swap => ⟨W.figs, some f, c⟩
    | .off d => ⟨W.figs ++ [(f + d) % b], none, c⟩
    | _ => ⟨W.figs ++ [f], none, c⟩
def lawW (b t : Int) (x : Deed) (W : Wr) : Wr :=
  match x with
  | .out => W
  | .twice => let W1 := lawW1 b ((t + W.carry) % b) ((t + W.carry) / b) x W; ⟨W1.figs ++ [(t + (t + W.carry) / b) % b], W1.wait, (t + (t + W.carry) / b) / b⟩
  | .forget => let W1 := lawW1 b ((t + W.carry) % b) ((t + W.carry) / b) x W; ⟨W1.figs, W1.wait, 0⟩
  | .again => let W1 := lawW1 b ((t + W.carry) % b) ((t + W.carry) / b) x W; ⟨W1.figs, W1.wait, (t + W.carry) / b + 1⟩
  | x => lawW1 b ((t + W.carry) % b) ((t + W.carry) / b) x W
def wrL (b : Int) (cs : List (List Int)) (sl : List (Int × Deed)) : Nat → Wr
  | 0 => ⟨[], none, 0⟩
  | n + 1 => lawW b (lawTaken b cs n (deedOn sl n)).sum (deedOn sl n) (wrL b cs sl n)
/-- the law's own word on a deed, behind these columns -/
def posW (b m : Int) (cs : List (List Int)) (sl : List (Int × Deed)) (c : List Int) (x : Deed) : Bool :=
  if ((!isNon (oiD (wrL b cs sl cs.length).wait)) || decide ((sl.length : Int) ≥ m)) = true then false
  else match x with
    | .copy _ => decide ((cs.length : Int) > 0)
    | .forget => decide (c.sum + (wrL b cs sl cs.length).carry ≥ b)
    | _ => true
end SY
set_option Elab.async false
set_option linter.all false
set_option maxRecDepth 100000
namespace SY
open PySem PySem.Spec L2 SX
section
variable {K : PySem.W.Frag} {te : TE} {δ : En} {μ μa μb : Mp} {P : Pr} {ds : List PyData} {ad : Addr}
/-- what is owned stays just as it is -/
def E1s (te : TE) (δ : En) (μ : Mp) (P : Pr) : Prop := ∀ σ G M, Sl G σ δ → Mm G M μ → Ev te σ G M (fun G' v M' => P.p G' v ∧ M' = M)
theorem E1s.e (h : E1s te δ μ P) : E1 te δ μ P μ := fun σ G M s m G1 H F e m1 Q q => h σ G M s m G1 H F e m1 Q fun v G2 M2 H2 e2 m2 r => by
  obtain ⟨r1, rfl⟩ := r
  exact q v G2 M2 H2 e2 m2 ⟨r1, m.mono (e.trans e2)⟩
theorem E1s.of (h : E1 te δ [] P []) : E1s te δ μ P := fun σ G M s m G1 H F e m1 Q q => h σ G [] s trivial G1 H (M ++ F) e m1 Q fun v G2 M2 H2 e2 m2 r => by
  obtain ⟨r1, r2⟩ := r
  have := r2.nil
  subst this
  exact q v G2 M H2 e2 m2 ⟨r1, rfl⟩
end
/-- columns and slips that were played -/
inductive Play (b r m : Int) (ds : List Deed) : List (List Int) → List (Int × Deed) → Prop
  | nil : Play b r m ds [] []
  | right {cs : List (List Int)} {sl : List (Int × Deed)} {c : List Int} : Play b r m ds cs sl → ColOk b r c → Play b r m ds (cs ++ [c]) sl
  | deed {cs : List (List Int)} {sl : List (Int × Deed)} {c : List Int} {x : Deed} : Play b r m ds cs sl → ColOk b r c → x ∈ ds → posW b m cs sl c x = true → Play b r m ds (cs ++ [c]) (sl ++ [((cs.length : Int), x)])
section
variable {b r m : Int} {cp lot : List Int} {ds : List Deed} {cs : List (List Int)} {c : List Int} {sl : List (Int × Deed)} {x : Deed}
theorem Play.pos (h : Play b r m ds cs sl) : ∀ s ∈ sl, 0 ≤ s.1 ∧ s.1 < cs.length ∧ s.2 ∈ ds := by
  induction h with
  | nil => intro s hs; cases hs
  | right _ _ ih =>
    intro s hs
    have := ih s hs
    exact ⟨this.1, by simp; omega, this.2.2⟩
  | deed _ _ hx _ ih =>
    intro s hs
    rcases List.mem_append.mp hs with hs | hs
    · have := ih s hs
      exact ⟨this.1, by simp; omega, this.2.2⟩
    · rw [List.mem_singleton.mp hs]
      exact ⟨by show (0 : Int) ≤ _; omega, by show ((_ : Nat) : Int) < _; simp; omega, hx⟩
theorem Play.lt (h : Play b r m ds cs sl) : ∀ s ∈ sl, s.1 < cs.length := fun s hs => (h.pos s hs).2.1
theorem Play.len (h : Play b r m ds cs sl) : sl.length ≤ cs.length := by
  induction h with
  | nil => exact Nat.le_refl _
  | right _ _ ih => simp; omega
  | deed _ _ _ _ ih => simp; omega
theorem Play.cols (h : Play b r m ds cs sl) : ∀ c ∈ cs, ColOk b r c := by
  induction h with
  | nil => intro s hs; cases hs
  | right _ hc ih => intro s hs; rcases List.mem_append.mp hs with hs | hs; exact ih s hs; rw [List.mem_singleton.mp hs]; exact hc
  | deed _ hc _ _ ih => intro s hs; rcases List.mem_append.mp hs with hs | hs; exact ih s hs; rw [List.mem_singleton.mp hs]; exact hc
theorem Play.sh (h : Play b r m ds cs sl) (hb : 2 ≤ b ∧ b ≤ 12) (hr : 1 ≤ r ∧ r ≤ 4) (hl : cs.length ≤ 10000) : GoodSh b r cs := ⟨hb.1, hb.2, hr.1, hr.2, hl, fun c hc => ⟨(h.cols c hc).len, (h.cols c hc).fig⟩⟩
theorem Play.take (h : Play b r m ds cs sl) (n : Nat) : Play b r m ds (cs.take n) (sl.filter fun s => decide (s.1 < (n : Int))) := by
  induction h with
  | nil => rw [List.take_nil]; exact .nil
  | @right cs sl c hp hc ih =>
    by_cases hn : n ≤ cs.length
    · rw [List.take_append_of_le_length hn]
      exact ih
    · rw [List.take_of_length_le (by simp; omega), List.filter_eq_self.mpr (fun s hs => by have := hp.lt s hs; simp; omega)]
      exact .right hp hc
  | @deed cs sl c x hp hc hx hpos ih =>
    by_cases hn : n ≤ cs.length
    · rw [List.take_append_of_le_length hn, List.filter_append, List.filter_cons_of_neg (by simp; omega), List.filter_nil, List.append_nil]
      exact ih
    · rw [List.take_of_length_le (by simp; omega), List.filter_eq_self.mpr (fun s hs => ?_)]
      · exact .deed hp hc hx hpos
      · rcases List.mem_append.mp hs with hs | hs
        · have := hp.lt s hs; simp; omega
        · rw [List.mem_singleton.mp hs]; simp; omega
end
end SY
set_option Elab.async false
set_option linter.all false
set_option maxRecDepth 100000
namespace SY
open PySem PySem.Spec L2 SX
end SY
namespace SY
open PySem PySem.Spec L2 SX
section
variable {E : XK} {K : PySem.W.Frag} {te : TE} {tA : TA} {δ : En} {μ μ' μ1 μ2 : Mp} {Q : Pr} {P : PY} {g : TG} {u : TS} {R : Pr → Mp → Prop}
theorem E1.perm (h : E1 te δ μ Q μ1) (p : μ.Perm μ') (p1 : μ2.Perm μ1) : E1 te δ μ' Q μ2 := fun σ G M s mm G1 H F e m1 q z => by
  obtain ⟨M', h1, h2⟩ := Mm.perm p mm
  refine h σ G M' s h2 G1 H F e (m1.perm (h1.append_right F)) q fun v G2 M2 H2 e2 m2 r => ?_
  obtain ⟨M3, h3, h4⟩ := Mm.perm p1 r.2
  exact z v G2 M3 H2 e2 (m2.perm (h3.append_right F)) ⟨r.1, h4⟩
end
end SY
namespace SY
open PySem PySem.Spec L2 SX
end SY
set_option Elab.async false
set_option linter.all false
set_option maxRecDepth 100000
namespace SY
open PySem PySem.Spec L2 SX
end SY
namespace SY
open PySem PySem.Spec L2 SX
def EAX (ta : TA) (δ : En) (μ : Mp) (X : List Pr → Mp → Prop) : Prop := ∀ σ G M, Sl G σ δ → Mm G M μ → ∀ G1 H F, Ex G G1 → Me G1 (M ++ F) H → ∀ Q : List V → Hp → Prop, (∀ vs G2 M2 H2 Ps μ2, Ex G1 G2 → Me G2 (M2 ++ F) H2 → X Ps μ2 → AP G2 Ps vs → Mm G2 M2 μ2 → Q vs H2) → ta σ H Q
end SY
set_option Elab.async false
set_option linter.all false
set_option maxRecDepth 100000
namespace SY
open PySem PySem.Spec L2 SX
end SY
namespace SY
open PySem PySem.Spec L2 SX
end SY
namespace SY
open PySem PySem.Spec L2 SX
end SY
namespace SY
open PySem PySem.Spec L2 SX
end SY
namespace SY
open PySem PySem.Spec L2 SX
end SY
namespace SY
open PySem PySem.Spec L2 SX
end SY
set_option Elab.async false
set_option linter.all false
set_option maxRecDepth 100000
namespace SY
open PySem PySem.Spec L2 SX
end SY
set_option Elab.async false
set_option linter.all false
set_option maxRecDepth 100000
namespace SY
abbrev CssT := List (List (List Int))
open PySem PySem.Spec L2 SX
def GoodCss (b r : Int) (ls : List Addr) (css : CssT) : Prop := ls.length = 3 ∧ List.length css = 3 ∧ ∀ cs ∈ css, GoodSh b r cs ∧ cs.length ≤ 60
theorem set_mem {α : Type} {l : List α} {i : Nat} {x y : α} (h : y ∈ l.set i x) : y = x ∨ y ∈ l := by
  rcases List.mem_or_eq_of_mem_set h with h | h
  · exact .inr h
  · exact .inl h
section
variable {K : PySem.W.Frag} {C dk sa ea : Addr} {b r : Int} {Dk : Deck} {ls : List Addr} {css : CssT} {a i : Nat} {c : List (List Int)} {l : Addr}
theorem GoodCss.set (g : GoodCss b r ls css) (l : Addr) (h : GoodSh b r c ∧ c.length ≤ 60) : GoodCss b r (ls.set a l) (css.set a c) := ⟨by rw [List.length_set]; exact g.1, by rw [List.length_set]; exact g.2.1, fun cs hc => by
  rcases set_mem hc with rfl | hc
  · exact h
  · exact g.2.2 cs hc⟩
theorem GoodCss.get (g : GoodCss b r ls css) (h : a < 3) : ∃ l c, ls[a]? = some l ∧ css[a]? = some c ∧ GoodSh b r c ∧ c.length ≤ 60 := by
  have h1 : a < ls.length := by rw [g.1]; exact h
  have h2 : a < List.length css := by rw [g.2.1]; exact h
  exact ⟨_, _, List.getElem?_eq_getElem h1, List.getElem?_eq_getElem h2, g.2.2 _ (List.getElem_mem h2)⟩
theorem GoodSh.set {cs : List (List Int)} {x : List Int} (g : GoodSh b r cs) (h : GoodCol b r x) : GoodSh b r (cs.set i x) := ⟨g.b2, g.b12, g.r1, g.r4, by rw [List.length_set]; exact g.len, fun c hc => by
  rcases set_mem hc with rfl | hc
  · exact h
  · exact g.col c hc⟩
end
end SY
set_option Elab.async false
set_option linter.all false
set_option maxRecDepth 100000
namespace SY
open PySem PySem.Spec L2 SX
def RowOrd (r : Int) (ord : List Int) : Prop := ord.Perm ((List.range r.toNat).map Int.ofNat)
theorem RowOrd.mem {r : Int} {ord : List Int} (h : RowOrd r ord) {j : Int} (h0 : 0 ≤ j) (h1 : j < r) : j ∈ ord := by
  refine (h.mem_iff).mpr (List.mem_map.mpr ⟨j.toNat, List.mem_range.mpr (by omega), ?_⟩)
  show ((j.toNat : Nat) : Int) = j
  omega
theorem RowOrd.len {r : Int} {ord : List Int} (h : RowOrd r ord) : ord.length = r.toNat := by
  rw [h.length_eq, List.length_map, List.length_range]
end SY
set_option Elab.async false
set_option linter.all false
set_option maxRecDepth 100000
namespace SY
open PySem PySem.Spec L2 SX
def slipOf (b r : Int) (n : Nat) (lo : Int) (d : PyData) : Option (Int × Deed) :=
  if isSlipD b r n lo d = true then (match d with | .tuple [.int a, y] => some (a, undeed b r y) | _ => none) else none
theorem isSlip_iff {b r : Int} {n lo : Nat} {d : PyData} : isSlipD b r n lo d = true ↔ ∃ a x, d = slipD (a, x) ∧ (lo : Int) ≤ a ∧ a < n ∧ x ∈ allDeeds b r := by
  constructor
  · intro h
    unfold isSlipD at h
    split at h
    · rename_i x y
      rw [Bool.and_eq_true] at h
      obtain ⟨z, hz, rfl⟩ := isDeed_iff.mp h.2
      cases x with
      | int a =>
        have h1 : (true && (decide ((lo : Int) ≤ a) && decide (a ≤ (n : Int) - 1))) = true := h.1
        simp only [Bool.true_and, Bool.and_eq_true, decide_eq_true_eq] at h1
        exact ⟨a, z, rfl, h1.1, by omega, hz⟩
      | _ => exact absurd h.1 (by simp [isWhole, isInt])
    · cases h
  · rintro ⟨a, x, rfl, h⟩
    exact isSlip_of h
theorem slipOf_eq {b r : Int} {n lo : Nat} {a : Int} {x : Deed} (h : (lo : Int) ≤ a ∧ a < n ∧ x ∈ allDeeds b r) : slipOf b r n lo (slipD (a, x)) = some (a, x) := by
  unfold slipOf
  rw [if_pos (isSlip_of h)]
  show some (a, undeed b r (deedD x)) = _
  rw [undeed_eq h.2.2]
theorem slipOf_none {b r : Int} {n lo : Nat} {d : PyData} (h : isSlipD b r n lo d = false) : slipOf b r n lo d = none := by
  unfold slipOf
  rw [if_neg (by rw [h]; exact Bool.false_ne_true)]
def okE : Except Nat (List Int × Int) → Bool
  | .ok _ => true
  | .error _ => false
def ixE : Except Nat (List Int × Int) → Int
  | .ok _ => 0
  | .error k => k
def valE : Except Nat (List Int × Int) → List Int × Int
  | .ok f => f
  | .error _ => ([], 0)
/-- what is done already stands ahead -/
def preE (F : List Int) : Except Nat (List Int × Int) → Except Nat (List Int × Int)
  | .ok f => .ok (F ++ f.1, f.2)
  | .error k => .error k
theorem preE_preE (F G : List Int) (e : Except Nat (List Int × Int)) : preE F (preE G e) = preE (F ++ G) e := by
  cases e with
  | ok f => simp [preE, List.append_assoc]
  | error k => rfl
theorem preE_nil (e : Except Nat (List Int × Int)) : preE [] e = e := by cases e <;> rfl
/-- an item that may be asked of -/
def ItemOk (d : PyData) : Prop := dlen d ≤ 100000 ∧ SeqAt.shaped d = true ∧ ∀ x ∈ itemsOf d, dlen x ≤ 100000
theorem itemOk_slip (s : Int × Deed) : ItemOk (slipD s) := ⟨by show 2 ≤ 100000; decide, (sh_slip (n := 0) _).ok, by
  intro y hy
  simp only [itemsOf, slipD, List.mem_cons, List.not_mem_nil, or_false] at hy
  rcases hy with rfl | rfl
  · exact Nat.zero_le _
  · have := dlen_deed s.2
    show dlen (deedD s.2) ≤ _
    omega⟩
end SY
set_option Elab.async false
set_option linter.all false
set_option maxRecDepth 100000
namespace SY
open PySem PySem.Spec L2 SX
end SY
set_option Elab.async false
set_option linter.all false
set_option maxRecDepth 100000
namespace SY
open PySem PySem.Spec L2 SX
section
variable {te : TE} {tr ta : TA} {δ : En} {μ μ1 : Mp} {R : Pr → Mp → Prop} {X : List Pr → Mp → Prop} {P : Pr}
theorem ax_nil (h : X [] μ) : EAX tNil δ μ X := fun σ G M s m G1 H F e m1 Q z => z [] G1 M H [] μ (Ex.refl _) m1 h trivial (m.mono e)
theorem ax_1 (h : E1 te δ μ P μ1) (h2 : EAX tr δ μ1 (fun Ps μ2 => X (P :: Ps) μ2)) : EAX (tCons te tr) δ μ X := fun σ G M s m G1 H F e m1 Q z =>
  h σ G M s m G1 H F e m1 _ fun v G2 M2 H2 e2 m2 r2 => h2 σ G2 M2 (s.mono (e.trans e2)) r2.2 G2 H2 F (Ex.refl _) m2 _ fun vs G3 M3 H3 Ps μ3 e3 m3 x3 a3 r3 => z _ G3 M3 H3 _ _ (e2.trans e3) m3 x3 ⟨P.m _ _ _ e3 r2.1, a3⟩ r3
theorem ax_Y (h : EY te δ μ R) (h2 : ∀ q μ', R q μ' → EAX tr δ μ' (fun Ps μ2 => X (q :: Ps) μ2)) : EAX (tCons te tr) δ μ X := fun σ G M s m G1 H F e m1 Q z =>
  h σ G M s m G1 H F e m1 _ fun v G2 M2 H2 e2 m2 r2 => by
    obtain ⟨q, μ', r0, r1, r4⟩ := r2
    exact h2 q μ' r0 σ G2 M2 (s.mono (e.trans e2)) r4 G2 H2 F (Ex.refl _) m2 _ fun vs G3 M3 H3 Ps μ3 e3 m3 x3 a3 r3 => z _ G3 M3 H3 _ _ (e2.trans e3) m3 x3 ⟨q.m _ _ _ e3 r1, a3⟩ r3
end
end SY
set_option Elab.async false
set_option linter.all false
set_option maxRecDepth 100000
namespace SY
open PySem PySem.Spec L2 SX
/-- a list of anything: it may stand in the heap, frozen, or in the written part -/
def Lq (K : PySem.W.Frag) (Ps : List Pr) : Pr := ⟨fun G v => ∃ a vs, v = .ref a ∧ SqL K G a vs ∧ AP G Ps vs, fun G G' v e h => by obtain ⟨a, vs, h1, h2, h3⟩ := h; exact ⟨a, vs, h1, ex_l e h2, AP.mono h3 e⟩⟩
/-- an empty dict -/
def Dc : Pr := ⟨fun G v => ∃ a, v = .ref a ∧ G a = some (.dK []), fun G G' v e h => by obtain ⟨a, h1, h2⟩ := h; exact ⟨a, h1, e _ _ h2⟩⟩
section
variable {E : XK} {K : PySem.W.Frag} {te ta tb : TE} {tA : TA} {δ : En} {μ μ' μ1 μ2 : Mp} {P Q : Pr} {Ps Qs : List Pr} {ds : List PyData} {i : Int} {t u : TS} {PP : PY}
theorem ap_D {G : Hp} : ∀ {ds : List PyData} {xs : List V}, AP G (ds.map (D K)) xs → DpAll K G xs ds
  | [], [], _ => .nil
  | _ :: _, _ :: _, h => .cons h.1 (ap_D h.2)
  | [], _ :: _, h => h.elim
  | _ :: _, [], h => h.elim
theorem lq_D : Imp (D K (.list ds)) (Lq K (ds.map (D K))) := fun G v h => by
  obtain ⟨a, xs, rfl, h3, h4⟩ := dp_lst h
  exact ⟨a, xs, rfl, h3, dpa_AP h4⟩
theorem d_lq : Imp (Lq K (ds.map (D K))) (D K (.list ds)) := fun G v h => by
  obtain ⟨a, xs, rfl, h3, h4⟩ := h
  exact .lst h3 (ap_D h4)
theorem lq_Lp : Imp (Lp Ps) (Lq K Ps) := fun G v h => by
  obtain ⟨a, xs, rfl, h3, h4⟩ := h
  exact ⟨a, xs, rfl, SqL.of h3, h4⟩
theorem ap_app {G : Hp} : ∀ {Ps Qs : List Pr} {xs ys : List V}, AP G Ps xs → AP G Qs ys → AP G (Ps ++ Qs) (xs ++ ys)
  | [], _, [], _, _, h => h
  | _ :: _, _, _ :: _, _, a, h => ⟨a.1, ap_app a.2 h⟩
  | [], _, _ :: _, _, a, _ => a.elim
  | _ :: _, _, [], _, a, _ => a.elim
theorem ap_take {G : Hp} : ∀ (n : Nat) {Ps : List Pr} {xs : List V}, AP G Ps xs → AP G (Ps.take n) (xs.take n)
  | 0, _, _, _ => trivial
  | n + 1, [], [], _ => trivial
  | n + 1, _ :: _, _ :: _, a => ⟨a.1, ap_take n a.2⟩
  | n + 1, [], _ :: _, a => a.elim
  | n + 1, _ :: _, [], a => a.elim
theorem ap_drop {G : Hp} : ∀ (n : Nat) {Ps : List Pr} {xs : List V}, AP G Ps xs → AP G (Ps.drop n) (xs.drop n)
  | 0, _, _, a => a
  | n + 1, [], [], _ => trivial
  | n + 1, _ :: _, _ :: _, a => ap_drop n a.2
  | n + 1, [], _ :: _, a => a.elim
  | n + 1, _ :: _, [], a => a.elim
/-- new lists -/
theorem lq_new {G H : Hp} {M F : Mem} {p : Addr} {vs : List V} (m : Me G (M ++ F) H) (hp : H p = none) (a : AP G Ps vs) : Me (upd G p (.lst vs)) (M ++ F) (upd H p (.lst vs)) ∧ Ex G (upd G p (.lst vs)) ∧ (Lq K Ps).p (upd G p (.lst vs)) (.ref p) :=
  ⟨m.newF hp, Ex.new (m.free hp), p, vs, rfl, SqL.of upd_same, AP.mono a (Ex.new (m.free hp))⟩
theorem e_lstQ (h : EA tA δ μ Ps μ') (hl : Ps.length ≤ 1000) : E1 (tLst tA) δ μ (Lq K Ps) μ' := (e_lstP h hl).imp lq_Lp
theorem e_catQ (h1 : E1 ta δ μ (Lq K Ps) μ1) (h2 : E1 tb δ μ1 (Lq K Qs) μ2) (hl : Ps.length + Qs.length ≤ 100000) : E1 (tOp (rCatS K) ta tb) δ μ (Lq K (Ps ++ Qs)) μ2 := fun σ G M s m G1 H F e m1 Q q =>
  h1 σ G M s m G1 H F e m1 _ fun x G2 M2 H2 e2 m2 r2 => h2 σ G2 M2 (s.mono (e.trans e2)) r2.2 G2 H2 F (Ex.refl _) m2 _ fun y G3 M3 H3 e3 m3 r3 => by
    obtain ⟨a, xs, rfl, h3, h4⟩ := (Lq K Ps).m _ _ _ e3 r2.1
    obtain ⟨b, ys, rfl, h5, h6⟩ := r3.1
    refine ⟨a, b, xs, ys, rfl, rfl, ex_l m3.ex h3, ex_l m3.ex h5, ?_, fun p hp => ?_⟩
    · rw [AP.len h4, AP.len h6]
      exact Nat.le_of_lt (sz_ok hl)
    · obtain ⟨n1, n2, n3⟩ := lq_new (K := K) m3 hp (ap_app h4 h6)
      exact q _ _ _ _ ((e2.trans e3).trans n2) n1 ⟨n3, r3.2.mono n2⟩
theorem e_listQ (h : E1 ta δ μ (Lq K Ps) μ1) : E1 (tCB (rListS K) (tCons ta tNil)) δ μ (Lq K Ps) μ1 := fun σ G M s m G1 H F e m1 Q q =>
  h σ G M s m G1 H F e m1 _ fun v G2 M2 H2 e2 m2 r2 => by
    obtain ⟨a, xs, rfl, h3, h4⟩ := r2.1
    exact ⟨a, xs, rfl, .inl (ex_l m2.ex h3), fun l hl => by
      obtain ⟨n1, n2, n3⟩ := lq_new (K := K) m2 hl h4
      exact q _ _ _ _ (e2.trans n2) n1 ⟨n3, r2.2.mono n2⟩⟩
theorem e_lenQ (h : E1 ta δ μ (Lq K Ps) μ1) : E1 (tCB (rLenS K) (tCons ta tNil)) δ μ (D K (.int (Ps.length : Int))) μ1 :=
  e_CB1 h fun G H F M v m mm p Q q => by
    obtain ⟨a, xs, rfl, h3, h4⟩ := p
    exact ⟨a, xs, rfl, .inl (ex_l m.ex h3), q _ G M H (Ex.refl _) m (by rw [AP.len h4]; exact .int _) mm⟩
theorem e_ixQ (h1 : E1 ta δ μ (Lq K Ps) μ1) (h2 : E1 tb δ μ1 (D K (.int i)) μ2) (hx : atI Ps i = some P) : E1 (tOp (rIxL K) ta tb) δ μ P μ2 :=
  e_op h1 h2 fun G H F M x y m mm p1 p2 Q q => by
    rw [dp_int p2]
    obtain ⟨a, vs, rfl, h3, h4⟩ := p1
    obtain ⟨v, h5, h6⟩ := ixLp h4 hx
    exact ⟨a, vs, i, v, rfl, rfl, ex_l m.ex h3, h5, q _ G M H (Ex.refl _) m h6 mm⟩
theorem e_slQ {tl th : TO} {lo hi : Option Int} (h : E1 te δ μ (Lq K Ps) μ1) (hl : OY tl δ μ1 lo) (hh : OY th δ μ1 hi) : E1 (tSl (rSlL K) te tl th) δ μ (Lq K (cutG Ps lo hi)) μ1 := fun σ G M s m G1 H F e m1 Q q =>
  h σ G M s m G1 H F e m1 _ fun x G2 M2 H2 e2 m2 r2 => hl σ G2 M2 (s.mono (e.trans e2)) r2.2 G2 H2 F (Ex.refl _) m2 _ fun G3 M3 H3 e3 m3 r3 => hh σ G3 M3 (s.mono ((e.trans e2).trans e3)) r3 G3 H3 F (Ex.refl _) m3 _ fun G4 M4 H4 e4 m4 r4 => by
    obtain ⟨a, xs, rfl, h3, h4⟩ := (Lq K Ps).m _ _ _ (e3.trans e4) r2.1
    refine ⟨a, xs, rfl, ex_l m4.ex h3, fun p hp => ?_⟩
    have h5 : AP G4 (cutG Ps lo hi) (cutG xs lo hi) := by
      unfold cutG
      rw [AP.len h4]
      exact ap_take _ (ap_drop _ h4)
    obtain ⟨n1, n2, n3⟩ := lq_new (K := K) m4 hp h5
    exact q _ _ _ _ (((e2.trans e3).trans e4).trans n2) n1 ⟨n3, r4.mono n2⟩
theorem ap_one {G : Hp} {P : Pr} : ∀ {ws : List V}, AP G [P] ws → ∃ v, ws = [v] ∧ P.p G v
  | [v], h => ⟨v, rfl, h.1⟩
  | [], h => h.elim
  | _ :: _ :: _, h => h.2.elim
theorem i_enumQ (h : E1 te δ μ (Lq K Ps) μ') : IY (iEnum K (tCons te tNil)) δ μ Ps.length (fun i => Tp [D K (.int (i : Int)), (Ps[i]?).getD (D K .none)]) μ' := fun σ G M s m G1 H F e m1 Q q =>
  (a_cons h a_nil) σ G M s m G1 H F e m1 _ fun ws G2 M2 H2 e2 m2 a2 r2 => by
    obtain ⟨v, rfl, p1⟩ := ap_one a2
    obtain ⟨a, xs, rfl, hs, hd⟩ := p1
    refine ⟨a, xs, rfl, ex_l m2.ex hs, q _ G2 M2 H2 e2 m2 r2 ⟨⟨_, _, by rw [← AP.len hd]; exact walk_enum, fun G3 M3 F3 H3 _ e3 m3 _ _ => ex_l m3.ex (ex_l e3 hs), fun i G3 M3 F3 H3 x H4 Mk hi e3 m3 hsub hkp y => ?_⟩⟩⟩
    obtain ⟨T, x, y, rfl, hT, rfl, h1, h2⟩ := y
    cases h1
    obtain ⟨q, hq⟩ : ∃ q, Ps[i]? = some q := ⟨_, List.getElem?_eq_getElem hi⟩
    obtain ⟨v, h3, h4⟩ := AP.get hd hq
    have h2 : xs[i]? = some y := h2
    rw [h3] at h2
    cases h2
    have g3 := m3.free hT
    refine ⟨_, Ex.new g3, m3.newF hT, ?_⟩
    rw [hq]
    exact ⟨_, _, rfl, upd_same, .int _, q.m _ _ _ (e3.trans (Ex.new g3)) h4, trivial⟩
theorem i_tp (h : E1 te δ μ (Tp Ps) μ') : IY (iTup K te) δ μ Ps.length (fun i => (Ps[i]?).getD (D K .none)) μ' := fun σ G M s m G1 H F e m1 Q q =>
  h σ G M s m G1 H F e m1 _ fun v G2 M2 H2 e2 m2 r2 => by
    obtain ⟨a, xs, rfl, hs, hd⟩ := r2.1
    refine ⟨a, rfl, ⟨xs, SqT.of (m2.ex _ _ hs)⟩, q _ G2 M2 H2 e2 m2 r2.2 ⟨⟨_, _, by rw [← AP.len hd]; exact walk_tup, fun G3 M3 F3 H3 _ e3 m3 _ _ => SqT.of (m3.ex _ _ (e3 _ _ hs)), fun i G3 M3 F3 H3 x H4 Mk hi e3 m3 hsub hkp y => ?_⟩⟩⟩
    obtain ⟨rfl, hx⟩ := y
    obtain ⟨q, hq⟩ : ∃ q, Ps[i]? = some q := ⟨_, List.getElem?_eq_getElem hi⟩
    obtain ⟨v, h1, h2⟩ := AP.get hd hq
    rw [h1] at hx
    cases hx
    exact ⟨G3, Ex.refl _, m3, by rw [hq]; exact q.m _ _ _ e3 h2⟩
theorem e_isiTp (h : E1 ta δ μ (Tp Ps) μ1) : E1 (tCB (rIsi K) (tCons ta (tCons (tC (.ty "tuple")) tNil))) δ μ (D K (.bool true)) μ1 :=
  e_CB (a_cons h (a_cons (e_cst (P := Cv (.ty "tuple")) fun _ => rfl) a_nil)) fun G H F M vs m mm p Q q => by
    match vs, p with
    | [v, c], ⟨p1, p2, _⟩ =>
      have p2 : c = .ty "tuple" := p2
      subst p2
      obtain ⟨a, xs, rfl, h3, _⟩ := p1
      exact ⟨.ref a, .ty "tuple", .type "tuple", .type "tuple", true, rfl, .ty "tuple", .base (.tup (m.ex _ _ h3)), kit_ty (by decide +kernel), q _ G M H (Ex.refl _) m (.bl _) mm⟩
theorem e_lenTp (h : E1 ta δ μ (Tp Ps) μ1) : E1 (tCB (rLenS K) (tCons ta tNil)) δ μ (D K (.int (Ps.length : Int))) μ1 :=
  e_CB1 h fun G H F M v m mm p Q q => by
    obtain ⟨a, xs, rfl, h3, h4⟩ := p
    exact ⟨a, xs, rfl, .inr (SqT.of (m.ex _ _ h3)), q _ G M H (Ex.refl _) m (by rw [AP.len h4]; exact .int _) mm⟩
theorem e_dnew : E1 tDNewK δ μ Dc μ := fun σ G M s m G1 H F e m1 Q q p hp =>
  q _ _ M _ (Ex.new (m1.free hp)) (m1.newF hp) ⟨⟨p, rfl, upd_same⟩, (m.mono e).mono (Ex.new (m1.free hp))⟩
theorem e_isiT2c (h : E1 ta δ μ Dc μ1) : E1 (tCB (rIsiT K) (tCons ta (tCons (tTup (tCons (tC (.ty "int")) (tCons (tC (.ty "str")) tNil))) tNil))) δ μ (D K (.bool false)) μ1 :=
  e_CB (a_cons h (a_cons (e_tupP (a_cons (e_cst (P := Cv (.ty "int")) fun _ => rfl) (a_cons (e_cst (P := Cv (.ty "str")) fun _ => rfl) a_nil)) (by simp)) a_nil)) fun G H F M vs m mm p Q q => by
    match vs, p with
    | [v, c], ⟨p1, pt, _⟩ =>
      obtain ⟨tp, ws, rfl, p2, p3⟩ := pt
      match ws, p3 with
      | [w1, w2], ⟨q1, q2, _⟩ =>
      have q1 : w1 = .ty "int" := q1
      have q2 : w2 = .ty "str" := q2
      subst q1 q2
      obtain ⟨a, rfl, h3⟩ := p1
      exact ⟨.ref a, tp, [.ty "int", .ty "str"], .type "dict", [.type "int", .type "str"], false, rfl, m.ex _ _ p2, .cons (.ty "int") (.cons (.ty "str") .nil), .base (.dK (m.ex _ _ h3)), kitAny_cons (b := false) (kit_ty (by decide +kernel)) (fun hb => kitAny_cons (b := false) (kit_ty (by decide +kernel)) (fun _ => rfl) fun h => by cases h) (fun h => by cases h), q _ G M H (Ex.refl _) m (.bl _) mm⟩
end
/-- ('off', {}) -/
abbrev OddP (K : PySem.W.Frag) : Pr := Tp [D K (.str "off"), Dc]
/-- data, or that -/
def itP (K : PySem.W.Frag) : Option PyData → Pr
  | some d => D K d
  | none => OddP K
def plainI : Option PyData → Bool
  | some d => isPlain d
  | none => false
def deedI (b r : Int) : Option PyData → Bool
  | some d => isDeedD b r d
  | none => false
inductive SI where
  | d (x : PyData)
  | odd (a : Int)
def siP (K : PySem.W.Frag) : SI → Pr
  | .d x => D K x
  | .odd a => Tp [D K (.int a), OddP K]
def slipI (b r : Int) (n : Nat) (lo : Int) : SI → Bool
  | .d x => isSlipD b r n lo x
  | .odd _ => false
def SIok : SI → Prop
  | .d x => ItemOk x
  | .odd _ => True
/-- adding with such items -/
def addI (b r : Int) (cs : List (List Int)) : List SI → Nat → Nat → Int → Except Nat (List Int × Int)
  | [], _, lo, c => .ok (doCols b (cs.drop lo) c)
  | .odd _ :: _, k, _, _ => .error k
  | .d d :: ds, k, lo, c => match slipOf b r cs.length lo d with
    | none => .error k
    | some (a, x) => match doSlip b cs a.toNat (doCols b ((cs.take a.toNat).drop lo) c).2 x with
      | none => .error k
      | some w => match addI b r cs ds (k + 1) (if x = .swap then a.toNat + 2 else a.toNat + 1) w.2 with
        | .error j => .error j
        | .ok f => .ok ((doCols b ((cs.take a.toNat).drop lo) c).1 ++ w.1 ++ f.1, f.2)
section
variable {b r : Int} {cs : List (List Int)} {ds : List SI} {d : PyData} {k lo : Nat} {c a : Int} {x : Deed} {w : List Int × Int}
theorem addI_cons (h : slipOf b r cs.length lo d = some (a, x)) (hw : doSlip b cs a.toNat (doCols b ((cs.take a.toNat).drop lo) c).2 x = some w) :
    addI b r cs (.d d :: ds) k lo c = preE ((doCols b ((cs.take a.toNat).drop lo) c).1 ++ w.1) (addI b r cs ds (k + 1) (if x = .swap then a.toNat + 2 else a.toNat + 1) w.2) := by
  simp only [addI, h, hw]
  cases addI b r cs ds (k + 1) (if x = .swap then a.toNat + 2 else a.toNat + 1) w.2 <;> rfl
theorem addI_bad (h : slipOf b r cs.length lo d = none) : addI b r cs (.d d :: ds) k lo c = .error k := by simp only [addI, h]
theorem addI_not (h : slipOf b r cs.length lo d = some (a, x)) (hw : doSlip b cs a.toNat (doCols b ((cs.take a.toNat).drop lo) c).2 x = none) : addI b r cs (.d d :: ds) k lo c = .error k := by simp only [addI, h, hw]
theorem addI_slipI (d : SI) (h : slipI b r cs.length (lo : Int) d = false) : addI b r cs (d :: ds) k lo c = .error k := by
  cases d with
  | d x => exact addI_bad (slipOf_none h)
  | odd a => rfl
end
theorem addI_len {b r : Int} {cs : List (List Int)} : ∀ {ds : List SI} {k lo : Nat} {c : Int} {f : List Int × Int}, lo ≤ cs.length → addI b r cs ds k lo c = .ok f → f.1.length ≤ 2 * (cs.length - lo)
  | [], _, lo, c, f, hl, h => by
    cases h
    rw [doCols_len, List.length_drop]
    omega
  | .odd a :: ds, k, lo, c, f, hl, h => by cases h
  | .d d :: ds, k, lo, c, f, hl, h => by
    cases hs : slipOf b r cs.length lo d with
    | none =>
      rw [addI_bad hs] at h
      cases h
    | some s =>
      obtain ⟨a, x⟩ := s
      have hh : isSlipD b r cs.length lo d = true := by
        cases h2 : isSlipD b r cs.length lo d with
        | true => rfl
        | false =>
          rw [slipOf_none h2] at hs
          cases hs
      obtain ⟨a', x', rfl, h1, h2, h3⟩ := isSlip_iff.mp hh
      rw [slipOf_eq ⟨h1, h2, h3⟩] at hs
      cases hs
      cases hw : doSlip b cs a.toNat (doCols b ((cs.take a.toNat).drop lo) c).2 x with
      | none =>
        rw [addI_not (slipOf_eq ⟨h1, h2, h3⟩) hw] at h
        cases h
      | some w =>
        rw [addI_cons (slipOf_eq ⟨h1, h2, h3⟩) hw] at h
        cases hg : addI b r cs ds (k + 1) (if x = .swap then a.toNat + 2 else a.toNat + 1) w.2 with
        | error j =>
          rw [hg] at h
          cases h
        | ok g =>
          rw [hg] at h
          cases h
          have hwl := doSlip_len hw
          have hlo := addV_lo (r := r) ⟨h1, h2⟩ hw
          have := addI_len hlo hg
          have e1 : ((cs.take a.toNat).drop lo).length = a.toNat - lo := by simp; omega
          simp only [List.length_append, doCols_len, e1]
          by_cases hx : x = .swap
          · subst hx
            have := doSlip_swap hw (by omega)
            simp only [if_pos] at *
            omega
          · rw [if_neg hx] at this hlo
            omega
theorem addI_addV {b r : Int} {cs : List (List Int)} : ∀ {sl : List (Int × Deed)} {k lo : Nat} {c : Int} {f : List Int × Int}, addV b r cs sl lo c = some f → addI b r cs (sl.map fun s => .d (slipD s)) k lo c = .ok f
  | [], _, _, _, f, h => by
    cases h
    rfl
  | (a, x) :: sl, k, lo, c, f, h => by
    obtain ⟨hc, w, g, hw, hg, rfl⟩ := addV_cons h
    rw [List.map_cons, addI_cons (slipOf_eq hc) hw, addI_addV hg]
    rfl
/-- what is told of a refused adding (k11) -/
def refE : Except Nat (List Int × Int) → List PyData
  | .ok _ => []
  | .error k => [.bool true, .bool false, .int k]
end SY
set_option Elab.async false
set_option linter.all false
set_option maxRecDepth 100000
namespace SY
open PySem PySem.Spec L2 SX
def lowL : Nat → List (Int × Deed) → Nat
  | lo, [] => lo
  | _, s :: sl => lowL (if s.2 = .swap then s.1.toNat + 2 else s.1.toNat + 1) sl
def slI (s : Int × Deed) : SI := .d (slipD s)
section
variable {b r : Int} {cs : List (List Int)} {ds : List Deed} {n : Nat}
theorem st_go (hl : n = cs.length) (hd : ∀ i, i < n → dAt ds i = .right ∨ dAt ds i ∈ allDeeds b r) (hadj : ∀ i, i + 1 < n → dAt ds i = .swap → dAt ds (i + 1) = .right) {Fn : List Int} {cn : Int} {Wn : List Int} (h : addS b cs ds n = some (Fn, cn, Wn)) :
    ∀ (m k lo : Nat) (F : List Int) (c : Int), k + m = n → lo ≤ k → (∀ j, lo ≤ j → j < k → dAt ds j = .right) → addS b cs ds lo = some (F, c, []) → ∀ q : Nat, ∃ (lo' : Nat) (c' : Int) (F2 : List Int), addS b cs ds lo' = some (F2, c', []) ∧ lo ≤ lo' ∧ lo' ≤ n ∧ lo' = lowL lo ((slipsFrom ds k m).take q) ∧
      ∀ (rest : List SI) (k0 : Nat), ∃ F3, addI b r cs (((slipsFrom ds k m).take q).map slI ++ rest) k0 lo c = preE F3 (addI b r cs rest (k0 + ((slipsFrom ds k m).take q).length) lo' c') := by
  intro m
  induction m using Nat.strongRecOn with
  | ind m ih =>
  intro k lo F c hk hlo hr h0 q
  cases m with
  | zero => exact ⟨lo, c, F, h0, Nat.le_refl _, by omega, by simp [slipsFrom, lowL], fun rest k0 => ⟨[], by simp [slipsFrom, preE_nil]⟩⟩
  | succ m =>
    by_cases hk0 : dAt ds k = .right
    · unfold slipsFrom
      rw [if_pos hk0]
      refine ih m (by omega) (k + 1) lo F c (by omega) (by omega) (fun j h1 h2 => ?_) h0 q
      by_cases hj : j = k
      · rw [hj]; exact hk0
      · exact hr j h1 (by omega)
    · unfold slipsFrom
      rw [if_neg hk0]
      cases q with
      | zero => exact ⟨lo, c, F, h0, Nat.le_refl _, by omega, by simp [lowL], fun rest k0 => ⟨[], by simp [preE_nil]⟩⟩
      | succ q =>
      have hmem : dAt ds k ∈ allDeeds b r := (hd k (by omega)).resolve_left hk0
      have hk1 := addS_rights h0 k hlo (by omega) hr
      obtain ⟨t, ht⟩ := addS_pre h (k + 1) (by omega)
      obtain ⟨F', c', W', w, h2, h3, rfl⟩ := addS_some ht
      rw [hk1] at h2
      injection h2 with h2
      injection h2 with e1 e2
      injection e2 with e2 e3
      subst e1 e2 e3
      rw [if_neg (by simp)] at ht
      have hso := slipOf_eq (b := b) (r := r) (n := cs.length) (lo := lo) (a := (k : Int)) (x := dAt ds k) ⟨by omega, by omega, hmem⟩
      by_cases hs : dAt ds k = .swap
      · rw [if_pos hs] at ht
        rw [hs] at h3 hso ⊢
        have hne : ¬ (k + 1 = cs.length) := fun e => by
          unfold lawStep at h3
          rw [if_pos (.inr ⟨rfl, e⟩)] at h3
          cases h3
        have hr1 := hadj k (by omega) hs
        have h3' : w = ([((cs.getD k []).sum + (doCols b ((cs.take k).drop lo) c).2) % b], ((cs.getD k []).sum + (doCols b ((cs.take k).drop lo) c).2) / b) := by
          unfold lawStep at h3
          rw [if_neg (by rintro (⟨z, _⟩ | ⟨_, z⟩); · cases z
                         · exact hne z)] at h3
          exact (Option.some.inj h3).symm
        subst h3'
        have ht4 : addS b cs ds (k + 2) = some (F ++ (doCols b ((cs.take k).drop lo) c).1 ++ [((cs.getD (k + 1) []).sum + ((cs.getD k []).sum + (doCols b ((cs.take k).drop lo) c).2) / b) % b] ++ [((cs.getD k []).sum + (doCols b ((cs.take k).drop lo) c).2) % b], ((cs.getD (k + 1) []).sum + ((cs.getD k []).sum + (doCols b ((cs.take k).drop lo) c).2) / b) / b, []) := by
          rw [show k + 2 = k + 1 + 1 from rfl, addS, addS, hk1]
          simp only [Option.bind_some, hs, h3, Option.map_some]
          simp only [hr1, step_right]
          simp
        cases m with
        | zero => omega
        | succ m =>
        have hsl : slipsFrom ds (k + 1) (m + 1) = slipsFrom ds (k + 2) m := by
          conv => lhs; unfold slipsFrom
          rw [if_pos hr1]
        rw [hsl]
        obtain ⟨lo', c', F2, g1, g2, g3, g4, g5⟩ := ih m (by omega) (k + 2) (k + 2) _ _ (by omega) (Nat.le_refl _) (fun j h1 h2 => by omega) ht4 q
        refine ⟨lo', c', F2, g1, by omega, g3, by rw [List.take_succ_cons]; exact g4, fun rest k0 => ?_⟩
        obtain ⟨F3, g6⟩ := g5 rest (k0 + 1)
        have hcut : (cs.take (k + 2)).drop k = [cs.getD k [], cs.getD (k + 1) []] := by
            rw [dropTake (by omega) (by omega) (d := []), dropTake (by omega) (by omega) (d := [])]
            have : (cs.take k).drop k = [] := List.drop_eq_nil_of_le (by rw [List.length_take]; omega)
            rw [this]
            rfl
        have hds : doSlip b cs k (doCols b ((cs.take k).drop lo) c).2 .swap = some ([((cs.getD (k + 1) []).sum + ((cs.getD k []).sum + (doCols b ((cs.take k).drop lo) c).2) / b) % b, ((cs.getD k []).sum + (doCols b ((cs.take k).drop lo) c).2) % b], ((cs.getD (k + 1) []).sum + ((cs.getD k []).sum + (doCols b ((cs.take k).drop lo) c).2) / b) / b) := by
            unfold doSlip
            rw [if_neg (by rintro (⟨z, _⟩ | ⟨_, z⟩); · cases z
                           · exact hne z), if_pos rfl, hcut]
            rfl
        rw [List.take_succ_cons, List.map_cons, List.cons_append]
        have e := addI_cons (ds := ((slipsFrom ds (k + 2) m).take q).map slI ++ rest) (k := k0) hso (by rw [Int.toNat_natCast]; exact hds)
        rw [if_pos rfl, Int.toNat_natCast, g6, preE_preE] at e
        rw [List.length_cons, show k0 + (((slipsFrom ds (k + 2) m).take q).length + 1) = k0 + 1 + ((slipsFrom ds (k + 2) m).take q).length by omega]
        exact ⟨_, e⟩
      · rw [if_neg hs] at ht
        obtain ⟨lo', c', F2, g1, g2, g3, g4, g5⟩ := ih m (by omega) (k + 1) (k + 1) _ _ (by omega) (Nat.le_refl _) (fun j h1 h2 => by omega) ht q
        refine ⟨lo', c', F2, g1, by omega, g3, ?_, fun rest k0 => ?_⟩
        · rw [List.take_succ_cons, g4]
          show _ = lowL (if dAt ds k = .swap then _ else _) _
          rw [if_neg hs]
          rfl
        obtain ⟨F3, g6⟩ := g5 rest (k0 + 1)
        rw [List.take_succ_cons, List.map_cons, List.cons_append]
        have e := addI_cons (ds := ((slipsFrom ds (k + 1) m).take q).map slI ++ rest) (k := k0) hso (by rw [Int.toNat_natCast, slip_step hs]; exact h3)
        rw [if_neg hs, Int.toNat_natCast, g6, preE_preE] at e
        rw [List.length_cons, show k0 + (((slipsFrom ds (k + 1) m).take q).length + 1) = k0 + 1 + ((slipsFrom ds (k + 1) m).take q).length by omega]
        exact ⟨_, e⟩
end
def lawD (ds : List Deed) (lo i : Nat) : Deed := if i < lo then dAt ds i else .right
def lawC (b : Int) (cs : List (List Int)) (ds : List Deed) (lo : Nat) : Nat → Int
  | 0 => 0
  | i + 1 => match lawStep b cs i (lawD ds lo i) (lawC b cs ds lo i) with
    | some w => w.2
    | none => 0
section
variable {b r : Int} {cs : List (List Int)} {ds : List Deed} {lo i : Nat} {s : List Int × Int × List Int}
theorem lawC_add (h : addS b cs ds lo = some s) : ∀ i, i ≤ lo → ∃ F W, addS b cs ds i = some (F, lawC b cs ds lo i, W)
  | 0, _ => ⟨[], [], rfl⟩
  | i + 1, hi => by
    obtain ⟨t, ht⟩ := addS_pre h (i + 1) hi
    obtain ⟨F, c, W, w, h1, h2, rfl⟩ := addS_some ht
    obtain ⟨F0, W0, h0⟩ := lawC_add h i (by omega)
    rw [h0] at h1
    injection h1 with h1
    injection h1 with e1 h1
    injection h1 with e2 e3
    subst e1 e2 e3
    have e : lawC b cs ds lo (i + 1) = w.2 := by
      simp only [lawC, lawD, if_pos (show i < lo by omega), h2]
    rw [ht, e]
    split
    · exact ⟨_, _, rfl⟩
    · split <;> exact ⟨_, _, rfl⟩
theorem lawC_some (h : addS b cs ds lo = some s) (i : Nat) : ∃ w, lawStep b cs i (lawD ds lo i) (lawC b cs ds lo i) = some w ∧ w.2 = lawC b cs ds lo (i + 1) := by
  have key : ∃ w, lawStep b cs i (lawD ds lo i) (lawC b cs ds lo i) = some w := by
    by_cases hi : i < lo
    · obtain ⟨t, ht⟩ := addS_pre h (i + 1) (by omega)
      obtain ⟨F, c, W, w, h1, h2, _⟩ := addS_some ht
      obtain ⟨F0, W0, h0⟩ := lawC_add h i (by omega)
      rw [h0] at h1
      injection h1 with h1
      injection h1 with e1 h1
      injection h1 with e2 e3
      subst e2
      refine ⟨w, ?_⟩
      unfold lawD
      rw [if_pos hi]
      exact h2
    · unfold lawD
      rw [if_neg hi]
      exact ⟨_, step_right⟩
  obtain ⟨w, hw⟩ := key
  exact ⟨w, hw, by simp only [lawC, hw]⟩
theorem lawC_next (hi : lo ≤ i) : lawC b cs ds lo (i + 1) = ((cs.getD i []).sum + lawC b cs ds lo i) / b := by
  have e : lawD ds lo i = .right := by
    unfold lawD
    rw [if_neg (by omega)]
  simp only [lawC, e, step_right]
theorem lawC_right (hl : lo ≤ cs.length) : ∀ k, lo + k ≤ cs.length → lawC b cs ds lo (lo + k) = (doCols b ((cs.take (lo + k)).drop lo) (lawC b cs ds lo lo)).2
  | 0, _ => by
    have : (cs.take (lo + 0)).drop lo = [] := List.drop_eq_nil_of_le (by rw [List.length_take]; omega)
    rw [this]
    rfl
  | k + 1, h => by
    rw [show lo + (k + 1) = lo + k + 1 by omega, lawC_next (by omega), dropTake (by omega) (by omega) (d := []), doCols_snoc, lawC_right hl k (by omega)]
theorem lawC_nn (g : GoodSh b r cs) (hd : ∀ i, i < cs.length → DeedOk b r (dAt ds i)) (h : addS b cs ds lo = some s) : ∀ i, i ≤ cs.length → 0 ≤ lawC b cs ds lo i
  | 0, _ => Int.le_refl _
  | i + 1, hi => by
    obtain ⟨w, h1, h2⟩ := lawC_some h i
    rw [← h2]
    refine step_nn g (by omega) ?_ (lawC_nn g hd h i (by omega)) h1
    unfold lawD
    split
    · exact hd i (by omega)
    · exact .inl rfl
/-- a forgotten carry that is not there -/
theorem forget_none {F2 : List Int} {c' : Int} (h : addS b cs ds lo = some (F2, c', [])) (hi : lo ≤ i) (hn : i < cs.length) (hz : lawC b cs ds lo (i + 1) = 0) : doSlip b cs i (doCols b ((cs.take i).drop lo) c').2 .forget = none := by
  obtain ⟨F, W, h0⟩ := lawC_add h lo (Nat.le_refl _)
  rw [h] at h0
  injection h0 with h0
  injection h0 with e1 h0
  injection h0 with e2 e3
  have hr := lawC_right (b := b) (cs := cs) (ds := ds) (lo := lo) (by omega) (i - lo) (by omega)
  rw [show lo + (i - lo) = i by omega, ← e2] at hr
  rw [lawC_next hi, hr] at hz
  unfold doSlip
  rw [if_neg (by rintro (⟨z, _⟩ | ⟨z, _⟩) <;> cases z), if_neg (by intro z; cases z)]
  show doSum b (cs.getD i []).sum _ (some .forget) = none
  simp only [doSum]
  rw [if_neg (by omega)]
end
theorem lowL_snoc : ∀ (sl : List (Int × Deed)) (lo : Nat) (s : Int × Deed), lowL lo (sl ++ [s]) = if s.2 = .swap then s.1.toNat + 2 else s.1.toNat + 1
  | [], _, _ => rfl
  | _ :: sl, _, s => lowL_snoc sl _ s
/-- the columns, from low on, behind which there is no carry -/
def woC (b : Int) (cs : List (List Int)) (ds : List Deed) (lo : Nat) (n : Nat) : List Int := ((List.range n).filter fun i => decide (lo ≤ i) && decide (lawC b cs ds lo (i + 1) = 0)).map fun (i : Nat) => (i : Int)
theorem woC_succ {b : Int} {cs : List (List Int)} {ds : List Deed} {lo n : Nat} : woC b cs ds lo (n + 1) = woC b cs ds lo n ++ (if (decide (lo ≤ n) && decide (lawC b cs ds lo (n + 1) = 0)) = true then [(n : Int)] else []) := by
  unfold woC
  rw [List.range_succ, List.filter_append, List.map_append]
  congr 1
  by_cases h : (decide (lo ≤ n) && decide (lawC b cs ds lo (n + 1) = 0)) = true
  · rw [if_pos h, List.filter_cons_of_pos (p := fun i => decide (lo ≤ i) && decide (lawC b cs ds lo (i + 1) = 0)) h]
    rfl
  · rw [if_neg h, List.filter_cons_of_neg (p := fun i => decide (lo ≤ i) && decide (lawC b cs ds lo (i + 1) = 0)) h]
    rfl
theorem woC_len {b : Int} {cs : List (List Int)} {ds : List Deed} {lo n : Nat} : (woC b cs ds lo n).length ≤ n := by
  unfold woC
  rw [List.length_map]
  have := List.length_filter_le (fun i => decide (lo ≤ i) && decide (lawC b cs ds lo (i + 1) = 0)) (List.range n)
  rw [List.length_range] at this
  exact this
theorem woC_mem {b : Int} {cs : List (List Int)} {ds : List Deed} {lo n : Nat} {x : Int} (h : x ∈ woC b cs ds lo n) : ∃ i : Nat, x = i ∧ lo ≤ i ∧ i < n ∧ lawC b cs ds lo (i + 1) = 0 := by
  unfold woC at h
  obtain ⟨i, hi, rfl⟩ := List.mem_map.mp h
  rw [List.mem_filter, List.mem_range] at hi
  simp only [Bool.and_eq_true, decide_eq_true_eq] at hi
  exact ⟨i, rfl, hi.2.1, hi.1, hi.2.2⟩
def itemOkB (d : PyData) : Bool := decide (dlen d ≤ 100000) && (SeqAt.shaped d && (itemsOf d).all fun x => decide (dlen x ≤ 100000))
theorem itemOk_B {d : PyData} (h : itemOkB d = true) : ItemOk d := by
  unfold itemOkB at h
  simp only [Bool.and_eq_true, decide_eq_true_eq, List.all_eq_true] at h
  exact ⟨h.1, h.2.1, h.2.2⟩
theorem slip_out {b r : Int} {n lo : Nat} {a : Int} {y : PyData} (h : a < lo ∨ (n : Int) ≤ a) : isSlipD b r n lo (.tuple [.int a, y]) = false := by
  show (isWhole (.int a) lo ((n : Int) - 1) && isDeedD b r y) = false
  have : isWhole (.int a) lo ((n : Int) - 1) = false := by
    show (true && (decide ((lo : Int) ≤ a) && decide (a ≤ (n : Int) - 1))) = false
    rcases h with h | h
    · rw [decide_eq_false (show ¬ (lo : Int) ≤ a by omega)]
      rfl
    · rw [decide_eq_false (show ¬ a ≤ (n : Int) - 1 by omega), Bool.and_false, Bool.and_false]
  rw [this]
  rfl
theorem not_deed {b r : Int} {d : PyData} (h : ∀ x, x ∈ allDeeds b r → d = deedD x → False) : isDeedD b r d = false := by
  cases hq : isDeedD b r d with
  | false => rfl
  | true =>
    obtain ⟨x, hx, e⟩ := isDeed_iff.mp hq
    exact (h x hx e).elim
def BadIt (b r : Int) (n lo : Nat) (d : PyData) : Prop := isSlipD b r n lo d = false ∧ ItemOk d
theorem bad_slip {b r : Int} {n lo : Nat} {a : Int} {x : Deed} (h : a < lo ∨ (n : Int) ≤ a) : BadIt b r n lo (slipD (a, x)) := ⟨slip_out h, itemOk_slip _⟩
/-- the items of k11 -/
def badIts (n : Nat) (far : Int) : List PyData := [slipD ((n : Int), .out), slipD ((n : Int) + 1 + far, .again), slipD (-1, .out), slipD (-2 - far, .twice), .tuple [.bool true, deedD .out]] ++
  [.none, deedD .out, .list [.int 0, deedD .out], .tuple [.int 0, deedD .out, .int 0], .tuple [.str "0", deedD .out], .tuple [.none, deedD .out], .tuple [], .int 0]
theorem badIts_ok {b r far : Int} {n lo : Nat} (hf : 0 ≤ far) : ∀ d ∈ badIts n far, BadIt b r n lo d := by
  intro d hd
  simp only [badIts, List.cons_append, List.nil_append, List.mem_cons, List.not_mem_nil, or_false] at hd
  rcases hd with rfl | rfl | rfl | rfl | rfl | rfl | rfl | rfl | rfl | rfl | rfl | rfl | rfl
  · exact bad_slip (.inr (by omega))
  · exact bad_slip (.inr (by omega))
  · exact bad_slip (.inl (by omega))
  · exact bad_slip (.inl (by omega))
  · exact ⟨rfl, itemOk_B (by decide +kernel)⟩
  · exact ⟨rfl, itemOk_B (by decide +kernel)⟩
  · exact ⟨rfl, itemOk_B (by decide +kernel)⟩
  · exact ⟨rfl, itemOk_B (by decide +kernel)⟩
  · exact ⟨rfl, itemOk_B (by decide +kernel)⟩
  · exact ⟨rfl, itemOk_B (by decide +kernel)⟩
  · exact ⟨rfl, itemOk_B (by decide +kernel)⟩
  · exact ⟨rfl, itemOk_B (by decide +kernel)⟩
  · exact ⟨rfl, itemOk_B (by decide +kernel)⟩
abbrev BiT := Addr × Deck × Int × Int × List (List Int) × Nat
abbrev biA (K : PySem.W.Frag) (x : BiT) : List Pr := match x with | (dk, D0, b, r, cs, lo) => [Av dk, D K (.int b), D K (.int r), D K (.list (cs.map colD)), D K (.int (lo : Int))]
abbrev biM (x : BiT) : Mp := match x with | (dk, D0, b, r, cs, lo) => [(dk, DKo D0)]
abbrev biPre (x : BiT) : Prop := match x with | (dk, D0, b, r, cs, lo) => cs.length ≤ 1000 ∧ lo ≤ 1000
abbrev biR (K : PySem.W.Frag) (x : BiT) (Q : Pr) (μ : Mp) : Prop := match x with | (dk, D0, b, r, cs, lo) => ∃ d D1, Q = D K d ∧ BadIt b r cs.length lo d ∧ μ = [(dk, DKo D1)]
end SY
set_option Elab.async false
set_option linter.all false
set_option maxRecDepth 100000
namespace SY
open PySem PySem.Spec L2 SX
/-- no deed, told small -/
def BadDd (b r : Int) (d : PyData) : Prop := isDeedD b r d = false ∧ dlen d ≤ 100000 ∧ Sh 3 d
def BadX (b r : Int) (x : Option PyData) : Prop := deedI b r x = false ∧ ∀ d, x = some d → dlen d ≤ 100000 ∧ Sh 3 d
theorem bad_deed {b r : Int} {x : Deed} (h : x ∈ allDeeds b r → False) : BadDd b r (deedD x) :=
  ⟨not_deed fun y hy e => h (by rw [deedD_inj e]; exact hy), by have := dlen_deed x; omega, sh_deed (n := 2) x⟩
theorem bad_flat {b r : Int} {d : PyData} (h : isPlain d = false) (h2 : (decide (dlen d ≤ 100000) && (PyData.canLay0 d && decide (d.depth ≤ 3))) = true) : BadDd b r d := by
  simp only [Bool.and_eq_true, decide_eq_true_eq] at h2
  refine ⟨?_, h2.1, h2.2.1, h2.2.2⟩
  unfold isDeedD
  rw [h]
  rfl
def likeDeed : PyData → Bool
  | .tuple [.str w] => decide (w = "forget" ∨ w = "again" ∨ w = "swap" ∨ w = "out" ∨ w = "twice" ∨ w = "right")
  | .tuple [.str w, .int _] => decide (w = "off" ∨ w = "copy")
  | .tuple [.str w, .int _, .int _] => decide (w = "read")
  | _ => false
theorem like_deed (x : Deed) : likeDeed (deedD x) = true := by
  cases x
  case off k => show decide (Str.ofString "off" = "off" ∨ Str.ofString "off" = "copy") = true; decide +kernel
  case read j k => show decide (Str.ofString "read" = "read") = true; decide +kernel
  case copy k => show decide (Str.ofString "copy" = "off" ∨ Str.ofString "copy" = "copy") = true; decide +kernel
  all_goals decide +kernel
theorem bad_odd {b r : Int} {d : PyData} (h : likeDeed d = false) (h2 : (decide (dlen d ≤ 100000) && (PyData.canLay0 d && decide (d.depth ≤ 3))) = true) : BadDd b r d := by
  simp only [Bool.and_eq_true, decide_eq_true_eq] at h2
  exact ⟨not_deed fun x _ e => (by rw [e, like_deed] at h; cases h), h2.1, h2.2.1, h2.2.2⟩
def badA (b r far : Int) : List PyData := [deedD (.off 0), deedD (.off (b + far)), deedD (.off (-1)), .tuple [.str "off", .bool true], .tuple [.str "off"], .tuple [.str "off", .int 1, .int 1], deedD (.read r 1)]
def badB (b r : Int) : List PyData := [deedD (.read 0 0), deedD (.read 0 b), .tuple [.str "read", .int 0], deedD (.read (-1) 1), .tuple [.str "read", .bool false, .int 1], deedD (.copy r)]
def badC : List PyData := [deedD (.copy (-1)), .tuple [.str "copy", .bool false], .tuple [.str "copy"], .tuple [.str "swap", .int 1], .tuple [.str "forget", .none], .tuple [.str "fall"], .tuple [.str "Out"], .tuple []]
def badE : List PyData := [.tuple [.str "off", .str "1"], .str "forget", .list [.str "forget"], .none, .int 0, .tuple [.str "", .int 1], .tuple [.int 1], .tuple [.str "twice", .str "twice"], .tuple [.tuple [.str "out"]]]
def badF (b far : Int) : List PyData := [.tuple [.str "off", .list [.int 1]], .tuple [.str "read", .list [.int 0], .int 1], deedD (.read 0 (-1)), deedD (.read 0 (b + 1 + far)), .tuple [.str "read", .int 0, .int 1, .int 1]]
def badG (r far : Int) : List PyData := [.tuple [.str "read", .str "0", .int 1], .tuple [.str "read", .int 0, .str "1"], deedD (.read (r + far) 1), .tuple [.str "read", .int 0, .bool false], .tuple [.str "copy", .int 0, .int 0]]
def badH (r far : Int) : List PyData := [.tuple [.str "copy", .str "0"], deedD (.copy (r + far)), .tuple [.str "again", .int 0], .tuple [.str "out", .int 0], .tuple [.list [.str "forget"]]]
def badJ : List PyData := [.tuple [.str "forget", .str "forget"], .tuple [.str "off", .none], .tuple [.str "copy", .none], .tuple [.str "copy", .list [.int 0]], .tuple [.str "swap", .str "swap"]]
def badAll (b r far : Int) : List PyData := badA b r far ++ badB b r ++ badC ++ badE ++ badF b far ++ badG r far ++ badH r far
section
variable {b r far : Int}
theorem no_off {k : Int} (h : ¬ (1 ≤ k ∧ k < b)) : Deed.off k ∈ allDeeds b r → False := by
  rw [mem_all]
  rintro (h' | h' | ⟨_, h', h2⟩ | ⟨_, _, h', _⟩ | ⟨_, h', _⟩ | h' | h' | h') <;> cases h'
  exact h h2
theorem no_read {j k : Int} (h : ¬ (0 ≤ j ∧ j < r ∧ 1 ≤ k ∧ k < b)) : Deed.read j k ∈ allDeeds b r → False := by
  rw [mem_all]
  rintro (h' | h' | ⟨_, h', h2⟩ | ⟨_, _, h', h2⟩ | ⟨_, h', _⟩ | h' | h' | h') <;> cases h'
  exact h h2
theorem no_copy {j : Int} (h : ¬ (0 ≤ j ∧ j < r)) : Deed.copy j ∈ allDeeds b r → False := by
  rw [mem_all]
  rintro (h' | h' | ⟨_, h', h2⟩ | ⟨_, _, h', h2⟩ | ⟨_, h', h2⟩ | h' | h' | h') <;> cases h'
  exact h h2
theorem badA_ok (hf : 0 ≤ far) : ∀ d ∈ badA b r far, BadDd b r d := by
  intro d hd
  simp only [badA, List.mem_cons, List.not_mem_nil, or_false] at hd
  rcases hd with rfl | rfl | rfl | rfl | rfl | rfl | rfl
  · exact bad_deed (no_off (by omega))
  · exact bad_deed (no_off (by omega))
  · exact bad_deed (no_off (by omega))
  · exact bad_flat (by decide +kernel) (by decide +kernel)
  · exact bad_odd (by decide +kernel) (by decide +kernel)
  · exact bad_odd (by decide +kernel) (by decide +kernel)
  · exact bad_deed (no_read (by omega))
theorem badB_ok : ∀ d ∈ badB b r, BadDd b r d := by
  intro d hd
  simp only [badB, List.mem_cons, List.not_mem_nil, or_false] at hd
  rcases hd with rfl | rfl | rfl | rfl | rfl | rfl
  · exact bad_deed (no_read (by omega))
  · exact bad_deed (no_read (by omega))
  · exact bad_odd (by decide +kernel) (by decide +kernel)
  · exact bad_deed (no_read (by omega))
  · exact bad_flat (by decide +kernel) (by decide +kernel)
  · exact bad_deed (no_copy (by omega))
theorem badC_ok : ∀ d ∈ badC, BadDd b r d := by
  intro d hd
  simp only [badC, List.mem_cons, List.not_mem_nil, or_false] at hd
  rcases hd with rfl | rfl | rfl | rfl | rfl | rfl | rfl | rfl
  · exact bad_deed (no_copy (by omega))
  all_goals first | exact bad_flat (by decide +kernel) (by decide +kernel) | exact bad_odd (by decide +kernel) (by decide +kernel)
theorem badE_ok : ∀ d ∈ badE, BadDd b r d := by
  intro d hd
  simp only [badE, List.mem_cons, List.not_mem_nil, or_false] at hd
  rcases hd with rfl | rfl | rfl | rfl | rfl | rfl | rfl | rfl | rfl
  all_goals first | exact bad_flat (by decide +kernel) (by decide +kernel) | exact bad_odd (by decide +kernel) (by decide +kernel)
theorem badF_ok (hf : 0 ≤ far) : ∀ d ∈ badF b far, BadDd b r d := by
  intro d hd
  simp only [badF, List.mem_cons, List.not_mem_nil, or_false] at hd
  rcases hd with rfl | rfl | rfl | rfl | rfl
  · exact bad_flat (by decide +kernel) (by decide +kernel)
  · exact bad_flat (by decide +kernel) (by decide +kernel)
  · exact bad_deed (no_read (by omega))
  · exact bad_deed (no_read (by omega))
  · exact bad_odd (by decide +kernel) (by decide +kernel)
theorem badG_ok (hf : 0 ≤ far) : ∀ d ∈ badG r far, BadDd b r d := by
  intro d hd
  simp only [badG, List.mem_cons, List.not_mem_nil, or_false] at hd
  rcases hd with rfl | rfl | rfl | rfl | rfl
  · exact bad_odd (by decide +kernel) (by decide +kernel)
  · exact bad_odd (by decide +kernel) (by decide +kernel)
  · exact bad_deed (no_read (by omega))
  · exact bad_flat (by decide +kernel) (by decide +kernel)
  · exact bad_odd (by decide +kernel) (by decide +kernel)
theorem badH_ok (hf : 0 ≤ far) : ∀ d ∈ badH r far, BadDd b r d := by
  intro d hd
  simp only [badH, List.mem_cons, List.not_mem_nil, or_false] at hd
  rcases hd with rfl | rfl | rfl | rfl | rfl
  · exact bad_odd (by decide +kernel) (by decide +kernel)
  · exact bad_deed (no_copy (by omega))
  · exact bad_odd (by decide +kernel) (by decide +kernel)
  · exact bad_odd (by decide +kernel) (by decide +kernel)
  · exact bad_flat (by decide +kernel) (by decide +kernel)
theorem badJ_ok : ∀ d ∈ badJ, BadDd b r d := by
  intro d hd
  simp only [badJ, List.mem_cons, List.not_mem_nil, or_false] at hd
  rcases hd with rfl | rfl | rfl | rfl | rfl
  all_goals first | exact bad_flat (by decide +kernel) (by decide +kernel) | exact bad_odd (by decide +kernel) (by decide +kernel)
theorem app_ok {P : PyData → Prop} {xs ys : List PyData} (h : ∀ d ∈ xs, P d) (k : ∀ d ∈ ys, P d) : ∀ d ∈ xs ++ ys, P d := fun d hd => (List.mem_append.mp hd).elim (h d) (k d)
theorem badAll_ok (hf : 0 ≤ far) : ∀ d ∈ badAll b r far, BadDd b r d :=
  app_ok (app_ok (app_ok (app_ok (app_ok (app_ok (badA_ok hf) badB_ok) badC_ok) badE_ok) (badF_ok hf)) (badG_ok hf)) (badH_ok hf)
end
theorem it_odd {K : PySem.W.Frag} {ds es : List PyData} : ds.map (D K) ++ (es.map (D K) ++ [OddP K]) = ((ds ++ es).map some ++ [none]).map (itP K) := by
  simp [List.map_append, List.map_map, Function.comp_def, itP]
theorem it_more {K : PySem.W.Frag} {xs : List (Option PyData)} {es : List PyData} : xs.map (itP K) ++ es.map (D K) = (xs ++ es.map some).map (itP K) := by
  simp [List.map_append, List.map_map, Function.comp_def, itP]
theorem badX_all {b r : Int} {ds es : List PyData} (h : ∀ d ∈ ds, BadDd b r d) (k : ∀ d ∈ es, BadDd b r d) : ∀ x ∈ ((ds.map some ++ [none]) ++ es.map some), BadX b r x := by
  have key : ∀ {ds : List PyData}, (∀ d ∈ ds, BadDd b r d) → ∀ x ∈ ds.map some, BadX b r x := fun h x hx => by
    obtain ⟨d, hd, rfl⟩ := List.mem_map.mp hx
    obtain ⟨h1, h2⟩ := h d hd
    exact ⟨h1, fun _ e => by cases e; exact h2⟩
  intro x hx
  rcases List.mem_append.mp hx with hx | hx
  · rcases List.mem_append.mp hx with hx | hx
    · exact key h x hx
    · obtain rfl := List.mem_singleton.mp hx
      exact ⟨rfl, fun _ e => by cases e⟩
  · exact key k x hx
abbrev BdT := Addr × Deck × Int × Int
abbrev bdA (K : PySem.W.Frag) (x : BdT) : List Pr := match x with | (dk, D0, b, r) => [Av dk, D K (.int b), D K (.int r)]
abbrev bdM (x : BdT) : Mp := match x with | (dk, D0, b, r) => [(dk, DKo D0)]
abbrev bdR (K : PySem.W.Frag) (x : BdT) (Q : Pr) (μ : Mp) : Prop := match x with | (dk, D0, b, r) => ∃ x D1, Q = itP K x ∧ BadX b r x ∧ μ = [(dk, DKo D1)]
/-- refused here, whatever follows -/
def NotP (b r : Int) (cs : List (List Int)) (lo : Nat) (c : Int) (z : SI) : Prop := (∀ (ds : List SI) (k : Nat), addI b r cs (z :: ds) k lo c = .error k) ∧ SIok z
section
variable {b r : Int} {cs : List (List Int)} {lo : Nat} {c a : Int} {x : Deed}
theorem notP_bad {d : PyData} (h : BadIt b r cs.length lo d) : NotP b r cs lo c (.d d) := ⟨fun ds k => addI_bad (slipOf_none h.1), h.2⟩
theorem notP_not (h : (lo : Int) ≤ a ∧ a < cs.length ∧ x ∈ allDeeds b r) (hw : doSlip b cs a.toNat (doCols b ((cs.take a.toNat).drop lo) c).2 x = none) : NotP b r cs lo c (.d (slipD (a, x))) :=
  ⟨fun ds k => addI_not (slipOf_eq h) hw, itemOk_slip _⟩
theorem notP_copy {j : Int} (hn : 0 < cs.length) (h : 0 ≤ j ∧ j < r) : NotP b r cs 0 c (.d (slipD (0, .copy j))) :=
  notP_not ⟨Int.le_refl _, by omega, by rw [mem_all]; exact .inr (.inr (.inr (.inr (.inl ⟨j, rfl, h⟩))))⟩ (by unfold doSlip; rw [if_pos (.inl ⟨rfl, rfl⟩)])
theorem notP_swap (hn : lo < cs.length) : NotP b r cs lo c (.d (slipD ((cs.length : Int) - 1, .swap))) :=
  notP_not ⟨by omega, by omega, by rw [mem_all]; exact .inr (.inr (.inr (.inr (.inr (.inl rfl)))))⟩ (by unfold doSlip; rw [if_pos (.inr ⟨rfl, by omega⟩)])
theorem notP_forget {ds : List Deed} {F2 : List Int} {i : Nat} (h : addS b cs ds lo = some (F2, c, [])) (hi : lo ≤ i) (hn : i < cs.length) (hz : lawC b cs ds lo (i + 1) = 0) : NotP b r cs lo c (.d (slipD ((i : Int), .forget))) :=
  notP_not ⟨by omega, by omega, by rw [mem_all]; exact .inl rfl⟩ (by rw [Int.toNat_natCast]; exact forget_none h hi hn hz)
theorem notP_item {x : Option PyData} {z : SI} (h : BadX b r x) (hz : z = match x with | some d => .d (.tuple [.int a, d]) | none => .odd a) : NotP b r cs lo c z := by
  subst hz
  cases x with
  | none => exact ⟨fun ds k => rfl, trivial⟩
  | some d =>
    obtain ⟨h1, h2⟩ := h
    obtain ⟨h3, h4⟩ := h2 d rfl
    have h1 : isDeedD b r d = false := h1
    refine ⟨fun ds k => addI_bad (slipOf_none ?_), ?_⟩
    · show (isWhole (.int a) lo ((cs.length : Int) - 1) && isDeedD b r d) = false
      rw [h1, Bool.and_false]
    · refine ⟨by show 2 ≤ 100000; decide, (sh_tup (n := 3) fun y hy => ?_).ok, fun y hy => ?_⟩
      · simp only [List.mem_cons, List.not_mem_nil, or_false] at hy
        rcases hy with rfl | rfl
        · exact sh_int _
        · exact h4
      · simp only [itemsOf, List.mem_cons, List.not_mem_nil, or_false] at hy
        rcases hy with rfl | rfl
        · exact Nat.zero_le _
        · exact h3
end
abbrev NpT := Addr × Deck × Int × Int × List (List Int) × List Deed × Nat × List Int × Int
abbrev npA (K : PySem.W.Frag) (x : NpT) : List Pr := match x with | (dk, D0, b, r, cs, ds, lo, F2, c) => [Av dk, D K (.int b), D K (.int r), D K (.list (cs.map colD)), D K (.list (ds.map deedD)), D K (.int (lo : Int))]
abbrev npM (x : NpT) : Mp := match x with | (dk, D0, b, r, cs, ds, lo, F2, c) => [(dk, DKo D0)]
abbrev npPre (x : NpT) : Prop := match x with | (dk, D0, b, r, cs, ds, lo, F2, c) => GoodSh b r cs ∧ lo ≤ cs.length ∧ cs.length ≤ ds.length ∧ (∀ i, i < cs.length → DeedOk b r (dAt ds i)) ∧ addS b cs ds lo = some (F2, c, []) ∧ ds.length ≤ 1000
abbrev npR (K : PySem.W.Frag) (x : NpT) (Q : Pr) (μ : Mp) : Prop := match x with | (dk, D0, b, r, cs, ds, lo, F2, c) => ∃ d D1, Q = D K d ∧ NotP b r cs lo c (.d d) ∧ μ = [(dk, DKo D1)]
section
variable {δ : En} {μ : Mp} {ta : TA} {X : List Pr → Mp → Prop}
theorem y_tupX (h : EAX ta δ μ X) (hl : ∀ Ps μ2, X Ps μ2 → Ps.length ≤ 1000) : EY (tTup ta) δ μ (fun P μ2 => ∃ Ps, X Ps μ2 ∧ P = Tp Ps) := fun σ G M s m G1 H F e m1 Q z =>
  h σ G M s m G1 H F e m1 _ fun vs G2 M2 H2 Ps μ2 e2 m2 x2 a2 r2 => ⟨by rw [AP.len a2]; exact Nat.le_of_lt (small1000 (hl Ps μ2 x2)), fun p hp => by
    have g2 := m2.free hp
    exact z _ _ _ _ (e2.trans (Ex.new g2)) (m2.newF hp) ⟨_, μ2, ⟨Ps, x2, rfl⟩, ⟨p, vs, rfl, upd_same, AP.mono a2 (Ex.new g2)⟩, r2.mono (Ex.new g2)⟩⟩
end
/-- (a, deed) as an item -/
def mkSI (a : Int) : Option PyData → SI
  | some d => .d (.tuple [.int a, d])
  | none => .odd a
theorem imp_mkSI {K : PySem.W.Frag} {a : Int} : ∀ {x : Option PyData}, Imp (Tp [D K (.int a), itP K x]) (siP K (mkSI a x))
  | some d => imp_Tp ⟨Imp.refl _, Imp.refl _, trivial⟩
  | none => Imp.refl _
theorem notP_mk {b r : Int} {cs : List (List Int)} {lo : Nat} {c a : Int} {x : Option PyData} (h : BadX b r x) : NotP b r cs lo c (mkSI a x) := notP_item h (by cases x <;> rfl)
theorem si_sl {K : PySem.W.Frag} (sl : List (Int × Deed)) : (sl.map slipD).map (D K) = (sl.map slI).map (siP K) := by rw [List.map_map, List.map_map]; rfl
end SY
set_option maxRecDepth 100000
set_option maxHeartbeats 4000000
namespace LW
open PySem L2 SX SY
local macro_rules | `(tactic| walk_at "ex") => `(tactic| first | exact Ex.refl _ | assumption | (refine Ex.trans ?_ (by assumption); walk_at "ex"))
local macro_rules | `(tactic| walk_at "dp") => `(tactic| first | assumption | exact ints_dpAll _ | (refine dm (by assumption) ?_; walk_at "ex") | (refine dma (by assumption) ?_; walk_at "ex"))
local macro_rules | `(tactic| walk_at "da") => `(tactic| first | assumption | (refine Da.of ?_; walk_at "dp") | (refine Da.ex (by assumption) ?_; walk_at "ex"))
local macro_rules | `(tactic| walk_at "at") => `(tactic| first | assumption | (refine At.ex (by assumption) ?_; walk_at "ex") | (refine AtL.ex (by assumption) ?_; walk_at "ex"))
local macro_rules | `(tactic| walk_at "sd") => `(tactic| first | assumption | rfl | decide | omega)
local macro_rules | `(tactic| walk_at "ln") => `(tactic| first | (simp only [List.length_cons, List.length_nil, List.length_map, List.length_append, List.length_replicate]; omega) | decide | (simp; done) | (simp; omega))
local macro_rules | `(tactic| walk_at "sd") => `(tactic| first | assumption | exact cdiv_small (by omega) (by omega) | omega | decide | rfl | (constructor <;> omega) | exact .inr ⟨by omega, by omega⟩ | exact .inl ⟨by omega, by omega⟩ | (refine ⟨?_, ?_⟩ <;> (simp only [List.length_map, List.length_range] at *; omega)) | (simp only [List.length_map, List.length_append, List.length_cons, List.length_nil, List.length_range] at *; omega) | exact ⟨by omega, by decide⟩)
local macro_rules | `(tactic| walk_at "sh") => `(tactic| first | assumption | exact shd_slips _ | exact shd_deeds _ | exact (sh_ints (n := 0) _).ok | exact (sh_col (n := 0) _).ok | exact (sh_cols (n := 0) _).ok | exact (sh_deed (n := 0) _).ok | exact (sh_slip (n := 0) _).ok | exact (sh_int (n := 0) _).ok | exact (sh_non (n := 0)).ok | decide | rfl)
local macro_rules | `(tactic| walk_at "qv") => `(tactic| first | assumption | (with_reducible refine eqv_same ?_; walk_at "sh") | exact eqv_lst _ _ | exact eqv_col _ _ | exact eqv_cols _ _ | rfl)
local macro_rules | `(tactic| walk_at "lr") => `(tactic| first | exact lr_D | exact lr_H | exact lr_O 0 rfl | exact lr_O 1 rfl | exact lr_O 2 rfl | exact lr_O 3 rfl | exact lr_O 4 rfl | with_reducible assumption | (refine lr_cons ?_; walk_at "lr"))
local macro_rules | `(tactic| walk_at "dr") => `(tactic| first | exact dr_D | ((with_reducible apply dr_L); walk_at "lr"))
local macro_rules | `(tactic| walk_at "hyp") => `(tactic| (intro hh; (try simp only [decide_eq_true_eq, decide_eq_false_iff_not, Bool.not_eq_true', Bool.not_eq_false', Bool.and_eq_true, Bool.or_eq_false_iff] at hh)))
local macro_rules | `(tactic| walk_at "ev") => `(tactic| first
  | with_reducible assumption
  | ((with_reducible apply e_var); rfl)
  | with_reducible exact e_cI (K := $(Lean.mkIdent `K))
  | with_reducible exact e_cS (K := $(Lean.mkIdent `K))
  | with_reducible exact e_cN (K := $(Lean.mkIdent `K))
  | with_reducible exact e_cB (K := $(Lean.mkIdent `K))
  | ((with_reducible apply e_cst); (· (intro; first | exact Dp.non | exact Dp.int _ | exact Dp.str _ | exact Dp.bl _)))
  | ((with_reducible apply e_ixS0 (K := $(Lean.mkIdent `K))); (· walk_at "ev"))
  | ((with_reducible apply e_ixS1 (K := $(Lean.mkIdent `K))); (· walk_at "ev"))
  | ((with_reducible apply e_word (K := $(Lean.mkIdent `K))); (· walk_at "ev"))
  | walk_at "call"
  | walk_at "ev2")
local macro_rules | `(tactic| walk_at "ev2") => `(tactic| first
  | ((with_reducible apply e_add (K := $(Lean.mkIdent `K))); (· walk_at "ev"); (· walk_at "ev"))
  | ((with_reducible apply e_sub (K := $(Lean.mkIdent `K))); (· walk_at "ev"); (· walk_at "ev"))
  | ((with_reducible apply e_mul (K := $(Lean.mkIdent `K))); (· walk_at "ev"); (· walk_at "ev"); (· walk_at "sd"))
  | ((with_reducible apply e_mod (K := $(Lean.mkIdent `K))); (· walk_at "ev"); (· walk_at "ev"); (· walk_at "sd"))
  | ((with_reducible apply e_div (K := $(Lean.mkIdent `K))); (· walk_at "ev"); (· walk_at "ev"); (· walk_at "sd"))
  | ((with_reducible apply e_pow (K := $(Lean.mkIdent `K))); (· walk_at "ev"); (· walk_at "ev"); (· walk_at "sd"))
  | ((with_reducible apply e_lt (K := $(Lean.mkIdent `K))); (· walk_at "ev"); (· walk_at "ev"))
  | ((with_reducible apply e_le (K := $(Lean.mkIdent `K))); (· walk_at "ev"); (· walk_at "ev"))
  | ((with_reducible apply e_gt (K := $(Lean.mkIdent `K))); (· walk_at "ev"); (· walk_at "ev"))
  | ((with_reducible apply e_ge (K := $(Lean.mkIdent `K))); (· walk_at "ev"); (· walk_at "ev"))
  | ((with_reducible apply e_eqI (K := $(Lean.mkIdent `K))); (· walk_at "ev"); (· walk_at "ev"))
  | ((with_reducible apply e_eqS (K := $(Lean.mkIdent `K))); (· walk_at "ev"); (· walk_at "ev"))
  | ((with_reducible apply e_neI (K := $(Lean.mkIdent `K))); (· walk_at "ev"); (· walk_at "ev"))
  | ((with_reducible apply e_neS (K := $(Lean.mkIdent `K))); (· walk_at "ev"); (· walk_at "ev"))
  | ((with_reducible apply e_eqNS (K := $(Lean.mkIdent `K))); (· walk_at "ev"); (· walk_at "ev"))
  | ((with_reducible apply e_eqIS (K := $(Lean.mkIdent `K))); (· walk_at "ev"); (· walk_at "ev"))
  | ((with_reducible apply e_eqB (K := $(Lean.mkIdent `K))); (· walk_at "ev"); (· walk_at "ev"))
  | ((with_reducible apply e_eqNil (K := $(Lean.mkIdent `K))); (· walk_at "ev"); (· walk_at "lr"); (· walk_at "sh"))
  | ((with_reducible apply e_neNil (K := $(Lean.mkIdent `K))); (· walk_at "ev"); (· walk_at "lr"); (· walk_at "sh"))
  | ((with_reducible apply e_eqD (K := $(Lean.mkIdent `K))); (· walk_at "ev"); (· walk_at "ev"); (· walk_at "dr"); (· walk_at "dr"); (· walk_at "sh"); (· walk_at "sh"); (· walk_at "qv"))
  | ((with_reducible apply e_neD (K := $(Lean.mkIdent `K))); (· walk_at "ev"); (· walk_at "ev"); (· walk_at "dr"); (· walk_at "dr"); (· walk_at "sh"); (· walk_at "sh"); (· walk_at "qv"))
  | ((with_reducible apply e_inD (K := $(Lean.mkIdent `K))); (· walk_at "ev"); (· walk_at "ev"); (· walk_at "dr"); (· walk_at "dr"); (· walk_at "sh"); (· walk_at "sh"); (· walk_at "qv"))
  | ((with_reducible apply e_ninD (K := $(Lean.mkIdent `K))); (· walk_at "ev"); (· walk_at "ev"); (· walk_at "dr"); (· walk_at "dr"); (· walk_at "sh"); (· walk_at "sh"); (· walk_at "qv"))
  | ((with_reducible apply e_neg (K := $(Lean.mkIdent `K))); (· walk_at "ev"))
  | ((with_reducible apply e_isN (K := $(Lean.mkIdent `K))); (· walk_at "ev"))
  | ((with_reducible apply e_notN (K := $(Lean.mkIdent `K))); (· walk_at "ev"))
  | walk_at "ev3")
local macro_rules | `(tactic| walk_at "ev3") => `(tactic| first
  | ((with_reducible apply e_and (K := $(Lean.mkIdent `K))); (· walk_at "ev"); (· walk_at "hyp"; walk_at "ev"))
  | ((with_reducible apply e_or (K := $(Lean.mkIdent `K))); (· walk_at "ev"); (· walk_at "hyp"; walk_at "ev"))
  | ((with_reducible apply e_not (K := $(Lean.mkIdent `K))); (· walk_at "ev"))
  | ((with_reducible apply e_ifTr); (· walk_at "tv"); (· rfl); (· walk_at "ev"))
  | ((with_reducible apply e_ifFa); (· walk_at "tv"); (· rfl); (· walk_at "ev"))
  | ((with_reducible apply e_ifI (K := $(Lean.mkIdent `K))); (· walk_at "tv"); (· walk_at "hyp"; walk_at "ev"); (· walk_at "hyp"; walk_at "ev"))
  | ((with_reducible apply e_ifD (K := $(Lean.mkIdent `K))); (· walk_at "tv"); (· walk_at "hyp"; walk_at "ev"); (· walk_at "hyp"; walk_at "ev"))
  | ((with_reducible apply e_chLeLe (K := $(Lean.mkIdent `K))); (· walk_at "ev"); (· walk_at "ev"); (· walk_at "ev"))
  | ((with_reducible apply e_chLeLt (K := $(Lean.mkIdent `K))); (· walk_at "ev"); (· walk_at "ev"); (· walk_at "ev"))
  | ((with_reducible apply e_ixT (K := $(Lean.mkIdent `K))); (· walk_at "ev"); (· walk_at "ev"); (· rfl))
  | ((with_reducible apply e_ixCI (K := $(Lean.mkIdent `K))); (· walk_at "ev"); (· walk_at "ev"); (· walk_at "sd"))
  | ((with_reducible apply e_ixTI (K := $(Lean.mkIdent `K))); (· walk_at "ev"); (· walk_at "ev"); (· walk_at "sd"))
  | ((with_reducible apply e_ixTp (K := $(Lean.mkIdent `K))); (· walk_at "ev"); (· walk_at "ev"); (· rfl))
  | ((with_reducible apply e_ixL (K := $(Lean.mkIdent `K))); (· walk_at "ev"); (· walk_at "ev"); (· walk_at "lr"); (· rfl))
  | ((with_reducible apply e_ixLI (K := $(Lean.mkIdent `K))); (· walk_at "ev"); (· walk_at "ev"); (· walk_at "lr"); (· walk_at "sd"))
  | ((with_reducible apply e_ixLC (K := $(Lean.mkIdent `K))); (· walk_at "ev"); (· walk_at "ev"); (· walk_at "lr"); (· walk_at "sd"))
  | ((with_reducible apply e_ixLD (K := $(Lean.mkIdent `K))); (· walk_at "ev"); (· walk_at "ev"); (· walk_at "lr"); (· walk_at "sd"))
  | ((with_reducible apply e_ixLp (K := $(Lean.mkIdent `K))); (· walk_at "ev"); (· walk_at "ev"); (· rfl))
  | ((with_reducible apply e_tup (K := $(Lean.mkIdent `K))); (· walk_at "ed"); (· walk_at "ln"))
  | ((with_reducible apply e_isi (K := $(Lean.mkIdent `K))); (· walk_at "ev"); (· (first | exact .inl rfl | exact .inr (.inl rfl) | exact .inr (.inr (.inl rfl)) | exact .inr (.inr (.inr (.inl rfl))) | exact .inr (.inr (.inr (.inr rfl))))))
  | ((with_reducible apply e_len (K := $(Lean.mkIdent `K))); (· walk_at "ev"); (· walk_at "lr"))
  | ((with_reducible apply e_lenT (K := $(Lean.mkIdent `K))); (· walk_at "ev"))
  | ((with_reducible apply e_tupL (K := $(Lean.mkIdent `K))); (· walk_at "ev"); (· walk_at "lr"))
  | ((with_reducible apply e_tupT (K := $(Lean.mkIdent `K))); (· walk_at "ev"))
  | ((with_reducible apply e_int (K := $(Lean.mkIdent `K))); (· walk_at "ev"))
  | ((with_reducible apply e_intB (K := $(Lean.mkIdent `K))); (· walk_at "ev"))
  | ((with_reducible apply e_allO (K := $(Lean.mkIdent `K))); (· walk_at "eo"))
  | ((with_reducible apply e_anyO (K := $(Lean.mkIdent `K))); (· walk_at "eo"))
  | ((with_reducible apply e_sumO (K := $(Lean.mkIdent `K))); (· walk_at "eo"))
  | ((with_reducible apply e_sum (K := $(Lean.mkIdent `K))); (· walk_at "ev"); (· walk_at "lr"))
  | ((with_reducible apply e_sumC (K := $(Lean.mkIdent `K))); (· walk_at "ev"))
  | ((with_reducible apply e_lenC (K := $(Lean.mkIdent `K))); (· walk_at "ev"))
  | ((with_reducible apply e_sumT (K := $(Lean.mkIdent `K))); (· walk_at "ev"))
  | ((with_reducible apply e_catT (K := $(Lean.mkIdent `K))); (· walk_at "ev"); (· walk_at "ev"); (· walk_at "sd"))
  | ((with_reducible apply e_slT (K := $(Lean.mkIdent `K))); (· walk_at "ev"); (· walk_at "oy"); (· walk_at "oy"))
  | ((with_reducible apply EO.frz (K := $(Lean.mkIdent `K))); (· walk_at "eo")))
local macro_rules | `(tactic| walk_at "eo") => `(tactic| first
  | with_reducible assumption
  | walk_at "ocall"
  | ((with_reducible apply o_lst (K := $(Lean.mkIdent `K))); (· walk_at "ed"); (· walk_at "ln"))
  | ((with_reducible apply o_listC (K := $(Lean.mkIdent `K))); (· walk_at "ev"))
  | ((with_reducible apply o_list (K := $(Lean.mkIdent `K))); (· walk_at "ev"); (· walk_at "lr"))
  | ((with_reducible apply o_listT (K := $(Lean.mkIdent `K))); (· walk_at "ev"))
  | ((with_reducible apply o_catM (K := $(Lean.mkIdent `K))); (· walk_at "ev"); (· walk_at "ev"); (· walk_at "lr"); (· walk_at "lr"); (· walk_at "sd"))
  | ((with_reducible apply o_cat (K := $(Lean.mkIdent `K))); (· walk_at "ev"); (· walk_at "ev"); (· walk_at "lr"); (· walk_at "lr"); (· walk_at "sd"))
  | ((with_reducible apply o_cut2 (K := $(Lean.mkIdent `K))); (· walk_at "ev"); (· walk_at "ev"); (· walk_at "ev"); (· walk_at "lr"); (· walk_at "sd"); (· walk_at "sd"))
  | ((with_reducible apply o_cutL (K := $(Lean.mkIdent `K))); (· walk_at "ev"); (· walk_at "ev"); (· walk_at "lr"); (· walk_at "sd"))
  | ((with_reducible apply o_cutH (K := $(Lean.mkIdent `K))); (· walk_at "ev"); (· walk_at "ev"); (· walk_at "lr"); (· walk_at "sd"))
  | ((with_reducible apply o_slM (K := $(Lean.mkIdent `K))); (· walk_at "ev"); (· walk_at "oy"); (· walk_at "oy"); (· walk_at "lr"))
  | ((with_reducible apply o_sl (K := $(Lean.mkIdent `K))); (· walk_at "ev"); (· walk_at "oy"); (· walk_at "oy"); (· walk_at "lr"))
  | ((with_reducible apply o_revM (K := $(Lean.mkIdent `K))); (· walk_at "ev"); (· walk_at "lr"))
  | ((with_reducible apply o_rev (K := $(Lean.mkIdent `K))); (· walk_at "ev"); (· walk_at "lr"))
  | ((with_reducible apply o_mapL (K := $(Lean.mkIdent `K))); (· walk_at "ev"); (· walk_at "sd"); (· intro x hx; walk_at "ev"); (· decide))
  | ((with_reducible apply o_mapT (K := $(Lean.mkIdent `K))); (· walk_at "ev"); (· walk_at "sd"); (· intro x hx; walk_at "ev"); (· decide))
  | ((with_reducible apply o_mapR (K := $(Lean.mkIdent `K))); (· walk_at "ev"); (· walk_at "sd"); (· intro x hx; walk_at "ev"); (· decide))
  | ((with_reducible apply o_mapR2 (K := $(Lean.mkIdent `K))); (· walk_at "ev"); (· walk_at "ev"); (· walk_at "sd"); (· intro x hx hy; walk_at "ev"); (· decide))
  | ((with_reducible apply o_filtL (K := $(Lean.mkIdent `K))); (· walk_at "ev"); (· walk_at "sd"); (· intro x hx; walk_at "tv"); (· intro x hx hy; walk_at "ev"); (· decide))
  | ((with_reducible apply o_filtR (K := $(Lean.mkIdent `K))); (· walk_at "ev"); (· walk_at "sd"); (· intro x hx; walk_at "tv"); (· intro x hx hy; walk_at "ev"); (· decide)))
local macro_rules | `(tactic| walk_at "tv") => `(tactic| first
  | with_reducible assumption
  | with_reducible exact t_yes
  | ((with_reducible apply t_not); (· walk_at "tv"))
  | ((with_reducible apply t_and); (· walk_at "tv"); (· walk_at "hyp"; walk_at "tv"))
  | ((with_reducible apply t_or); (· walk_at "tv"); (· walk_at "hyp"; walk_at "tv"))
  | ((with_reducible apply t_B (K := $(Lean.mkIdent `K))); (· walk_at "ev"))
  | ((with_reducible apply t_test (K := $(Lean.mkIdent `K))); (· walk_at "ev")))
local macro_rules | `(tactic| walk_at "oy") => `(tactic| first | with_reducible exact y_none | ((with_reducible apply y_some (K := $(Lean.mkIdent `K))); (· walk_at "ev")))
local macro_rules | `(tactic| walk_at "ea") => `(tactic| first | with_reducible exact a_nil | ((with_reducible apply a_cons); (· walk_at "ev"); (· walk_at "ea")))
local macro_rules | `(tactic| walk_at "ed") => `(tactic| first | with_reducible exact d_nil (K := $(Lean.mkIdent `K)) | ((with_reducible apply d_cons (K := $(Lean.mkIdent `K))); (· walk_at "ev"); (· walk_at "ed")) | ((with_reducible apply d_star (K := $(Lean.mkIdent `K))); (· walk_at "ev"); (· walk_at "lr"); (· walk_at "ed"); (· rfl)))
local macro_rules | `(tactic| walk_at "yle1") => `(tactic| first | with_reducible exact Le.refl _ | ((with_reducible refine Le.same ?_); walk_at "yle1") | ((with_reducible refine Le.drop ?_); walk_at "yle1") | (refine Le.same ?_; walk_at "yle1") | (refine Le.drop ?_; walk_at "yle1"))
local macro_rules | `(tactic| walk_at "le") => `(tactic| ((try dsimp only [List.set]); walk_at "yle1"))
local macro_rules | `(tactic| walk_at "let") => `(tactic| refine s_let (by walk_at "ev") ?_)
local macro_rules | `(tactic| walk_at "do") => `(tactic| refine s_do (by walk_at "ev") ?_)
local macro_rules | `(tactic| walk_at "ret") => `(tactic| refine s_ret (by walk_at "ev") ?_)
local macro_rules | `(tactic| walk_at "retD") => `(tactic| (refine s_ret (by walk_at "ev") ?_; refine back_D (imp_D ?_)))
local macro_rules | `(tactic| walk_at "ret=") => `(tactic| (refine s_ret (by walk_at "ev") ?_; refine back_D (imp_D ?_); rfl))
local macro_rules | `(tactic| walk_at "retK") => `(tactic| (refine s_ret (by walk_at "ev") ?_; refine back_K (imp_D ?_) ?_ <;> rfl))
local macro_rules | `(tactic| walk_at "no") => `(tactic| refine s_ifr (by walk_at "tv") (fun h => by cases h) (fun _ => ?_))
local macro_rules | `(tactic| walk_at "unp2") => `(tactic| refine s_unp2 (K := $(Lean.mkIdent `K)) (by walk_at "ev") ?_)
local macro_rules | `(tactic| walk_at "sr") => `(tactic| first | exact sr_F | with_reducible assumption | exact sr_O 0 rfl | exact sr_O 1 rfl | exact sr_O 2 rfl | exact sr_O 3 rfl | exact sr_O 4 rfl | (refine sr_cons ?_; walk_at "sr"))
local macro_rules | `(tactic| walk_at "call") => `(tactic| first
  | ((with_reducible apply e_draw); (· walk_at "ea"); (· walk_at "sd"))
  | ((with_reducible apply e_shBase); (· walk_at "ev"); (· walk_at "sr"))
  | ((with_reducible apply e_shRows); (· walk_at "ev"); (· walk_at "sr"))
  | ((with_reducible apply e_shVal); (· walk_at "ev"); (· walk_at "sr"); (· walk_at "sd"))
  | ((with_reducible apply e_shLen); (· walk_at "ev"); (· walk_at "sr"); (· walk_at "sd"))
  | ((with_reducible apply e_shIx); (· walk_at "ev"); (· walk_at "ev"); (· walk_at "sr"); (· walk_at "sd"))
  | ((with_reducible apply e_wrBase); (· walk_at "ev"))
  | ((with_reducible apply e_wrLast); (· walk_at "ev"))
  | ((with_reducible apply e_wrVal); (· walk_at "ev"); (· walk_at "sd"))
  | ((with_reducible apply e_wrRest); (· walk_at "ev"); (· walk_at "ev"); (· walk_at "sd"); (· walk_at "sd"))
  | ((with_reducible apply e_wrSub); (· walk_at "ev"); (· walk_at "ev"); (· walk_at "sr"); (· walk_at "sd"); (· walk_at "sd"); (· walk_at "sd"))
  | ((with_reducible apply e_wrEq); (· walk_at "ev"); (· walk_at "ev"))
  | ((with_reducible apply e_mkWr); (· walk_at "ev"); (· walk_at "ev"); (· walk_at "ev"); (· walk_at "lr"))
  | ((with_reducible apply e_shCmp); (· walk_at "ev"); (· walk_at "ev"); (· walk_at "sr"); (· walk_at "sr"))
  | ((with_reducible apply e_whole); (· walk_at "ea"))
  | ((with_reducible apply e_d1); (· walk_at "ea"))
  | ((with_reducible apply e_place); (· walk_at "ea"); (· walk_at "sd"))
  | ((with_reducible apply e_power); (· walk_at "ea"); (· walk_at "sd"); (· walk_at "sd"))
  | ((with_reducible apply e_lcol); (· walk_at "ea"); (· walk_at "sd"); (· walk_at "sd"))
  | ((with_reducible apply e_isiT2); (· walk_at "ev")))
local macro_rules | `(tactic| walk_at "ocall") => `(tactic| first
  | ((with_reducible apply o_shCols); (· walk_at "ev"); (· walk_at "sr"))
  | ((with_reducible apply o_wrFigs); (· walk_at "ev"))
  | ((with_reducible apply o_lcols); (· walk_at "ea"); (· walk_at "sd"); (· walk_at "sd"); (· walk_at "sd")))
local macro_rules | `(tactic| walk_at "bk") => `(tactic| (apply backY_mk; (· exact ⟨rfl, rfl⟩); (case hs => first | exact List.Sublist.refl _ | exact List.nil_sublist _ | exact List.sublist_cons_self _ _ | exact List.sublist_append_left _ _); refine imp_D ?_))
local macro_rules | `(tactic| walk_at "retR") => `(tactic| (refine s_ret (by walk_at "ev") ?_; walk_at "bk"))
local macro_rules | `(tactic| walk_at "retR=") => `(tactic| (walk_at "retR"; rfl))
local macro_rules | `(tactic| walk_at "call") => `(tactic| ((with_reducible apply e_lv); (· walk_at "ea"); (· walk_at "lr"); (· walk_at "sd"); (· walk_at "sd")))
local macro_rules | `(tactic| walk_at "Ret") => `(tactic| ((with_reducible apply s_ret); (· walk_at "ev")))
local macro_rules | `(tactic| walk_at "Let") => `(tactic| ((with_reducible apply s_let); (· walk_at "ev")))
local macro_rules | `(tactic| walk_at "Do") => `(tactic| ((with_reducible apply s_do); (· walk_at "ev")))
local macro_rules | `(tactic| walk_at "Own") => `(tactic| ((with_reducible apply s_own); (· walk_at "eo"); intro; (try simp only [List.nil_append, List.cons_append])))
local macro_rules | `(tactic| walk_at "Ifr") => `(tactic| ((with_reducible apply s_ifr); (· walk_at "tv")))
local macro_rules | `(tactic| walk_at "Ifs") => `(tactic| ((with_reducible apply s_ifs); (· walk_at "tv")))
local macro_rules | `(tactic| walk_at "If") => `(tactic| ((with_reducible apply s_if); (· walk_at "tv")))
local macro_rules | `(tactic| walk_at "No") => `(tactic| (walk_at "Ifr"; (· (intro hh; exfalso; revert hh; first | simp; done | (simp; omega))); intro _))
local macro_rules | `(tactic| walk_at "Unp") => `(tactic| first | ((with_reducible apply s_unp2); (· walk_at "ev")) | ((with_reducible apply s_unp3); (· walk_at "ev")) | ((with_reducible apply s_unp2P); (· walk_at "ev")))
local macro_rules | `(tactic| walk_at "go") => `(tactic| repeat (first | walk_at "Let" | walk_at "Do" | walk_at "Unp"))
local macro_rules | `(tactic| walk_at "Ff") => `(tactic| (walk_at "Ifr"; (· (intro hh; cases hh)); intro _))
local macro_rules | `(tactic| walk_at "Set") => `(tactic| ((with_reducible apply s_set); (· walk_at "ev")))
local macro_rules | `(tactic| walk_at "RetD") => `(tactic| (walk_at "Ret"; refine back_D (imp_D ?_)))
local macro_rules | `(tactic| walk_at "Tt") => `(tactic| (walk_at "Ifr"; rotate_left; (· (intro hh; cases hh)); intro _))
local macro_rules | `(tactic| walk_at "RetR") => `(tactic| (walk_at "Ret"; walk_at "bk"))
local macro_rules | `(tactic| walk_at "call") => `(tactic| ((with_reducible apply e_isiO (ic := ($(Lean.mkIdent `T)).ic_Written) (cl := ($(Lean.mkIdent `T)).cl_Written) (hk := ($(Lean.mkIdent `T)).io_Written)); (· walk_at "ev"); (· exact ins_wr)))
local macro_rules | `(tactic| walk_at "call") => `(tactic| ((with_reducible apply e_isiO (ic := ($(Lean.mkIdent `T)).ic_Sheet) (cl := ($(Lean.mkIdent `T)).cl_Sheet) (hk := ($(Lean.mkIdent `T)).io_Sheet)); (· walk_at "ev"); (· (apply ins_sh; walk_at "sr"))))
local macro_rules | `(tactic| walk_at "call") => `(tactic| first
  | (refine e_eqW .right rfl ?_; walk_at "ev")
  | (refine e_eqW .twice rfl ?_; walk_at "ev")
  | (refine e_eqW .out rfl ?_; walk_at "ev")
  | (refine e_eqW .swap rfl ?_; walk_at "ev")
  | (refine e_eqW .forget rfl ?_; walk_at "ev")
  | (refine e_eqW .again rfl ?_; walk_at "ev")
  | (refine e_neW .right rfl ?_; walk_at "ev")
  | (refine e_neW .twice rfl ?_; walk_at "ev")
  | (refine e_neW .out rfl ?_; walk_at "ev")
  | (refine e_neW .swap rfl ?_; walk_at "ev")
  | (refine e_neW .forget rfl ?_; walk_at "ev"))
local macro_rules | `(tactic| walk_at "rd") => `(tactic| first | exact rd_D | assumption | (refine rd_L ?_; walk_at "lr"))
local macro_rules | `(tactic| walk_at "call") => `(tactic| first
  | ((with_reducible apply e_fldP); (· walk_at "ev"); (· exact ($(Lean.mkIdent `T)).cl_Kind); (· first | exact ($(Lean.mkIdent `T)).na_Kind__base | exact ($(Lean.mkIdent `T)).na_Kind__rows | exact ($(Lean.mkIdent `T)).na_Kind__deeds | exact ($(Lean.mkIdent `T)).na_Kind__most); (· rfl))
  | ((with_reducible apply e_isiO (ic := ($(Lean.mkIdent `T)).ic_Kind) (cl := ($(Lean.mkIdent `T)).cl_Kind) (hk := ($(Lean.mkIdent `T)).io_Kind)); (· walk_at "ev"); (· exact ins_ob)))
def topS (i : Nat) : Stmt := PySem.Challenge.pw_sumslips_k11_slips_that_are_refused.main.body.getD i (.Pass ⟨0, 0, 0, 0⟩)
abbrev s_is_whole : Stmt := topS 28
abbrev s_is_column : Stmt := topS 35
abbrev s__are_columns : Stmt := topS 36
abbrev s_is_base : Stmt := topS 29
abbrev s_is_rows : Stmt := topS 30
abbrev s_Sheet___init__ : Stmt := inClass (topS 37) 0
abbrev s_Sheet_columns : Stmt := inClass (topS 37) 3
abbrev s__law_taken : Stmt := topS 50
abbrev s__law_step : Stmt := topS 51
abbrev s__law_add : Stmt := topS 55
abbrev s__law_draw : Stmt := topS 45
abbrev s__law_bad_deed : Stmt := topS 58
abbrev s__law_bad_item : Stmt := topS 59
abbrev s__law_cells : Stmt := topS 43
abbrev s__law_column : Stmt := topS 46
abbrev s__law_columns : Stmt := topS 47
abbrev s__law_deck : Stmt := topS 44
abbrev s__law_is_integer : Stmt := topS 48
abbrev s__law_low : Stmt := topS 61
abbrev s__law_without_carry : Stmt := topS 57
abbrev s__law_not_possible : Stmt := topS 60
abbrev s__law_deed : Stmt := topS 52
abbrev s__law_plan : Stmt := topS 53
abbrev s_InvalidSlips___init__ : Stmt := inClass (topS 24) 0
abbrev s_Sheet_base : Stmt := inClass (topS 37) 1
abbrev s_Written___init__ : Stmt := inClass (topS 39) 0
abbrev s_do_sum : Stmt := topS 7
abbrev s_do_columns : Stmt := topS 8
abbrev s_sum_taken : Stmt := topS 6
abbrev s_do_slip : Stmt := topS 9
abbrev s_Sheet___len__ : Stmt := inClass (topS 37) 5
abbrev s_Sheet_rows : Stmt := inClass (topS 37) 2
abbrev s__is_plain : Stmt := topS 3
abbrev s_deeds_of : Stmt := topS 2
abbrev s_is_deed : Stmt := topS 4
abbrev s_is_slip : Stmt := topS 40
abbrev s_add_with : Stmt := topS 41
abbrev s__law_refused : Stmt := topS 56
abbrev s__law_slips : Stmt := topS 54
abbrev s_Written_base : Stmt := inClass (topS 39) 1
abbrev s_Written_figures : Stmt := inClass (topS 39) 2
abbrev s_Written_last : Stmt := inClass (topS 39) 3
abbrev s__law_written_right : Stmt := topS 49
abbrev s_law : Stmt := topS 62
theorem sc_is_whole : FnScope ["value", "low", "high"] ["value", "low", "high"] (defScope s_is_whole) := ⟨rfl, rfl, rfl, by decide +kernel, rfl, by decide +kernel, by decide +kernel⟩
theorem sc_is_column : FnScope ["base", "rows", "value", "figure"] ["base", "rows", "value"] (defScope s_is_column) := ⟨rfl, rfl, rfl, by decide +kernel, rfl, by decide +kernel, by decide +kernel⟩
theorem sc__are_columns : FnScope ["base", "rows", "value", "column"] ["base", "rows", "value"] (defScope s__are_columns) := ⟨rfl, rfl, rfl, by decide +kernel, rfl, by decide +kernel, by decide +kernel⟩
theorem sc_is_base : FnScope ["value"] ["value"] (defScope s_is_base) := ⟨rfl, rfl, rfl, by decide +kernel, rfl, by decide +kernel, by decide +kernel⟩
theorem sc_is_rows : FnScope ["value"] ["value"] (defScope s_is_rows) := ⟨rfl, rfl, rfl, by decide +kernel, rfl, by decide +kernel, by decide +kernel⟩
theorem sc_Sheet___init__ : FnScope ["self", "base", "rows", "columns", "column"] ["self", "base", "rows", "columns"] (defScope s_Sheet___init__) := ⟨rfl, rfl, rfl, by decide +kernel, rfl, by decide +kernel, by decide +kernel⟩
theorem sc_Sheet_columns : FnScope ["self"] ["self"] (defScope s_Sheet_columns) := ⟨rfl, rfl, rfl, by decide +kernel, rfl, by decide +kernel, by decide +kernel⟩
theorem sc__law_taken : FnScope ["base", "columns", "i", "deed", "figures"] ["base", "columns", "i", "deed"] (defScope s__law_taken) := ⟨rfl, rfl, rfl, by decide +kernel, rfl, by decide +kernel, by decide +kernel⟩
theorem sc__law_step : FnScope ["base", "columns", "i", "deed", "carry", "word", "total", "figure", "after"] ["base", "columns", "i", "deed", "carry"] (defScope s__law_step) := ⟨rfl, rfl, rfl, by decide +kernel, rfl, by decide +kernel, by decide +kernel⟩
theorem sc__law_add : FnScope ["base", "columns", "deeds", "figures", "carry", "waiting", "i", "found"] ["base", "columns", "deeds"] (defScope s__law_add) := ⟨rfl, rfl, rfl, by decide +kernel, rfl, by decide +kernel, by decide +kernel⟩
theorem sc__law_draw : FnScope ["deck", "many", "stir", "drawn"] ["deck", "many"] (defScope s__law_draw) := ⟨rfl, rfl, rfl, by decide +kernel, rfl, by decide +kernel, by decide +kernel⟩
theorem sc__law_bad_deed : FnScope ["deck", "base", "rows", "far", "some"] ["deck", "base", "rows"] (defScope s__law_bad_deed) := ⟨rfl, rfl, rfl, by decide +kernel, rfl, by decide +kernel, by decide +kernel⟩
theorem sc__law_bad_item : FnScope ["deck", "base", "rows", "columns", "low", "many", "far", "some"] ["deck", "base", "rows", "columns", "low"] (defScope s__law_bad_item) := ⟨rfl, rfl, rfl, by decide +kernel, rfl, by decide +kernel, by decide +kernel⟩
theorem sc__law_cells : FnScope ["script"] ["script"] (defScope s__law_cells) := ⟨rfl, rfl, rfl, by decide +kernel, rfl, by decide +kernel, by decide +kernel⟩
theorem sc__law_column : FnScope ["deck", "base", "rows", "way", "figures", "j"] ["deck", "base", "rows"] (defScope s__law_column) := ⟨rfl, rfl, rfl, by decide +kernel, rfl, by decide +kernel, by decide +kernel⟩
theorem sc__law_columns : FnScope ["deck", "base", "rows", "most", "many", "i"] ["deck", "base", "rows", "most"] (defScope s__law_columns) := ⟨rfl, rfl, rfl, by decide +kernel, rfl, by decide +kernel, by decide +kernel⟩
theorem sc__law_deck : FnScope ["cell"] ["cell"] (defScope s__law_deck) := ⟨rfl, rfl, rfl, by decide +kernel, rfl, by decide +kernel, by decide +kernel⟩
theorem sc__law_is_integer : FnScope ["found"] ["found"] (defScope s__law_is_integer) := ⟨rfl, rfl, rfl, by decide +kernel, rfl, by decide +kernel, by decide +kernel⟩
theorem sc__law_low : FnScope ["slips"] ["slips"] (defScope s__law_low) := ⟨rfl, rfl, rfl, by decide +kernel, rfl, by decide +kernel, by decide +kernel⟩
theorem sc__law_without_carry : FnScope ["base", "columns", "deeds", "low", "found", "carry", "i", "deed"] ["base", "columns", "deeds", "low"] (defScope s__law_without_carry) := ⟨rfl, rfl, rfl, by decide +kernel, rfl, by decide +kernel, by decide +kernel⟩
theorem sc__law_not_possible : FnScope ["deck", "base", "rows", "columns", "deeds", "low", "some", "i"] ["deck", "base", "rows", "columns", "deeds", "low"] (defScope s__law_not_possible) := ⟨rfl, rfl, rfl, by decide +kernel, rfl, by decide +kernel, by decide +kernel⟩
theorem sc__law_deed : FnScope ["deck", "base", "rows", "way", "d", "j"] ["deck", "base", "rows"] (defScope s__law_deed) := ⟨rfl, rfl, rfl, by decide +kernel, rfl, by decide +kernel, by decide +kernel⟩
theorem sc__law_plan : FnScope ["deck", "base", "rows", "columns", "often", "deeds", "carry", "i", "deed", "found"] ["deck", "base", "rows", "columns", "often"] (defScope s__law_plan) := ⟨rfl, rfl, rfl, by decide +kernel, rfl, by decide +kernel, by decide +kernel⟩
theorem ss_InvalidSlips___init__ : SupS s_InvalidSlips___init__ := ⟨rfl, rfl, rfl, by decide +kernel, by decide +kernel, rfl, rfl, rfl, rfl, ⟨_, rfl, rfl⟩, ⟨_, _, _, _, _, _, _, _, _, _, _, _, _, _, _, _, _, _, rfl, by decide +kernel, by decide +kernel, fun _ _ _ _ _ => ⟨_, rfl⟩, fun _ _ _ _ _ => rfl, fun _ _ _ _ _ => rfl⟩⟩
theorem sc_Sheet_base : FnScope ["self"] ["self"] (defScope s_Sheet_base) := ⟨rfl, rfl, rfl, by decide +kernel, rfl, by decide +kernel, by decide +kernel⟩
theorem sc_Written___init__ : FnScope ["self", "base", "figures", "last"] ["self", "base", "figures", "last"] (defScope s_Written___init__) := ⟨rfl, rfl, rfl, by decide +kernel, rfl, by decide +kernel, by decide +kernel⟩
theorem sc_do_sum : FnScope ["base", "taken", "carry", "deed", "word", "total", "figure"] ["base", "taken", "carry", "deed"] (defScope s_do_sum) := ⟨rfl, rfl, rfl, by decide +kernel, rfl, by decide +kernel, by decide +kernel⟩
theorem sc_do_columns : FnScope ["base", "columns", "carry", "figures", "column", "right"] ["base", "columns", "carry"] (defScope s_do_columns) := ⟨rfl, rfl, rfl, by decide +kernel, rfl, by decide +kernel, by decide +kernel⟩
theorem sc_sum_taken : FnScope ["base", "column", "deed", "copied", "total", "figure"] ["base", "column", "deed", "copied"] (defScope s_sum_taken) := ⟨rfl, rfl, rfl, by decide +kernel, rfl, by decide +kernel, by decide +kernel⟩
theorem sc_do_slip : FnScope ["base", "columns", "at", "carry", "deed", "word", "copied", "done", "figures"] ["base", "columns", "at", "carry", "deed"] (defScope s_do_slip) := ⟨rfl, rfl, rfl, by decide +kernel, rfl, by decide +kernel, by decide +kernel⟩
theorem sc_Sheet___len__ : FnScope ["self"] ["self"] (defScope s_Sheet___len__) := ⟨rfl, rfl, rfl, by decide +kernel, rfl, by decide +kernel, by decide +kernel⟩
theorem sc_Sheet_rows : FnScope ["self"] ["self"] (defScope s_Sheet_rows) := ⟨rfl, rfl, rfl, by decide +kernel, rfl, by decide +kernel, by decide +kernel⟩
theorem sc__is_plain : FnScope ["value", "item"] ["value"] (defScope s__is_plain) := ⟨rfl, rfl, rfl, by decide +kernel, rfl, by decide +kernel, by decide +kernel⟩
theorem sc_deeds_of : FnScope ["base", "rows", "offs", "reads", "copies", "by", "row"] ["base", "rows"] (defScope s_deeds_of) := ⟨rfl, rfl, rfl, by decide +kernel, rfl, by decide +kernel, by decide +kernel⟩
theorem sc_is_deed : FnScope ["base", "rows", "value"] ["base", "rows", "value"] (defScope s_is_deed) := ⟨rfl, rfl, rfl, by decide +kernel, rfl, by decide +kernel, by decide +kernel⟩
theorem sc_is_slip : FnScope ["sheet", "low", "value"] ["sheet", "low", "value"] (defScope s_is_slip) := ⟨rfl, rfl, rfl, by decide +kernel, rfl, by decide +kernel, by decide +kernel⟩
theorem sc_add_with : FnScope ["sheet", "slips", "base", "columns", "figures", "carry", "low", "index", "item", "right", "at", "deed", "done", "wrong"] ["sheet", "slips"] (defScope s_add_with) := ⟨rfl, rfl, rfl, by decide +kernel, rfl, by decide +kernel, by decide +kernel⟩
theorem sc__law_refused : FnScope ["sheet", "slips", "told", "e", "odd"] ["sheet", "slips"] (defScope s__law_refused) := ⟨rfl, rfl, rfl, by decide +kernel, rfl, by decide +kernel, by decide +kernel⟩
theorem sc__law_slips : FnScope ["deeds", "i"] ["deeds"] (defScope s__law_slips) := ⟨rfl, rfl, rfl, by decide +kernel, rfl, by decide +kernel, by decide +kernel⟩
theorem sc_Written_base : FnScope ["self"] ["self"] (defScope s_Written_base) := ⟨rfl, rfl, rfl, by decide +kernel, rfl, by decide +kernel, by decide +kernel⟩
theorem sc_Written_figures : FnScope ["self"] ["self"] (defScope s_Written_figures) := ⟨rfl, rfl, rfl, by decide +kernel, rfl, by decide +kernel, by decide +kernel⟩
theorem sc_Written_last : FnScope ["self"] ["self"] (defScope s_Written_last) := ⟨rfl, rfl, rfl, by decide +kernel, rfl, by decide +kernel, by decide +kernel⟩
theorem sc__law_written_right : FnScope ["found", "base", "figures", "last", "told", "figure"] ["found", "base", "figures", "last"] (defScope s__law_written_right) := ⟨rfl, rfl, rfl, by decide +kernel, rfl, by decide +kernel, by decide +kernel⟩
theorem sc_law : FnScope ["script", "cell", "deck", "way", "base", "rows", "columns", "deeds", "slips", "index", "low", "bad", "sheet", "due", "passed", "told"] ["script"] (defScope s_law) := ⟨rfl, rfl, rfl, by decide +kernel, rfl, by decide +kernel, by decide +kernel⟩
structure Txt (P : Program) (K : PySem.W.Frag) (mg : Str → Option Value) where
  c_Sheet : Addr
  m_Sheet : mg "Sheet" = some (.ref c_Sheet)
  c_Written : Addr
  m_Written : mg "Written" = some (.ref c_Written)
  c_SlipError : Addr
  m_SlipError : mg "SlipError" = some (.ref c_SlipError)
  c_InvalidSheet : Addr
  m_InvalidSheet : mg "InvalidSheet" = some (.ref c_InvalidSheet)
  c_InvalidColumn : Addr
  m_InvalidColumn : mg "InvalidColumn" = some (.ref c_InvalidColumn)
  c_InvalidKind : Addr
  m_InvalidKind : mg "InvalidKind" = some (.ref c_InvalidKind)
  c_InvalidLot : Addr
  m_InvalidLot : mg "InvalidLot" = some (.ref c_InvalidLot)
  c_NotAlike : Addr
  m_NotAlike : mg "NotAlike" = some (.ref c_NotAlike)
  c_NotPossible : Addr
  m_NotPossible : mg "NotPossible" = some (.ref c_NotPossible)
  c_TooMany : Addr
  m_TooMany : mg "TooMany" = some (.ref c_TooMany)
  c_Waits : Addr
  m_Waits : mg "Waits" = some (.ref c_Waits)
  c_InvalidText : Addr
  m_InvalidText : mg "InvalidText" = some (.ref c_InvalidText)
  c_InvalidCommand : Addr
  m_InvalidCommand : mg "InvalidCommand" = some (.ref c_InvalidCommand)
  c_NothingToUndo : Addr
  m_NothingToUndo : mg "NothingToUndo" = some (.ref c_NothingToUndo)
  c_NotReady : Addr
  m_NotReady : mg "NotReady" = some (.ref c_NotReady)
  c_InvalidSlips : Addr
  m_InvalidSlips : mg "InvalidSlips" = some (.ref c_InvalidSlips)
  a_is_whole : Addr
  fd_is_whole : FuncData
  F_is_whole : Fun K "is_whole" "is_whole" s_is_whole a_is_whole fd_is_whole
  b_is_whole : Binds K fd_is_whole ["value", "low", "high"] []
  m_is_whole : mg "is_whole" = some (.ref a_is_whole)
  a_is_column : Addr
  fd_is_column : FuncData
  F_is_column : Fun K "is_column" "is_column" s_is_column a_is_column fd_is_column
  b_is_column : Binds K fd_is_column ["base", "rows", "value"] []
  m_is_column : mg "is_column" = some (.ref a_is_column)
  a__are_columns : Addr
  fd__are_columns : FuncData
  F__are_columns : Fun K "_are_columns" "_are_columns" s__are_columns a__are_columns fd__are_columns
  b__are_columns : Binds K fd__are_columns ["base", "rows", "value"] []
  m__are_columns : mg "_are_columns" = some (.ref a__are_columns)
  a_is_base : Addr
  fd_is_base : FuncData
  F_is_base : Fun K "is_base" "is_base" s_is_base a_is_base fd_is_base
  b_is_base : Binds K fd_is_base ["value"] []
  m_is_base : mg "is_base" = some (.ref a_is_base)
  a_is_rows : Addr
  fd_is_rows : FuncData
  F_is_rows : Fun K "is_rows" "is_rows" s_is_rows a_is_rows fd_is_rows
  b_is_rows : Binds K fd_is_rows ["value"] []
  m_is_rows : mg "is_rows" = some (.ref a_is_rows)
  a_Sheet___init__ : Addr
  fd_Sheet___init__ : FuncData
  F_Sheet___init__ : Fun K "__init__" "Sheet.__init__" s_Sheet___init__ a_Sheet___init__ fd_Sheet___init__
  b_Sheet___init__ : Binds K fd_Sheet___init__ ["self", "base", "rows", "columns"] []
  me_Sheet___init__ : Meth K c_Sheet "__init__" a_Sheet___init__
  a_Sheet_columns : Addr
  fd_Sheet_columns : FuncData
  F_Sheet_columns : Fun K "columns" "Sheet.columns" s_Sheet_columns a_Sheet_columns fd_Sheet_columns
  b_Sheet_columns : Binds K fd_Sheet_columns ["self"] []
  pa_Sheet_columns : Addr
  p_Sheet_columns : PropOf K c_Sheet "columns" pa_Sheet_columns a_Sheet_columns
  a__law_taken : Addr
  fd__law_taken : FuncData
  F__law_taken : Fun K "_law_taken" "_law_taken" s__law_taken a__law_taken fd__law_taken
  b__law_taken : Binds K fd__law_taken ["base", "columns", "i", "deed"] []
  m__law_taken : mg "_law_taken" = some (.ref a__law_taken)
  a__law_step : Addr
  fd__law_step : FuncData
  F__law_step : Fun K "_law_step" "_law_step" s__law_step a__law_step fd__law_step
  b__law_step : Binds K fd__law_step ["base", "columns", "i", "deed", "carry"] []
  m__law_step : mg "_law_step" = some (.ref a__law_step)
  a__law_add : Addr
  fd__law_add : FuncData
  F__law_add : Fun K "_law_add" "_law_add" s__law_add a__law_add fd__law_add
  b__law_add : Binds K fd__law_add ["base", "columns", "deeds"] []
  m__law_add : mg "_law_add" = some (.ref a__law_add)
  a__law_draw : Addr
  fd__law_draw : FuncData
  F__law_draw : Fun K "_law_draw" "_law_draw" s__law_draw a__law_draw fd__law_draw
  b__law_draw : Binds K fd__law_draw ["deck", "many"] []
  m__law_draw : mg "_law_draw" = some (.ref a__law_draw)
  a__law_bad_deed : Addr
  fd__law_bad_deed : FuncData
  F__law_bad_deed : Fun K "_law_bad_deed" "_law_bad_deed" s__law_bad_deed a__law_bad_deed fd__law_bad_deed
  b__law_bad_deed : Binds K fd__law_bad_deed ["deck", "base", "rows"] []
  m__law_bad_deed : mg "_law_bad_deed" = some (.ref a__law_bad_deed)
  a__law_bad_item : Addr
  fd__law_bad_item : FuncData
  F__law_bad_item : Fun K "_law_bad_item" "_law_bad_item" s__law_bad_item a__law_bad_item fd__law_bad_item
  b__law_bad_item : Binds K fd__law_bad_item ["deck", "base", "rows", "columns", "low"] []
  m__law_bad_item : mg "_law_bad_item" = some (.ref a__law_bad_item)
  a__law_cells : Addr
  fd__law_cells : FuncData
  F__law_cells : Fun K "_law_cells" "_law_cells" s__law_cells a__law_cells fd__law_cells
  b__law_cells : Binds K fd__law_cells ["script"] []
  m__law_cells : mg "_law_cells" = some (.ref a__law_cells)
  a__law_column : Addr
  fd__law_column : FuncData
  F__law_column : Fun K "_law_column" "_law_column" s__law_column a__law_column fd__law_column
  b__law_column : Binds K fd__law_column ["deck", "base", "rows"] []
  m__law_column : mg "_law_column" = some (.ref a__law_column)
  a__law_columns : Addr
  fd__law_columns : FuncData
  F__law_columns : Fun K "_law_columns" "_law_columns" s__law_columns a__law_columns fd__law_columns
  b__law_columns : Binds K fd__law_columns ["deck", "base", "rows", "most"] []
  m__law_columns : mg "_law_columns" = some (.ref a__law_columns)
  a__law_deck : Addr
  fd__law_deck : FuncData
  F__law_deck : Fun K "_law_deck" "_law_deck" s__law_deck a__law_deck fd__law_deck
  b__law_deck : Binds K fd__law_deck ["cell"] []
  m__law_deck : mg "_law_deck" = some (.ref a__law_deck)
  a__law_is_integer : Addr
  fd__law_is_integer : FuncData
  F__law_is_integer : Fun K "_law_is_integer" "_law_is_integer" s__law_is_integer a__law_is_integer fd__law_is_integer
  b__law_is_integer : Binds K fd__law_is_integer ["found"] []
  m__law_is_integer : mg "_law_is_integer" = some (.ref a__law_is_integer)
  a__law_low : Addr
  fd__law_low : FuncData
  F__law_low : Fun K "_law_low" "_law_low" s__law_low a__law_low fd__law_low
  b__law_low : Binds K fd__law_low ["slips"] []
  m__law_low : mg "_law_low" = some (.ref a__law_low)
  a__law_without_carry : Addr
  fd__law_without_carry : FuncData
  F__law_without_carry : Fun K "_law_without_carry" "_law_without_carry" s__law_without_carry a__law_without_carry fd__law_without_carry
  b__law_without_carry : Binds K fd__law_without_carry ["base", "columns", "deeds", "low"] []
  m__law_without_carry : mg "_law_without_carry" = some (.ref a__law_without_carry)
  a__law_not_possible : Addr
  fd__law_not_possible : FuncData
  F__law_not_possible : Fun K "_law_not_possible" "_law_not_possible" s__law_not_possible a__law_not_possible fd__law_not_possible
  b__law_not_possible : Binds K fd__law_not_possible ["deck", "base", "rows", "columns", "deeds", "low"] []
  m__law_not_possible : mg "_law_not_possible" = some (.ref a__law_not_possible)
  a__law_deed : Addr
  fd__law_deed : FuncData
  F__law_deed : Fun K "_law_deed" "_law_deed" s__law_deed a__law_deed fd__law_deed
  b__law_deed : Binds K fd__law_deed ["deck", "base", "rows"] []
  m__law_deed : mg "_law_deed" = some (.ref a__law_deed)
  a__law_plan : Addr
  fd__law_plan : FuncData
  F__law_plan : Fun K "_law_plan" "_law_plan" s__law_plan a__law_plan fd__law_plan
  b__law_plan : Binds K fd__law_plan ["deck", "base", "rows", "columns", "often"] []
  m__law_plan : mg "_law_plan" = some (.ref a__law_plan)
  a_InvalidSlips___init__ : Addr
  fd_InvalidSlips___init__ : FuncData
  sup_InvalidSlips : SupC P K mg c_InvalidSlips a_InvalidSlips___init__ fd_InvalidSlips___init__ "InvalidSlips.__init__" s_InvalidSlips___init__
  sx_InvalidSlips : SupI K c_InvalidSlips a_InvalidSlips___init__ fd_InvalidSlips___init__
  a_Sheet_base : Addr
  fd_Sheet_base : FuncData
  F_Sheet_base : Fun K "base" "Sheet.base" s_Sheet_base a_Sheet_base fd_Sheet_base
  b_Sheet_base : Binds K fd_Sheet_base ["self"] []
  pa_Sheet_base : Addr
  p_Sheet_base : PropOf K c_Sheet "base" pa_Sheet_base a_Sheet_base
  a_Written___init__ : Addr
  fd_Written___init__ : FuncData
  F_Written___init__ : Fun K "__init__" "Written.__init__" s_Written___init__ a_Written___init__ fd_Written___init__
  b_Written___init__ : Binds K fd_Written___init__ ["self", "base", "figures", "last"] []
  me_Written___init__ : Meth K c_Written "__init__" a_Written___init__
  a_do_sum : Addr
  fd_do_sum : FuncData
  F_do_sum : Fun K "do_sum" "do_sum" s_do_sum a_do_sum fd_do_sum
  b_do_sum : Binds K fd_do_sum ["base", "taken", "carry", "deed"] []
  m_do_sum : mg "do_sum" = some (.ref a_do_sum)
  a_do_columns : Addr
  fd_do_columns : FuncData
  F_do_columns : Fun K "do_columns" "do_columns" s_do_columns a_do_columns fd_do_columns
  b_do_columns : Binds K fd_do_columns ["base", "columns", "carry"] []
  m_do_columns : mg "do_columns" = some (.ref a_do_columns)
  a_sum_taken : Addr
  fd_sum_taken : FuncData
  F_sum_taken : Fun K "sum_taken" "sum_taken" s_sum_taken a_sum_taken fd_sum_taken
  b_sum_taken : Binds K fd_sum_taken ["base", "column", "deed", "copied"] []
  m_sum_taken : mg "sum_taken" = some (.ref a_sum_taken)
  a_do_slip : Addr
  fd_do_slip : FuncData
  F_do_slip : Fun K "do_slip" "do_slip" s_do_slip a_do_slip fd_do_slip
  b_do_slip : Binds K fd_do_slip ["base", "columns", "at", "carry", "deed"] []
  m_do_slip : mg "do_slip" = some (.ref a_do_slip)
  a_Sheet___len__ : Addr
  fd_Sheet___len__ : FuncData
  F_Sheet___len__ : Fun K "__len__" "Sheet.__len__" s_Sheet___len__ a_Sheet___len__ fd_Sheet___len__
  b_Sheet___len__ : Binds K fd_Sheet___len__ ["self"] []
  me_Sheet___len__ : Meth K c_Sheet "__len__" a_Sheet___len__
  a_Sheet_rows : Addr
  fd_Sheet_rows : FuncData
  F_Sheet_rows : Fun K "rows" "Sheet.rows" s_Sheet_rows a_Sheet_rows fd_Sheet_rows
  b_Sheet_rows : Binds K fd_Sheet_rows ["self"] []
  pa_Sheet_rows : Addr
  p_Sheet_rows : PropOf K c_Sheet "rows" pa_Sheet_rows a_Sheet_rows
  a__is_plain : Addr
  fd__is_plain : FuncData
  F__is_plain : Fun K "_is_plain" "_is_plain" s__is_plain a__is_plain fd__is_plain
  b__is_plain : Binds K fd__is_plain ["value"] []
  m__is_plain : mg "_is_plain" = some (.ref a__is_plain)
  a_deeds_of : Addr
  fd_deeds_of : FuncData
  F_deeds_of : Fun K "deeds_of" "deeds_of" s_deeds_of a_deeds_of fd_deeds_of
  b_deeds_of : Binds K fd_deeds_of ["base", "rows"] []
  m_deeds_of : mg "deeds_of" = some (.ref a_deeds_of)
  a_is_deed : Addr
  fd_is_deed : FuncData
  F_is_deed : Fun K "is_deed" "is_deed" s_is_deed a_is_deed fd_is_deed
  b_is_deed : Binds K fd_is_deed ["base", "rows", "value"] []
  m_is_deed : mg "is_deed" = some (.ref a_is_deed)
  a_is_slip : Addr
  fd_is_slip : FuncData
  F_is_slip : Fun K "is_slip" "is_slip" s_is_slip a_is_slip fd_is_slip
  b_is_slip : Binds K fd_is_slip ["sheet", "low", "value"] []
  m_is_slip : mg "is_slip" = some (.ref a_is_slip)
  a_add_with : Addr
  fd_add_with : FuncData
  F_add_with : Fun K "add_with" "add_with" s_add_with a_add_with fd_add_with
  b_add_with : Binds K fd_add_with ["sheet", "slips"] []
  m_add_with : mg "add_with" = some (.ref a_add_with)
  a__law_refused : Addr
  fd__law_refused : FuncData
  F__law_refused : Fun K "_law_refused" "_law_refused" s__law_refused a__law_refused fd__law_refused
  b__law_refused : Binds K fd__law_refused ["sheet", "slips"] []
  m__law_refused : mg "_law_refused" = some (.ref a__law_refused)
  a__law_slips : Addr
  fd__law_slips : FuncData
  F__law_slips : Fun K "_law_slips" "_law_slips" s__law_slips a__law_slips fd__law_slips
  b__law_slips : Binds K fd__law_slips ["deeds"] []
  m__law_slips : mg "_law_slips" = some (.ref a__law_slips)
  a_Written_base : Addr
  fd_Written_base : FuncData
  F_Written_base : Fun K "base" "Written.base" s_Written_base a_Written_base fd_Written_base
  b_Written_base : Binds K fd_Written_base ["self"] []
  pa_Written_base : Addr
  p_Written_base : PropOf K c_Written "base" pa_Written_base a_Written_base
  a_Written_figures : Addr
  fd_Written_figures : FuncData
  F_Written_figures : Fun K "figures" "Written.figures" s_Written_figures a_Written_figures fd_Written_figures
  b_Written_figures : Binds K fd_Written_figures ["self"] []
  pa_Written_figures : Addr
  p_Written_figures : PropOf K c_Written "figures" pa_Written_figures a_Written_figures
  a_Written_last : Addr
  fd_Written_last : FuncData
  F_Written_last : Fun K "last" "Written.last" s_Written_last a_Written_last fd_Written_last
  b_Written_last : Binds K fd_Written_last ["self"] []
  pa_Written_last : Addr
  p_Written_last : PropOf K c_Written "last" pa_Written_last a_Written_last
  a__law_written_right : Addr
  fd__law_written_right : FuncData
  F__law_written_right : Fun K "_law_written_right" "_law_written_right" s__law_written_right a__law_written_right fd__law_written_right
  b__law_written_right : Binds K fd__law_written_right ["found", "base", "figures", "last"] []
  m__law_written_right : mg "_law_written_right" = some (.ref a__law_written_right)
  a_law : Addr
  fd_law : FuncData
  F_law : Fun K "law" "law" s_law a_law fd_law
  b_law : Binds K fd_law ["script"] []
  m_law : mg "law" = some (.ref a_law)
  cl_Sheet : Cls K c_Sheet
  k_Sheet : Mk K c_Sheet a_Sheet___init__
  na_Sheet__base : NoAttr K c_Sheet "_base"
  na_Sheet__columns : NoAttr K c_Sheet "_columns"
  na_Sheet__rows : NoAttr K c_Sheet "_rows"
  cl_Written : Cls K c_Written
  k_Written : Mk K c_Written a_Written___init__
  na_Written__base : NoAttr K c_Written "_base"
  na_Written__figures : NoAttr K c_Written "_figures"
  na_Written__last : NoAttr K c_Written "_last"
  x_InvalidSheet : PySem.W.excIn K c_InvalidSheet [.type "ValueError", .type "Exception", .type "BaseException", .type "object"] "ValueError.__new__" = true
  xk_InvalidSheet : PySem.W.keepIn K (.ref c_InvalidSheet) = true
  xb_InvalidSheet : PySem.W.subIn K (.ref c_InvalidSheet) (.type "BaseException") = some true
  xt_InvalidSheet : PySem.W.typeIn K (.ref c_InvalidSheet) = some (.type "type")
  e_InvalidSlips : ExcC K c_InvalidSlips
  q_InvalidSlips_SlipError : PySem.W.kitOne K (.ref c_InvalidSlips) (.ref c_SlipError) = some true
  em_InvalidSlips_InvalidSlips : PySem.W.exmOne K (.ref c_InvalidSlips) (.ref c_InvalidSlips) = some true
  q_InvalidSlips_ValueError : PySem.W.kitOne K (.ref c_InvalidSlips) (.type "ValueError") = some true
  qa_InvalidSlips_1 : PySem.W.kitAny K (.ref c_InvalidSlips) [.ref c_InvalidSheet, .ref c_InvalidCommand, .ref c_InvalidKind, .ref c_InvalidLot, .ref c_InvalidColumn, .ref c_InvalidText] = some false
  qa_InvalidSlips_2 : PySem.W.kitAny K (.ref c_InvalidSlips) [.ref c_NotAlike, .ref c_NotPossible, .ref c_NotReady, .ref c_NothingToUndo, .ref c_TooMany, .ref c_Waits] = some false
  n_ValueError : mg "ValueError" = none
  n_all : mg "all" = none
  n_bool : mg "bool" = none
  n_enumerate : mg "enumerate" = none
  n_int : mg "int" = none
  n_isinstance : mg "isinstance" = none
  n_len : mg "len" = none
  n_list : mg "list" = none
  n_max : mg "max" = none
  n_range : mg "range" = none
  n_str : mg "str" = none
  n_sum : mg "sum" = none
  n_super : mg "super" = none
  n_tuple : mg "tuple" = none
  tk_MOST_BASE : Tok
  m_MOST_BASE : mg "MOST_BASE" = some (.int 12 tk_MOST_BASE)
  tk_MOST_ROWS : Tok
  m_MOST_ROWS : mg "MOST_ROWS" = some (.int 4 tk_MOST_ROWS)
section
variable {P : Program} {w : World} {K : PySem.W.Frag} {mg : Str → Option Value} {base : Heap}
theorem ok_is_whole (T : Txt P K mg) : FnOk P w K mg base CX0 1 T.a_is_whole T.fd_is_whole ["value", "low", "high"] (spec (wholePre K) wholePost) := by
  refine fn_sv T.F_is_whole sc_is_whole (fun x G M vs h => by obtain ⟨v, rfl, _⟩ := h; rfl) fun cdv A outer s H E hr => ⟨_, (pss_one (ps_ret (pe_and (pe_callB (k_isi (K := K) rfl) (by rfl) T.n_isinstance (by decide +kernel) (pa_cons (pv 0) (pa_cons (pe_bltn (v := .ty "int") (by rfl) T.n_int (by decide +kernel) rfl) pa_nil))) (pe_and (pe_not (pe_callB (k_isi (K := K) rfl) (by rfl) T.n_isinstance (by decide +kernel) (pa_cons (pv 0) (pa_cons (pe_bltn (v := .ty "bool") (by rfl) T.n_bool (by decide +kernel) rfl) pa_nil)))) (pe_one (pe_chain op_le op_le (pv 1) (pv 0) (pv 2))))))), ?_⟩
  rintro ⟨d, lo, hi⟩ G M vs ⟨v, rfl, (dv : Dp K G v d)⟩
  refine sv_ret (ev_andV (ev_isi (.inl rfl) (ev_varP rfl dv)) fun h1 => ev_andV (b := decide (lo ≤ intOf d) && decide (intOf d ≤ hi)) (ev_notV (ev_isi (.inr (.inl rfl)) (ev_varP rfl dv))) fun h2 => ?_) fun v' G' M' e r => ?_
  · have hd := isInt_of h1 (by simpa using h2)
    refine ev_chainI (i := lo) (j := intOf d) (k := hi) (P := fun i j => decide (i ≤ j)) (P' := fun i j => decide (i ≤ j)) (ev_var rfl) (ev_dI (K := K) (ev_varP rfl (by rw [hd] at dv; exact dv))) (ev_var rfl) (fun _ _ q => ⟨_, _, rfl, rfl, q⟩) (fun _ _ q => ⟨_, _, rfl, rfl, q⟩)
  · obtain ⟨rfl, rfl⟩ := r
    refine ⟨?_, rfl⟩
    show V.bl (isTy d "int" && (!isTy d "bool" && _)) = V.bl (isInt d && _)
    rw [← isInt_ty, Bool.and_assoc]
theorem ok_is_column (T : Txt P K mg) : FnOk P w K mg base CX0 2 T.a_is_column T.fd_is_column ["base", "rows", "value"] (spec (colPre K) (colPost isCol)) := by
  refine fn_sv T.F_is_column sc_is_column (fun x G M vs h => by obtain ⟨v, rfl, _⟩ := h; rfl) fun cdv A outer s H E hr => ⟨_, (pss_cons (ps_if (PW.pt (pw_or (pt_not (pt_val (pe_callB (k_isi (K := K) rfl) (by rfl) T.n_isinstance (by decide +kernel) (pa_cons (pv 2) (pa_cons (pe_bltn (v := .ty "tuple") (by rfl) T.n_tuple (by decide +kernel) rfl) pa_nil))))) (pw_or1 (pt_cmpR op_ne (pe_callB (k_len (K := K) rfl) (by rfl) T.n_len (by decide +kernel) (pa_cons (pv 2) pa_nil)) (pv 1) (nomark _))))) (pss_one (ps_ret (pe_bl))) (pss_nil)) (pss_one (ps_ret (pe_callB (k_all (K := K) rfl rfl) (by rfl) T.n_all (by decide +kernel) (pa_cons (pe_lc (own := [("figure", 3)]) (g := gName 3) (tt := tYes) rfl sc_is_column.nd (pi_tup (pv 2)) (blkOk_by (N := ["base", "rows", "value", "figure"]) (sc := defScope s_is_column) (by decide +kernel)) (fun _ _ _ _ _ => pg_name (i := 3) sc_is_column.nd rfl (Or.inl rfl)) (fun _ _ _ _ _ => pts_nil) (fun _ _ _ _ _ => pe_call (ok_is_whole T) (hr.mono (by decide)) (by rfl) T.m_is_whole T.F_is_whole.kp T.b_is_whole .nil pass0 (pa_cons (pv 3) (pa_cons (pe_int) (pa_cons (pe_op op_sub (pv 0) (pe_int)) pa_nil))))) pa_nil))))), ?_⟩
  rintro ⟨b, r, d⟩ G M vs ⟨v, rfl, (dv : Dp K G v d), (hz : dlen d ≤ 100000)⟩
  refine sv_ifs (et_or (b := !decide ((dlen d : Int) = r)) (et_not (et_B (ev_isi (.inr (.inr (.inl rfl))) (ev_varP rfl dv)))) ?_) ?_ ?_
  · intro h
    obtain ⟨ds, rfl⟩ := tup_of (by simpa using h)
    exact et_test (ev_neI (ev_lenT (K := K) (ev_varP rfl dv)) (ev_var rfl))
  · intro G1 e1 hb
    refine sv_ret ev_c fun v' G' M' e r => ?_
    obtain ⟨rfl, rfl⟩ := r
    refine ⟨?_, rfl⟩
    show V.bl false = V.bl (isCol b r d)
    cases d with
    | tuple ds =>
      rw [isTy_tup] at hb
      have : ¬ ((ds.length : Int) = r) := fun z => by simp [dlen, z] at hb
      simp [isCol, this]
    | _ => rfl
  · intro G1 e1 hb
    refine sv_next fun G2 e2 => ?_
    have hb' : isTy d "tuple" = true ∧ (dlen d : Int) = r := by simpa using hb
    obtain ⟨ds, rfl⟩ := tup_of hb'.1
    have hl : (ds.length : Int) = r := hb'.2
    have e12 := e1.trans e2
    refine sv_ret (ev_allT (K := K) (f := fun d => isWhole d 0 (b - 1)) (ev_varP rfl (dm dv e12)) hz (fun i d x G' hd e dx => ?_) (fun _ => rfl)) fun v' G' M' e r' => ?_
    · exact ev_whole (ea_cons (ev_varP rfl dx) (ea_cons ev_c (ea_cons (ev_I0 (ev_var rfl) ev_c) ea_nil)))
    · obtain ⟨rfl, rfl⟩ := r'
      refine ⟨?_, rfl⟩
      show V.bl _ = V.bl (isCol b r (.tuple ds))
      simp [isCol, hl]
theorem ok__are_columns (T : Txt P K mg) : FnOk P w K mg base CX0 3 T.a__are_columns T.fd__are_columns ["base", "rows", "value"] (spec (colsPre K) (colPost areCols)) := by
  refine fn_sv T.F__are_columns sc__are_columns (fun x G M vs h => by obtain ⟨v, rfl, _⟩ := h; rfl) fun cdv A outer s H E hr => ⟨_, (pss_cons (ps_if (pt_not (pt_val (pe_callB (k_isi (K := K) rfl) (by rfl) T.n_isinstance (by decide +kernel) (pa_cons (pv 2) (pa_cons (pe_bltn (v := .ty "list") (by rfl) T.n_list (by decide +kernel) rfl) pa_nil))))) (pss_one (ps_ret (pe_bl))) (pss_nil)) (pss_one (ps_ret (pe_callB (k_all (K := K) rfl rfl) (by rfl) T.n_all (by decide +kernel) (pa_cons (pe_lc (own := [("column", 3)]) (g := gName 3) (tt := tYes) rfl sc__are_columns.nd (pi_list (pv 2)) (blkOk_by (N := ["base", "rows", "value", "column"]) (sc := defScope s__are_columns) (by decide +kernel)) (fun _ _ _ _ _ => pg_name (i := 3) sc__are_columns.nd rfl (Or.inl rfl)) (fun _ _ _ _ _ => pts_nil) (fun _ _ _ _ _ => pe_call (ok_is_column T) (hr.mono (by decide)) (by rfl) T.m_is_column T.F_is_column.kp T.b_is_column .nil pass0 (pa_cons (pv 0) (pa_cons (pv 1) (pa_cons (pv 3) pa_nil))))) pa_nil))))), ?_⟩
  rintro ⟨b, r, d⟩ G M vs ⟨v, rfl, (dt : Dt K G M v d), (hz : dlen d ≤ 100000), (hy : ∀ ds, d = .list ds → ∀ c ∈ ds, dlen c ≤ 100000)⟩
  refine sv_ifs (et_not (et_B (ev_isiA (K := K) (.inr (.inr (.inr (.inl rfl)))) (ev_var rfl) dt.da))) ?_ ?_
  · intro G1 e1 hb
    refine sv_ret ev_c fun v' G' M' e r' => ?_
    obtain ⟨rfl, rfl⟩ := r'
    refine ⟨?_, rfl⟩
    show V.bl false = V.bl (areCols b r d)
    cases d with
    | list ds =>
      rw [isTy_lst] at hb
      cases hb
    | _ => rfl
  · intro G1 e1 hb
    refine sv_next fun G2 e2 => ?_
    have hb' : isTy d "list" = true := by simpa using hb
    obtain ⟨ds, rfl⟩ := lst_of hb'
    have e12 := e1.trans e2
    obtain ⟨a, xs, rfl, hA, hd⟩ := dt.lst
    refine sv_ret (ev_allA (K := K) (f := fun d => isCol b r d) (ev_var rfl) (hA.ex e12) (dma hd e12) hz (fun i d x G' hd e dx => ?_) (fun _ => rfl)) fun v' G' M' e r' => ?_
    · exact ev_col (f := isCol) (ea_cons (ev_var rfl) (ea_cons (ev_var rfl) (ea_cons (ev_varP rfl dx) ea_nil))) (hy ds rfl d (List.mem_of_getElem? hd))
    · obtain ⟨rfl, rfl⟩ := r'
      refine ⟨?_, rfl⟩
      show V.bl _ = V.bl (areCols b r (.list ds))
      rfl
theorem ok_is_base (T : Txt P K mg) : FnOk P w K mg base CX0 2 T.a_is_base T.fd_is_base ["value"] (spec (d1Pre K) (b1Post fun d => isWhole d 2 12)) := by
  refine fn_sv T.F_is_base sc_is_base (fun x G M vs h => by obtain ⟨v, rfl, _⟩ := h; rfl) fun cdv A outer s H E hr => ⟨_, (pss_one (ps_ret (pe_call (ok_is_whole T) (hr.mono (by decide)) (by rfl) T.m_is_whole T.F_is_whole.kp T.b_is_whole .nil pass0 (pa_cons (pv 0) (pa_cons (pe_int) (pa_cons (pe_glob (v := .int 12) (by rfl) T.m_MOST_BASE ⟨_, rfl⟩) pa_nil)))))), ?_⟩
  rintro d G M vs ⟨v, rfl, dv⟩
  exact sv_ret (ev_whole (ea_cons (ev_varP rfl dv) (ea_cons ev_c (ea_cons ev_c ea_nil)))) fun v' G' M' e r => r
theorem ok_is_rows (T : Txt P K mg) : FnOk P w K mg base CX0 2 T.a_is_rows T.fd_is_rows ["value"] (spec (d1Pre K) (b1Post fun d => isWhole d 1 4)) := by
  refine fn_sv T.F_is_rows sc_is_rows (fun x G M vs h => by obtain ⟨v, rfl, _⟩ := h; rfl) fun cdv A outer s H E hr => ⟨_, (pss_one (ps_ret (pe_call (ok_is_whole T) (hr.mono (by decide)) (by rfl) T.m_is_whole T.F_is_whole.kp T.b_is_whole .nil pass0 (pa_cons (pv 0) (pa_cons (pe_int) (pa_cons (pe_glob (v := .int 4) (by rfl) T.m_MOST_ROWS ⟨_, rfl⟩) pa_nil)))))), ?_⟩
  rintro d G M vs ⟨v, rfl, dv⟩
  exact sv_ret (ev_whole (ea_cons (ev_varP rfl dv) (ea_cons ev_c (ea_cons ev_c ea_nil)))) fun v' G' M' e r => r
theorem ok_Sheet___init__ (T : Txt P K mg) : FnOk P w K mg base (L2.CX P w) 4 T.a_Sheet___init__ T.fd_Sheet___init__ ["self", "base", "rows", "columns"] (specX (initPre K T.c_Sheet) (initPost K T.c_Sheet) (initExc T.c_InvalidSheet)) := by
  refine fn_svX T.F_Sheet___init__ sc_Sheet___init__ (fun x G M vs h => by obtain ⟨rfl, _⟩ := h; rfl) fun cdv A outer s H E hr => ⟨_, (pss_cons (ps_if (pt_not (pt_val (pe_call (ok_is_base T) (hr.mono (by decide)) (by rfl) T.m_is_base T.F_is_base.kp T.b_is_base .nil pass0 (pa_cons (pv 1) pa_nil)))) (pss_one (ps_raise rfl (takes_of rfl rfl rfl rfl) (pmk_own PySem.F.excBase_ValueError T.x_InvalidSheet T.m_InvalidSheet T.xk_InvalidSheet (raises_own T.xb_InvalidSheet T.xt_InvalidSheet) rfl))) (pss_nil)) (pss_cons (ps_if (pt_not (pt_val (pe_call (ok_is_rows T) (hr.mono (by decide)) (by rfl) T.m_is_rows T.F_is_rows.kp T.b_is_rows .nil pass0 (pa_cons (pv 2) pa_nil)))) (pss_one (ps_raise rfl (takes_of rfl rfl rfl rfl) (pmk_own PySem.F.excBase_ValueError T.x_InvalidSheet T.m_InvalidSheet T.xk_InvalidSheet (raises_own T.xb_InvalidSheet T.xt_InvalidSheet) rfl))) (pss_nil)) (pss_cons (ps_if (pt_not (pt_val (pe_call (ok__are_columns T) (hr.mono (by decide)) (by rfl) T.m__are_columns T.F__are_columns.kp T.b__are_columns .nil pass0 (pa_cons (pv 1) (pa_cons (pv 2) (pa_cons (pv 3) pa_nil)))))) (pss_one (ps_raise rfl (takes_of rfl rfl rfl rfl) (pmk_own PySem.F.excBase_ValueError T.x_InvalidSheet T.m_InvalidSheet T.xk_InvalidSheet (raises_own T.xb_InvalidSheet T.xt_InvalidSheet) rfl))) (pss_nil)) (pss_cons (ps_fld (pv 0) (pv 1) rfl) (pss_cons (ps_fld (pv 0) (pv 2) rfl) (pss_one (ps_fld (pv 0) (pe_lc (own := [("column", 4)]) (g := gName 4) (tt := tYes) rfl sc_Sheet___init__.nd (pi_list (pv 3)) (blkOk_by (N := ["self", "base", "rows", "columns", "column"]) (sc := defScope s_Sheet___init__) (by decide +kernel)) (fun _ _ _ _ _ => pg_name (i := 4) sc_Sheet___init__.nd rfl (Or.inl rfl)) (fun _ _ _ _ _ => pts_nil) (fun _ _ _ _ _ => pe_callTy (k_tup (K := K) rfl) (by rfl) T.n_tuple (by decide +kernel) (pa_cons (pv 4) pa_nil))) rfl))))))), ?_⟩
  rintro ⟨p, dx, vb, vr, vc, db, dr, dc⟩ G M vs ⟨rfl, M0, rfl, (hdb : Dp K G vb db), (hdr : Dp K G vr dr), (hdc : Dt K G M0 vc dc), (hz : dlen dc ≤ 100000), (hy : ∀ ds, dc = .list ds → ∀ c ∈ ds, dlen c ≤ 100000)⟩
  refine sv_ifs (et_not (et_B (ev_d1 (K := K) (ev_varP rfl hdb)))) (fun G1 e1 hb => sv_raise fun G2 e2 => ?_) fun G1 e1 hb => sv_next fun G2 e2 => ?_
  · exact ⟨by show (_ && _) = false; rw [show isWhole db 2 12 = false by simpa using hb]; rfl, rfl, rfl, rfl⟩
  have hw1 : isWhole db 2 12 = true := by simpa using hb
  refine sv_ifs (et_not (et_B (ev_d1 (K := K) (ev_varP rfl (dm hdr (e1.trans e2)))))) (fun G1 e1 hb => sv_raise fun G2 e2 => ?_) fun G3 e3 hb => sv_next fun G4 e4 => ?_
  · exact ⟨by show (_ && (_ && _)) = false; rw [show isWhole dr 1 4 = false by simpa using hb]; simp, rfl, rfl, rfl⟩
  have hw2 : isWhole dr 1 4 = true := by simpa using hb
  obtain ⟨b, rfl, b2, b12⟩ := whole_int hw1
  obtain ⟨r, rfl, r1, r4⟩ := whole_int hw2
  obtain rfl := dp_int hdb
  obtain rfl := dp_int hdr
  have e14 := ((e1.trans e2).trans e3).trans e4
  have hdc' : Dt K G4 (M0 ++ [(p, HO.ins T.c_Sheet dx [])]) vc dc := by
    rcases hdc with h | ⟨a, xs, ds, h1, h2, h3, h4⟩
    · exact .inl (dm h e14)
    · exact .inr ⟨a, xs, ds, h1, h2, h3.more.ex e14, dma h4 e14⟩
  refine sv_ifs (et_not (et_B (ev_cols (K := K) (f := areCols) (ea_cons (ev_var rfl) (ea_cons (ev_var rfl) (ea_cons (ev_var rfl) ea_nil))) hdc' hz hy))) (fun G1 e1 hb => sv_raise fun G2 e2 => ?_) fun G5 e5 hb => sv_next fun G6 e6 => ?_
  · exact ⟨by show (_ && (_ && areCols b r dc)) = false; rw [show areCols b r dc = false by simpa using hb]; simp, rfl, rfl, rfl⟩
  have hac : areCols b r dc = true := by simpa using hb
  obtain ⟨ds, rfl⟩ : ∃ ds, dc = .list ds := by
    cases dc with
    | list ds => exact ⟨ds, rfl⟩
    | _ => cases hac
  obtain ⟨a, xs, rfl, hA, hd⟩ := hdc.lst
  have hall : ∀ d ∈ ds, isCol b r d = true := List.all_eq_true.mp hac
  have hok : okSh (.int b) (.int r) (.list ds) = true := by
    unfold okSh
    rw [hw1, hw2]
    exact hac
  have e16 := (e14.trans e5).trans e6
  have hn0 : (M0 ++ [(p, HO.ins T.c_Sheet dx [])])[M0.length]? = some (p, .ins T.c_Sheet dx []) := by simp
  refine sv_seq (N := fun G' σ' M' => σ' = [some (.ref p), some (.int b), some (.int r), some (.ref a), none] ∧ M' = M0 ++ [(p, .ins T.c_Sheet dx (putF "_base" (.int b) []))]) (sv_fld (p := p) (C := T.c_Sheet) (dx := dx) (fs := []) (n := M0.length) (ev_var rfl) (fun G1 v' M1 e hR => ?_) T.cl_Sheet T.na_Sheet__base (by decide) fun G1 G2 v' M1 e e' hR => ?_) ?_
  · obtain ⟨rfl, rfl⟩ := hR
    exact ⟨ev_var rfl, hn0⟩
  · obtain ⟨rfl, rfl⟩ := hR
    exact ⟨rfl, by simp [List.set_append]⟩
  rintro G7 σ7 M7 e7 ⟨rfl, rfl⟩
  refine sv_seq (N := fun G' σ' M' => σ' = [some (.ref p), some (.int b), some (.int r), some (.ref a), none] ∧ M' = M0 ++ [(p, .ins T.c_Sheet dx (putF "_rows" (.int r) (putF "_base" (.int b) [])))]) (sv_fld (p := p) (C := T.c_Sheet) (dx := dx) (fs := putF "_base" (.int b) []) (n := M0.length) (ev_var rfl) (fun G1 v' M1 e hR => ?_) T.cl_Sheet T.na_Sheet__rows (by show 1 < 1000; decide) fun G1 G2 v' M1 e e' hR => ?_) ?_
  · obtain ⟨rfl, rfl⟩ := hR
    exact ⟨ev_var rfl, by simp⟩
  · obtain ⟨rfl, rfl⟩ := hR
    exact ⟨rfl, by simp [List.set_append]⟩
  rintro G8 σ8 M8 e8 ⟨rfl, rfl⟩
  refine sv_fld (fs := putF "_rows" (.int r) (putF "_base" (.int b) [])) (n := M0.length) (R := own K ds (M0 ++ [(p, .ins T.c_Sheet dx (putF "_rows" (.int r) (putF "_base" (.int b) [])))])) (p := p) (C := T.c_Sheet) (dx := dx) ?_ (fun G1 v' M1 e hR => ?_) T.cl_Sheet T.na_Sheet__columns (by show 2 < 1000; decide) fun G1 G2 v' M1 e e' hR => ?_
  · refine ev_mapA (K := K) (own' := [4]) (p := a) (xs := xs) (ds := ds) (k := 4) (fun i => (ds[i]?).getD .none) (ev_var rfl) (hA.more.ex ((e16.trans e7).trans e8)) (dma hd ((e16.trans e7).trans e8)) hz (fun i d x G' hd e dx => ?_) (fun _ => rfl) (kept_ids _)
    rw [hd]
    obtain ⟨c, rfl, _⟩ := isCol_of (hall d (List.mem_of_getElem? hd))
    exact ev_tupT (ev_varP rfl dx)
  · obtain ⟨l, ys, rfl, rfl, hdy⟩ := hR
    exact ⟨ev_var rfl, by simp⟩
  · obtain ⟨l, ys, rfl, rfl, hdy⟩ := hR
    exact ⟨hok, rfl, l, ys, M0, ds, rfl, rfl, by simp [List.set_append, shF], dma hdy e'⟩
theorem okG_Sheet___init__ (T : Txt P K mg) : FnOk P w K mg base (L2.CX P w) 4 T.a_Sheet___init__ T.fd_Sheet___init__ ["self", "base", "rows", "columns"] (spec (mkShPre K T.c_Sheet) (mkShPost K T.c_Sheet)) :=
  (ok_Sheet___init__ T).imp fun vs H Q E h => by
    obtain ⟨⟨p, dx, b, r, cs⟩, G, M, F, m, ⟨a, xs, M0, rfl, rfl, hA, hd, g⟩, q⟩ := h
    have g : GoodSh b r cs := g
    refine ⟨⟨p, dx, .int b, .int r, .ref a, .int b, .int r, .list (cs.map colD)⟩, G, _, F, m, ⟨rfl, M0, rfl, .int b, .int r, .inr ⟨a, xs, _, rfl, rfl, hA, hd⟩, ?_, ?_⟩, fun v G' M' H' e' m' r' => ?_, fun c d G' M' H' e' m' r' => ?_⟩
    · show (cs.map colD).length ≤ 100000
      have := g.len
      rw [List.length_map]
      omega
    · intro ds hds c hc
      cases hds
      obtain ⟨c', hc', rfl⟩ := List.mem_map.mp hc
      rw [dlen_colD]
      have := g.clen hc'
      omega
    · obtain ⟨_, rfl, l, ys, M0', ds, h1, h2, rfl, h4⟩ := r'
      cases h2
      exact q _ G' _ H' e' m' ⟨rfl, l, ys, M0', h1, rfl, h4⟩
    · have hz : okSh (.int b) (.int r) (.list (cs.map colD)) = false := r'.1
      rw [okSh_good g] at hz
      cases hz
theorem ok_Sheet_columns (T : Txt P K mg) : FnOk P w K mg base CX0 1 T.a_Sheet_columns T.fd_Sheet_columns ["self"] (spec (shPre K T.c_Sheet) fun x M => own K (x.2.2.2.map colD) M) := by
  refine fn_sv T.F_Sheet_columns sc_Sheet_columns (fun x G M vs h => by obtain ⟨rfl, _⟩ := h; rfl) fun cdv A outer s H E hr => ⟨_, (pss_one (ps_ret (pe_callTy (k_list (K := K) rfl) (by rfl) T.n_list (by decide +kernel) (pa_cons (k_fld (K := K) rfl (pv 0) rfl) pa_nil)))), ?_⟩
  rintro ⟨p, b, r, cs⟩ G M vs ⟨rfl, dx, l, xs, h1, h2, h3⟩
  exact sv_ret (ev_listA (ev_fld (ev_var rfl) h1 T.cl_Sheet T.na_Sheet__columns shF_c) h2 h3) fun v' G' M' e r => r
def sp__law_taken (K : PySem.W.Frag)  : Sp := spD (α := (Int) × (Int) × (List (List Int)) × (Int) × (Deed)) (fun (x : (Int) × (Int) × (List (List Int)) × (Int) × (Deed)) => match x with | (b, r, cs, i, x) => [D K (.int b), D K (.list (cs.map colD)), D K (.int i), D K (deedD x)]) (fun (x : (Int) × (Int) × (List (List Int)) × (Int) × (Deed)) => match x with | (b, r, cs, i, x) => GoodSh b r cs ∧ DeedOk b r x ∧ (0 ≤ i ∧ i < cs.length) ∧ (isCopy x = true → 0 < i)) (fun (x : (Int) × (Int) × (List (List Int)) × (Int) × (Deed)) => match x with | (b, r, cs, i, x) => D K (.list ((lawTaken b cs i.toNat x).map .int)))
theorem ok__law_taken (T : Txt P K mg) : FnOk P w K mg base CX0 1 T.a__law_taken T.fd__law_taken ["base", "columns", "i", "deed"] (sp__law_taken K ) := by
  refine fn_Y T.F__law_taken sc__law_taken (fun _ => rfl) fun cdv A outer s H E hr => ⟨_, (pss_cons (ps_set (i := 4) sc__law_taken.nd rfl (Or.inl rfl) (pe_callTy (k_list (K := K) rfl) (by rfl) T.n_list (by decide +kernel) (pa_cons (pe_ix (k_ixL (K := K) rfl) (pv 1) (pv 2) (fun _ _ => rfl)) pa_nil))) (pss_cons (ps_if (pt_cmpR op_eq (pe_ix (k_ixT (K := K) rfl) (pv 3) (pe_int) (fun _ _ => rfl)) (pe_str) (nomark _)) (pss_one (ps_asg (pe_op op_mod (pe_callTy c_int (by rfl) T.n_int (by decide +kernel) (pa_cons (pe_op op_add (pe_ix (k_ixL (K := K) rfl) (pv 4) (pe_ix (k_ixT (K := K) rfl) (pv 3) (pe_int) (fun _ _ => rfl)) (fun _ _ => rfl)) (pe_ix (k_ixT (K := K) rfl) (pv 3) (pe_int) (fun _ _ => rfl))) pa_nil)) (pv 0)) (pg_sub (pv 4) (pe_ix (k_ixT (K := K) rfl) (pv 3) (pe_int) (fun _ _ => rfl)) set_list))) (pss_nil)) (pss_cons (ps_if (pt_cmpR op_eq (pe_ix (k_ixT (K := K) rfl) (pv 3) (pe_int) (fun _ _ => rfl)) (pe_str) (nomark _)) (pss_one (ps_asg (pe_ix (k_ixT (K := K) rfl) (pe_ix (k_ixL (K := K) rfl) (pv 1) (pe_op op_sub (pv 2) (pe_int)) (fun _ _ => rfl)) (pe_ix (k_ixT (K := K) rfl) (pv 3) (pe_int) (fun _ _ => rfl)) (fun _ _ => rfl)) (pg_sub (pv 4) (pe_ix (k_ixT (K := K) rfl) (pv 3) (pe_int) (fun _ _ => rfl)) set_list))) (pss_nil)) (pss_one (ps_ret (pv 4)))))), ?_⟩
  rintro ⟨b, r, cs, i, x⟩ hp
  replace hp : GoodSh b r cs ∧ DeedOk b r x ∧ (0 ≤ i ∧ i < cs.length) ∧ (isCopy x = true → 0 < i) := hp
  show S1 E _ [some (D K (.int b)), some (D K (.list (cs.map colD))), some (D K (.int i)), some (D K (deedD x)), none] [] { nx := fun _ μ => BackY (fun x Q μ => Q = (fun (x : (Int) × (Int) × (List (List Int)) × (Int) × (Deed)) => match x with | (b, r, cs, i, x) => D K (.list ((lawTaken b cs i.toNat x).map .int))) x ∧ μ = []) (b, r, cs, i, x) (D K .none) μ, rt := BackY (fun x Q μ => Q = (fun (x : (Int) × (Int) × (List (List Int)) × (Int) × (Deed)) => match x with | (b, r, cs, i, x) => D K (.list ((lawTaken b cs i.toNat x).map .int))) x ∧ μ = []) (b, r, cs, i, x) }
  try simp only [cx_K, cx_KX]
  obtain ⟨g, hx, hi, hc⟩ := hp
  have hb : 2 ≤ b ∧ b ≤ 12 := ⟨g.b2, g.b12⟩
  have hg := g.row (n := i.toNat) (by omega)
  have hr := rowOk_ok (n := (cs.getD i.toNat []).length) hx (by rw [hg.1]; exact Int.le_refl _)
  walk_at "Own"
  rename_i fa
  cases x with
  | read j d =>
    have hr : 0 ≤ j ∧ j < ((cs.getD i.toNat []).length : Int) := hr
    have hr1 : 0 ≤ j ∧ j < (((cs.getD i.toNat []).map PyData.int).length : Int) := by rw [List.length_map]; exact hr
    walk_at "Ifr"
    · intro _
      refine s_setIx (K := K) (n := 0) (ad := fa) (ds := (cs.getD i.toNat []).map .int) (d := .int (((cs.getD i.toNat []).getD j.toNat 0 + d) % b)) (i := j) (μ1 := [(fa, OL K ((cs.getD i.toNat []).map .int))]) (by walk_at "ev") (by walk_at "ev") (by walk_at "ev") rfl hr1 ?_
      walk_at "Ifr"
      · intro h
        cases h
      intro _
      refine s_frz (μa := []) (μb := []) 4 rfl ?_
      walk_at "Ret"
      refine back_D (imp_D ?_)
      rw [← List.map_set]
      rfl
    · intro h
      cases h
  | copy j =>
    have hc := hc rfl
    have hr : 0 ≤ j ∧ j < ((cs.getD i.toNat []).length : Int) := hr
    have hr1 : 0 ≤ j ∧ j < (((cs.getD i.toNat []).map PyData.int).length : Int) := by rw [List.length_map]; exact hr
    have hg2 := g.row (n := (i - 1).toNat) (by omega)
    have hr2 : 0 ≤ j ∧ j < ((cs.getD (i - 1).toNat []).length : Int) := by rw [hg2.1, ← hg.1]; exact hr
    have hi2 : 0 ≤ i - 1 ∧ i - 1 < (cs.length : Int) := by omega
    walk_at "Ifr"
    · intro h
      cases h
    intro _
    walk_at "Ifr"
    · intro _
      refine s_setIx (K := K) (n := 0) (ad := fa) (ds := (cs.getD i.toNat []).map .int) (d := .int ((cs.getD (i - 1).toNat []).getD j.toNat 0)) (i := j) (μ1 := [(fa, OL K ((cs.getD i.toNat []).map .int))]) (by walk_at "ev") (by walk_at "ev") (by walk_at "ev") rfl hr1 ?_
      refine s_frz (μa := []) (μb := []) 4 rfl ?_
      walk_at "Ret"
      refine back_D (imp_D ?_)
      rw [← List.map_set, show (i - 1).toNat = i.toNat - 1 by omega]
      rfl
    · intro h
      cases h
  | _ =>
    walk_at "Ifr"
    · intro h
      cases h
    intro _
    walk_at "Ifr"
    · intro h
      cases h
    intro _
    refine s_frz (μa := []) (μb := []) 4 rfl ?_
    walk_at "Ret"
    exact back_D (imp_D rfl)
theorem e__law_taken  {δ : En} {μ μ' : Mp} {E : XK} {b : Int} {r : Int} {cs : List (List Int)} {i : Int} {x : Deed} {tA : TA} (h : EA tA δ μ [D K (.int b), D K (.list (cs.map colD)), D K (.int i), D K (deedD x)] μ') (hp : GoodSh b r cs ∧ DeedOk b r x ∧ (0 ≤ i ∧ i < cs.length) ∧ (isCopy x = true → 0 < i)) : E1 (tCall (sp__law_taken K ) [] E tA) δ μ (D K (.list ((lawTaken b cs i.toNat x).map .int))) μ' := e_callD (b, r, cs, i, x) h hp
local macro_rules | `(tactic| walk_at "call") => `(tactic| ((with_reducible apply e__law_taken); (· walk_at "ea"); (· walk_at "sd")))
def sp__law_step (K : PySem.W.Frag)  : Sp := spD (α := (Int) × (Int) × (List (List Int)) × (Int) × (Deed) × (Int)) (fun (x : (Int) × (Int) × (List (List Int)) × (Int) × (Deed) × (Int)) => match x with | (b, r, cs, i, x, c) => [D K (.int b), D K (.list (cs.map colD)), D K (.int i), D K (deedD x), D K (.int c)]) (fun (x : (Int) × (Int) × (List (List Int)) × (Int) × (Deed) × (Int)) => match x with | (b, r, cs, i, x, c) => GoodSh b r cs ∧ DeedOk b r x ∧ (0 ≤ i ∧ i < cs.length) ∧ 0 ≤ c) (fun (x : (Int) × (Int) × (List (List Int)) × (Int) × (Deed) × (Int)) => match x with | (b, r, cs, i, x, c) => D K (stepD (lawStep b cs i.toNat x c)))
theorem ok__law_step (T : Txt P K mg) : FnOk P w K mg base CX0 2 T.a__law_step T.fd__law_step ["base", "columns", "i", "deed", "carry"] (sp__law_step K ) := by
  refine fn_Y T.F__law_step sc__law_step (fun _ => rfl) fun cdv A outer s H E hr => ⟨_, (pss_cons (ps_set (i := 5) sc__law_step.nd rfl (Or.inl rfl) (pe_ix (k_ixT (K := K) rfl) (pv 3) (pe_int) (fun _ _ => rfl))) (pss_cons (ps_if (PW.pt (pw_or (PW.pt (pw_and (pt_cmpR op_eq (pv 5) (pe_str) (nomark _)) (pw_and1 (pt_cmpR op_eq (pv 2) (pe_int) (nomark _))))) (pw_or1 (PW.pt (pw_and (pt_cmpR op_eq (pv 5) (pe_str) (nomark _)) (pw_and1 (pt_cmpR op_eq (pv 2) (pe_op op_sub (pe_callB (k_len (K := K) rfl) (by rfl) T.n_len (by decide +kernel) (pa_cons (pv 1) pa_nil)) (pe_int)) (nomark _)))))))) (pss_one (ps_ret (pe_non))) (pss_nil)) (pss_cons (ps_if (pt_cmpR op_eq (pv 5) (pe_str) (nomark _)) (pss_one (ps_ret (pe_tup (pa_cons (pe_lst pa_nil) (pa_cons (pv 4) pa_nil))))) (pss_nil)) (pss_cons (ps_set (i := 6) sc__law_step.nd rfl (Or.inl rfl) (pe_callTy c_int (by rfl) T.n_int (by decide +kernel) (pa_cons (pe_op op_add (pe_callB (k_sum (K := K) rfl rfl) (by rfl) T.n_sum (by decide +kernel) (pa_cons (pe_call (ok__law_taken T) (hr.mono (by decide)) (by rfl) T.m__law_taken T.F__law_taken.kp T.b__law_taken .nil pass0 (pa_cons (pv 0) (pa_cons (pv 1) (pa_cons (pv 2) (pa_cons (pv 3) pa_nil))))) pa_nil)) (pv 4)) pa_nil))) (pss_cons (ps_set (i := 7) sc__law_step.nd rfl (Or.inl rfl) (pe_op op_mod (pv 6) (pv 0))) (pss_cons (ps_set (i := 8) sc__law_step.nd rfl (Or.inl rfl) (pe_op op_fdivW (pv 6) (pv 0))) (pss_cons (ps_if (pt_cmpR op_eq (pv 5) (pe_str) (nomark _)) (pss_cons (ps_if (pt_cmpR op_eq (pv 8) (pe_int) (nomark _)) (pss_one (ps_ret (pe_non))) (pss_nil)) (pss_one (ps_set (i := 8) sc__law_step.nd rfl (Or.inl rfl) (pe_int)))) (pss_nil)) (pss_cons (ps_if (pt_cmpR op_eq (pv 5) (pe_str) (nomark _)) (pss_one (ps_set (i := 8) sc__law_step.nd rfl (Or.inl rfl) (pe_op op_add (pv 8) (pe_int)))) (pss_nil)) (pss_cons (ps_if (pt_cmpR op_eq (pv 5) (pe_str) (nomark _)) (pss_one (ps_set (i := 7) sc__law_step.nd rfl (Or.inl rfl) (pe_op op_mod (pe_callTy c_int (by rfl) T.n_int (by decide +kernel) (pa_cons (pe_op op_add (pv 7) (pe_ix (k_ixT (K := K) rfl) (pv 3) (pe_int) (fun _ _ => rfl))) pa_nil)) (pv 0)))) (pss_nil)) (pss_cons (ps_if (pt_cmpR op_eq (pv 5) (pe_str) (nomark _)) (pss_cons (ps_set (i := 6) sc__law_step.nd rfl (Or.inl rfl) (pe_callTy c_int (by rfl) T.n_int (by decide +kernel) (pa_cons (pe_op op_add (pe_callB (k_sum (K := K) rfl rfl) (by rfl) T.n_sum (by decide +kernel) (pa_cons (pe_callTy (k_list (K := K) rfl) (by rfl) T.n_list (by decide +kernel) (pa_cons (pe_ix (k_ixL (K := K) rfl) (pv 1) (pv 2) (fun _ _ => rfl)) pa_nil)) pa_nil)) (pv 8)) pa_nil))) (pss_one (ps_ret (pe_tup (pa_cons (pe_lst (pa_cons (pv 7) (pa_cons (pe_op op_mod (pv 6) (pv 0)) pa_nil))) (pa_cons (pe_op op_fdivW (pv 6) (pv 0)) pa_nil)))))) (pss_nil)) (pss_one (ps_ret (pe_tup (pa_cons (pe_lst (pa_cons (pv 7) pa_nil)) (pa_cons (pv 8) pa_nil))))))))))))))), ?_⟩
  rintro ⟨b, r, cs, i, x, c⟩ hp
  replace hp : GoodSh b r cs ∧ DeedOk b r x ∧ (0 ≤ i ∧ i < cs.length) ∧ 0 ≤ c := hp
  show S1 E _ [some (D K (.int b)), some (D K (.list (cs.map colD))), some (D K (.int i)), some (D K (deedD x)), some (D K (.int c)), none, none, none, none] [] { nx := fun _ μ => BackY (fun x Q μ => Q = (fun (x : (Int) × (Int) × (List (List Int)) × (Int) × (Deed) × (Int)) => match x with | (b, r, cs, i, x, c) => D K (stepD (lawStep b cs i.toNat x c))) x ∧ μ = []) (b, r, cs, i, x, c) (D K .none) μ, rt := BackY (fun x Q μ => Q = (fun (x : (Int) × (Int) × (List (List Int)) × (Int) × (Deed) × (Int)) => match x with | (b, r, cs, i, x, c) => D K (stepD (lawStep b cs i.toNat x c))) x ∧ μ = []) (b, r, cs, i, x, c) }
  try simp only [cx_K, cx_KX]
  obtain ⟨g, hx, hi, hc⟩ := hp
  have hb : 2 ≤ b ∧ b ≤ 12 := ⟨g.b2, g.b12⟩
  have hg := g.row (n := i.toNat) (by omega)
  have hr := rowOk_ok (n := (cs.getD i.toNat []).length) hx (by rw [hg.1]; exact Int.le_refl _)
  walk_at "Let"
  walk_at "Ifr"
  · intro h
    walk_at "Ret"
    rw [word_copy, word_swap, List.length_map] at h
    simp only [Bool.or_eq_true, Bool.and_eq_true, decide_eq_true_eq] at h
    have hc : isCopy x = true ∧ i.toNat = 0 ∨ x = .swap ∧ i.toNat + 1 = cs.length := by
      rcases h with h | h
      · exact .inl ⟨h.1, by omega⟩
      · exact .inr ⟨h.1, by omega⟩
    refine back_D (imp_D ?_)
    unfold lawStep
    rw [if_pos hc]
    rfl
  intro h
  rw [word_copy, word_swap, List.length_map] at h
  simp only [Bool.or_eq_false_iff, Bool.and_eq_false_iff, decide_eq_false_iff_not] at h
  have hno : ¬ (isCopy x = true ∧ i.toNat = 0 ∨ x = .swap ∧ i.toNat + 1 = cs.length) := by
    rintro (⟨h1, h2⟩ | ⟨h1, h2⟩)
    · rcases h.1 with h | h
      · rw [h1] at h
        cases h
      · omega
    · rcases h.2 with h | h
      · exact h h1
      · omega
  have hcp : isCopy x = true → 0 < i := fun h1 => by
    rcases h.1 with h | h
    · rw [h1] at h
      cases h
    · omega
  have hds : lawStep b cs i.toNat x c = doSum b (lawTaken b cs i.toNat x).sum c (some x) := by
    unfold lawStep
    rw [if_neg hno, lawTaken_sum hr]
  have hnn := lawTaken_nn g (i := i.toNat) (by omega) (fun h => by have := hcp h; omega) hx
  have hnn2 : 0 ≤ ((lawTaken b cs i.toNat x).sum + c) / b := Int.ediv_nonneg (by omega) (by omega)
  clear h hno
  walk_at "Ifr"
  · intro h
    cases w_out h
    walk_at "Ret"
    refine back_D (imp_D ?_)
    rw [hds]
    rfl
  intro h0
  have hpre : GoodSh b r cs ∧ DeedOk b r x ∧ (0 ≤ i ∧ i < cs.length) ∧ (isCopy x = true → 0 < i) := ⟨g, hx, hi, hcp⟩
  walk_at "Let"
  walk_at "Let"
  walk_at "Let"
  walk_at "Ifr"
  · intro h
    cases w_forget h
    walk_at "Ifr"
    · intro hz
      walk_at "Ret"
      refine back_D (imp_D ?_)
      rw [hds]
      have hz := of_decide_eq_true hz
      simp only [doSum]
      rw [if_neg (by omega)]
      rfl
    intro hz
    have hz := of_decide_eq_false hz
    walk_at "Set"
    show S1 E _ _ _ _
    walk_at "Ff"
    walk_at "Ff"
    walk_at "Ff"
    walk_at "RetD"
    rw [hds]
    simp only [doSum]
    rw [if_pos (by omega)]
    rfl
  intro h1
  walk_at "Ifr"
  · intro h
    cases w_again h
    walk_at "Set"
    show S1 E _ _ _ _
    walk_at "Ff"
    walk_at "Ff"
    walk_at "RetD"
    rw [hds]
    rfl
  intro h2
  walk_at "Ifr"
  · intro h
    obtain ⟨d, rfl⟩ := w_off h
    walk_at "Set"
    show S1 E _ _ _ _
    walk_at "Ff"
    walk_at "RetD"
    rw [hds]
    rfl
  intro h3
  walk_at "Ifr"
  · intro h
    cases w_twice h
    walk_at "Let"
    walk_at "RetD"
    rw [hds]
    simp [stepD, doSum, lawTaken]
  intro h4
  walk_at "RetD"
  rw [hds]
  cases x <;> first | rfl | (exfalso; exact of_decide_eq_false h0 rfl) | (exfalso; exact of_decide_eq_false h1 rfl) | (exfalso; exact of_decide_eq_false h2 rfl) | (exfalso; exact of_decide_eq_false h3 rfl) | (exfalso; exact of_decide_eq_false h4 rfl)
theorem e__law_step  {δ : En} {μ μ' : Mp} {E : XK} {b : Int} {r : Int} {cs : List (List Int)} {i : Int} {x : Deed} {c : Int} {tA : TA} (h : EA tA δ μ [D K (.int b), D K (.list (cs.map colD)), D K (.int i), D K (deedD x), D K (.int c)] μ') (hp : GoodSh b r cs ∧ DeedOk b r x ∧ (0 ≤ i ∧ i < cs.length) ∧ 0 ≤ c) : E1 (tCall (sp__law_step K ) [] E tA) δ μ (D K (stepD (lawStep b cs i.toNat x c))) μ' := e_callD (b, r, cs, i, x, c) h hp
local macro_rules | `(tactic| walk_at "call") => `(tactic| ((with_reducible apply e__law_step); (· walk_at "ea"); (· walk_at "sd")))
def sp__law_add (K : PySem.W.Frag)  : Sp := spD (α := (Int) × (Int) × (List (List Int)) × (List Deed)) (fun (x : (Int) × (Int) × (List (List Int)) × (List Deed)) => match x with | (b, r, cs, ds) => [D K (.int b), D K (.list (cs.map colD)), D K (.list (ds.map deedD))]) (fun (x : (Int) × (Int) × (List (List Int)) × (List Deed)) => match x with | (b, r, cs, ds) => GoodSh b r cs ∧ cs.length ≤ ds.length ∧ (∀ i, i < cs.length → DeedOk b r (dAt ds i))) (fun (x : (Int) × (Int) × (List (List Int)) × (List Deed)) => match x with | (b, r, cs, ds) => D K (addR (addS b cs ds cs.length)))
theorem ok__law_add (T : Txt P K mg) : FnOk P w K mg base CX0 3 T.a__law_add T.fd__law_add ["base", "columns", "deeds"] (sp__law_add K ) := by
  refine fn_Y T.F__law_add sc__law_add (fun _ => rfl) fun cdv A outer s H E hr => ⟨_, (pss_cons (ps_set (i := 3) sc__law_add.nd rfl (Or.inl rfl) (pe_lst pa_nil)) (pss_cons (ps_set (i := 4) sc__law_add.nd rfl (Or.inl rfl) (pe_int)) (pss_cons (ps_set (i := 5) sc__law_add.nd rfl (Or.inl rfl) (pe_lst pa_nil)) (pss_cons (ps_for PassesOwn.never rfl (pi_range1 (by rfl) T.n_range (pa_cons (pe_callB (k_len (K := K) rfl) (by rfl) T.n_len (by decide +kernel) (pa_cons (pv 1) pa_nil)) pa_nil)) (pg_name (i := 6) sc__law_add.nd rfl (Or.inl rfl)) (pss_cons (ps_set (i := 7) sc__law_add.nd rfl (Or.inl rfl) (pe_call (ok__law_step T) (hr.mono (by decide)) (by rfl) T.m__law_step T.F__law_step.kp T.b__law_step .nil pass0 (pa_cons (pv 0) (pa_cons (pv 1) (pa_cons (pv 6) (pa_cons (pe_ix (k_ixL (K := K) rfl) (pv 2) (pv 6) (fun _ _ => rfl)) (pa_cons (pv 4) pa_nil))))))) (pss_cons (ps_if (pt_cmp (pc_isN (pv 7)) rfl) (pss_one (ps_ret (pe_non))) (pss_nil)) (pss_cons (ps_set (i := 4) sc__law_add.nd rfl (Or.inl rfl) (pe_ix (k_ixT (K := K) rfl) (pv 7) (pe_int) (fun _ _ => rfl))) (pss_one (ps_if (pt_cmpR (k_neD (K := K) rfl hr.units) (pv 5) (pe_lst pa_nil) (nomark _)) (pss_cons (ps_set (i := 3) sc__law_add.nd rfl (Or.inl rfl) (pe_op (k_cat (K := K) rfl) (pe_op (k_cat (K := K) rfl) (pv 3) (pe_ix (k_ixT (K := K) rfl) (pv 7) (pe_int) (fun _ _ => rfl))) (pv 5))) (pss_one (ps_set (i := 5) sc__law_add.nd rfl (Or.inl rfl) (pe_lst pa_nil)))) (pss_one (ps_if (pt_cmpR op_eq (pe_ix (k_ixT (K := K) rfl) (pe_ix (k_ixL (K := K) rfl) (pv 2) (pv 6) (fun _ _ => rfl)) (pe_int) (fun _ _ => rfl)) (pe_str) (nomark _)) (pss_one (ps_set (i := 5) sc__law_add.nd rfl (Or.inl rfl) (pe_ix (k_ixT (K := K) rfl) (pv 7) (pe_int) (fun _ _ => rfl)))) (pss_one (ps_set (i := 3) sc__law_add.nd rfl (Or.inl rfl) (pe_op (k_cat (K := K) rfl) (pv 3) (pe_ix (k_ixT (K := K) rfl) (pv 7) (pe_int) (fun _ _ => rfl))))))))))))) (pss_one (ps_ret (pe_tup (pa_cons (pv 3) (pa_cons (pv 4) pa_nil))))))))), ?_⟩
  rintro ⟨b, r, cs, ds⟩ hp
  replace hp : GoodSh b r cs ∧ cs.length ≤ ds.length ∧ (∀ i, i < cs.length → DeedOk b r (dAt ds i)) := hp
  show S1 E _ [some (D K (.int b)), some (D K (.list (cs.map colD))), some (D K (.list (ds.map deedD))), none, none, none, none, none] [] { nx := fun _ μ => BackY (fun x Q μ => Q = (fun (x : (Int) × (Int) × (List (List Int)) × (List Deed)) => match x with | (b, r, cs, ds) => D K (addR (addS b cs ds cs.length))) x ∧ μ = []) (b, r, cs, ds) (D K .none) μ, rt := BackY (fun x Q μ => Q = (fun (x : (Int) × (Int) × (List (List Int)) × (List Deed)) => match x with | (b, r, cs, ds) => D K (addR (addS b cs ds cs.length))) x ∧ μ = []) (b, r, cs, ds) }
  try simp only [cx_K, cx_KX]
  obtain ⟨g, hl, hd⟩ := hp
  have hb : 2 ≤ b ∧ b ≤ 12 := ⟨g.b2, g.b12⟩
  have hlen := g.len
  refine s_let (Q := D K (.list (([] : List Int).map .int))) (μ1 := []) (EO.frz (o_lst (K := K) d_nil (by decide))) ?_
  walk_at "Let"
  refine s_let (Q := D K (.list (([] : List Int).map .int))) (μ1 := []) (EO.frz (o_lst (K := K) d_nil (by decide))) ?_
  refine s_seq (N := fun δ μ => μ = [] ∧ ∃ F c W, addS b cs ds cs.length = some (F, c, W) ∧ Le δ [some (D K (.int b)), some (D K (.list (cs.map colD))), some (D K (.list (ds.map deedD))), some (D K (.list (F.map .int))), some (D K (.int c)), some (D K (.list (W.map .int))), none, none]) ?_ ?_
  · refine s_for (fun i δ μ => μ = [] ∧ ∃ F c W, addS b cs ds i = some (F, c, W) ∧ Le δ [some (D K (.int b)), some (D K (.list (cs.map colD))), some (D K (.list (ds.map deedD))), some (D K (.list (F.map .int))), some (D K (.int c)), some (D K (.list (W.map .int))), none, none]) (i_rng1 (i := ((cs.map colD).length : Int)) (μ' := []) (by walk_at "ev") (by rw [List.length_map]; omega)) ?_ ?_ ?_
    · exact ⟨rfl, [], 0, [], rfl, by walk_at "le"⟩
    · rintro i δ' _ hi ⟨rfl, F, c, W, hs, hle⟩
      rw [Int.toNat_natCast, List.length_map] at hi
      refine ⟨_, [6], G1.le g_name hle, ?_⟩
      obtain ⟨hc, hF⟩ := addS_ok g hd i (by omega) hs
      have hi0 : (0 : Int) ≤ (i : Int) ∧ (i : Int) < (cs.length : Int) := by omega
      have hi1 : (0 : Int) ≤ (i : Int) ∧ (i : Int) < (ds.length : Int) := by omega
      have hpre : GoodSh b r cs ∧ DeedOk b r (ds.getD ((i : Int)).toNat .right) ∧ (0 ≤ (i : Int) ∧ (i : Int) < cs.length) ∧ 0 ≤ c := ⟨g, by rw [Int.toNat_natCast]; exact hd i hi, hi0, hc⟩
      walk_at "Let"
      rw [Int.toNat_natCast]
      have hnext : addS b cs ds (i + 1) = (lawStep b cs i (dAt ds i) c).map fun w => if W ≠ [] then (F ++ w.1 ++ W, w.2, []) else if dAt ds i = .swap then (F, w.2, w.1) else (F ++ w.1, w.2, []) := by
        simp only [addS, hs, Option.bind_some]
      rw [show ds.getD i .right = dAt ds i from rfl]
      have hlen2 := fun w h => step_len (w := w) (b := b) (cs := cs) (i := i) (x := dAt ds i) (c := c) h
      cases hw : lawStep b cs i (dAt ds i) c with
      | none =>
        walk_at "Ifr"
        · intro _
          walk_at "RetD"
          show _ = addR (addS b cs ds cs.length)
          rw [addS_none (i := i + 1) (by omega) (by rw [hnext, hw]; rfl)]
          rfl
        · intro h
          cases h
      | some w =>
        obtain ⟨wf, wc⟩ := w
        have hwl : wf.length ≤ 2 := hlen2 _ hw
        rw [hw] at hnext
        simp only [Option.map_some] at hnext
        walk_at "Ff"
        refine s_let (Q := D K (.int wc)) (μ1 := []) (by walk_at "ev") ?_
        have hsh : SeqAt.shaped (.list (W.map .int)) = true := (sh_ints (n := 0) _).ok
        walk_at "If"
        · intro h
          have hW : W ≠ [] := by
            intro e
            subst e
            cases h
          refine s_let (Q := D K (.list ((F ++ wf ++ W).map .int))) (μ1 := []) (EO.frz (o_catM (EO.frz (o_catM (by walk_at "ev") (by walk_at "ev") lr_D lr_D (by omega))) (by walk_at "ev") lr_D lr_D (by simp only [List.length_append]; omega))) ?_
          refine s_set (Q := D K (.list (([] : List Int).map .int))) (μ1 := []) (EO.frz (o_lst (K := K) d_nil (by decide))) ⟨rfl, F ++ wf ++ W, wc, [], ?_, by walk_at "le"⟩
          rw [hnext, if_pos hW]
        · intro h
          have hW : W = [] := by
            cases W with
            | nil => rfl
            | cons x xs => cases h
          subst hW
          walk_at "If"
          · intro h
            have h := w_swap h
            walk_at "Set"
            refine ⟨rfl, F, wc, wf, ?_, by walk_at "le"⟩
            rw [hnext, if_neg (by simp), if_pos (by rw [← h, Int.toNat_natCast]; rfl)]
          · intro h
            have h : ¬ (dAt ds i = .swap) := by
              intro e
              rw [word_swap, Int.toNat_natCast, show ds.getD i .right = dAt ds i from rfl, e] at h
              cases h
            refine s_set (Q := D K (.list ((F ++ wf).map .int))) (μ1 := []) (EO.frz (o_catM (by walk_at "ev") (by walk_at "ev") lr_D lr_D (by omega))) ⟨rfl, F ++ wf, wc, [], ?_, by walk_at "le"⟩
            rw [hnext, if_neg (by simp), if_neg h]
    · rintro δ' _ ⟨rfl, F, c, W, hs, hle⟩
      rw [Int.toNat_natCast, List.length_map] at hs
      exact ⟨rfl, F, c, W, hs, hle⟩
  · rintro δ _ ⟨rfl, F, c, W, hs, hle⟩
    refine S1.le ?_ hle
    walk_at "RetD"
    show _ = addR (addS b cs ds cs.length)
    rw [hs]
    rfl
theorem e__law_add  {δ : En} {μ μ' : Mp} {E : XK} {b : Int} {r : Int} {cs : List (List Int)} {ds : List Deed} {tA : TA} (h : EA tA δ μ [D K (.int b), D K (.list (cs.map colD)), D K (.list (ds.map deedD))] μ') (hp : GoodSh b r cs ∧ cs.length ≤ ds.length ∧ (∀ i, i < cs.length → DeedOk b r (dAt ds i))) : E1 (tCall (sp__law_add K ) [] E tA) δ μ (D K (addR (addS b cs ds cs.length))) μ' := e_callD (b, r, cs, ds) h hp
local macro_rules | `(tactic| walk_at "call") => `(tactic| ((with_reducible apply e__law_add); (· walk_at "ea"); (· walk_at "sd")))
theorem ok__law_draw (T : Txt P K mg) : FnOk P w K mg base CX0 1 T.a__law_draw T.fd__law_draw ["deck", "many"] (spec drawPre drawPost) := by
  refine fn_sv T.F__law_draw sc__law_draw (fun x G M vs h => by obtain ⟨rfl, _⟩ := h; rfl) fun cdv A outer s H E hr => ⟨_, (pss_cons (ps_if (pt_cmpR op_gt (pe_ix (k_ixL (K := K) rfl) (pv 0) (pe_int) (fun _ _ => rfl)) (pe_int) (nomark _)) (pss_cons (ps_set (i := 3) sc__law_draw.nd rfl (Or.inl rfl) (pe_op op_mod (pe_callTy c_int (by rfl) T.n_int (by decide +kernel) (pa_cons (pe_ix (k_ixL (K := K) rfl) (pv 0) (pe_int) (fun _ _ => rfl)) pa_nil)) (pv 1))) (pss_cons (ps_asg (pe_op op_fdivW (pe_ix (k_ixL (K := K) rfl) (pv 0) (pe_int) (fun _ _ => rfl)) (pv 1)) (pg_sub (pv 0) (pe_int) set_list)) (pss_one (ps_ret (pv 3))))) (pss_nil)) (pss_cons (ps_asg (pe_op op_add (pe_ix (k_ixL (K := K) rfl) (pv 0) (pe_int) (fun _ _ => rfl)) (pe_int)) (pg_sub (pv 0) (pe_int) set_list)) (pss_cons (ps_set (i := 2) sc__law_draw.nd rfl (Or.inl rfl) (pe_op op_mod (pe_callTy c_int (by rfl) T.n_int (by decide +kernel) (pa_cons (pe_op op_add (pe_op op_mul (pe_ix (k_ixL (K := K) rfl) (pv 0) (pe_int) (fun _ _ => rfl)) (pe_int)) (pe_op op_mul (pe_ix (k_ixL (K := K) rfl) (pv 0) (pe_int) (fun _ _ => rfl)) (pe_int))) pa_nil)) (pe_int))) (pss_cons (ps_set (i := 2) sc__law_draw.nd rfl (Or.inl rfl) (pe_op op_mod (pe_callTy c_int (by rfl) T.n_int (by decide +kernel) (pa_cons (pe_op op_add (pe_op op_mul (pv 2) (pv 2)) (pe_ix (k_ixL (K := K) rfl) (pv 0) (pe_int) (fun _ _ => rfl))) pa_nil)) (pe_int))) (pss_cons (ps_set (i := 2) sc__law_draw.nd rfl (Or.inl rfl) (pe_op op_mod (pe_callTy c_int (by rfl) T.n_int (by decide +kernel) (pa_cons (pe_op op_mul (pv 2) (pe_int)) pa_nil)) (pe_int))) (pss_one (ps_ret (pe_op op_mod (pe_callTy c_int (by rfl) T.n_int (by decide +kernel) (pa_cons (pe_op op_fdivW (pv 2) (pe_int)) pa_nil)) (pv 1))))))))), ?_⟩
  rintro ⟨dk, i, D, n⟩ G M vs ⟨rfl, (h0 : 0 < n), (h1 : n < 2 ^ 200), (hi : M[i]? = some (dk, .lst [.int D.a, .int D.b, .int D.c]))⟩
  obtain ⟨a, b, c⟩ := D
  have hw : CDivW a n := wide_div (b := 200) h0 (by omega) (by decide) (by decide)
  refine sv_ifs (et_test (ev_I0 (i := a) (ev_ixL (K := K) (ev_var rfl) ev_c (AtL.M hi) rfl) ev_c)) ?_ ?_
  · intro G1 e1 hb
    have ha : a > 0 := of_decide_eq_true hb
    refine sv_let (ev_I (ev_int (ev_ixL (K := K) (ev_var rfl) ev_c (AtL.M hi) rfl)) (ev_var rfl) h0) ?_
    rintro _ G2 M2 e2 ⟨rfl, rfl⟩
    refine sv_seq (N := fun G' σ' M' => σ' = [some (.ref dk), some (.int n), none, some (.int (a % n))] ∧ M' = M2.set i (dk, .lst [.int (a / n), .int b, .int c])) (sv_setIx (ev_I (ev_ixL (K := K) (ev_var rfl) ev_c (AtL.M hi) rfl) (ev_var rfl) hw) (ev_var rfl) ev_c hi rfl fun G' e => ⟨rfl, rfl⟩) ?_
    rintro G3 σ3 M3 e3 ⟨rfl, rfl⟩
    refine sv_ret (ev_var rfl) fun v' G' M' e r => ?_
    show v' = .int (dv ⟨a, b, c⟩ n) ∧ M' = M2.set i (dk, (dn ⟨a, b, c⟩ n).ho)
    unfold dv dn
    rw [if_pos ha, if_pos ha]
    exact r
  · intro G1 e1 hb
    have ha : ¬ a > 0 := of_decide_eq_false hb
    refine sv_next fun G2 e2 => ?_
    refine sv_seq (N := fun G' σ' M' => σ' = [some (.ref dk), some (.int n), none, none] ∧ M' = M.set i (dk, .lst [.int a, .int (b + 1), .int c])) (sv_setIx (ev_I0 (ev_ixL (K := K) (ev_var rfl) ev_c (AtL.M hi) rfl) ev_c) (ev_var rfl) ev_c hi rfl fun G' e => ⟨rfl, rfl⟩) ?_
    rintro G3 σ3 M3 e3 ⟨rfl, rfl⟩
    have hi' : (M.set i (dk, HO.lst [.int a, .int (b + 1), .int c]))[i]? = some (dk, .lst [.int a, .int (b + 1), .int c]) := by
      rw [List.getElem?_set_self (List.getElem?_eq_some_iff.mp hi).1]
    refine sv_let (ev_I (ev_int (ev_I0 (ev_I (ev_ixL (K := K) (ev_var rfl) ev_c (AtL.M hi') rfl) ev_c (.inr ⟨by decide, by decide⟩)) (ev_I (ev_ixL (K := K) (ev_var rfl) ev_c (AtL.M hi') rfl) ev_c (.inr ⟨by decide, by decide⟩)))) ev_c (by decide)) ?_
    rintro _ G4 M4 e4 ⟨rfl, rfl⟩
    have q1 : 0 ≤ (c * 48271 + (b + 1) * 69621) % 2147483647 := Int.emod_nonneg _ (by decide)
    have q2 : (c * 48271 + (b + 1) * 69621) % 2147483647 < 2147483647 := Int.emod_lt_of_pos _ (by decide)
    refine sv_let (ev_I (ev_int (ev_I0 (ev_I (ev_var rfl) (ev_var rfl) (.inr ⟨by omega, by omega⟩)) (ev_ixL (K := K) (ev_var rfl) ev_c (AtL.M hi') rfl))) ev_c (by decide)) ?_
    rintro _ G5 M5 e5 ⟨rfl, rfl⟩
    refine sv_let (ev_I (ev_int (ev_I (ev_var rfl) ev_c (.inr ⟨by decide, by decide⟩))) ev_c (by decide)) ?_
    rintro _ G6 M6 e6 ⟨rfl, rfl⟩
    refine sv_ret (ev_I (ev_int (ev_I (ev_var rfl) ev_c (wide_div (b := 200) (by decide) (by decide) (by decide) (by decide)))) (ev_var rfl) h0) fun v' G' M' e r => ?_
    show v' = .int (dv ⟨a, b, c⟩ n) ∧ M' = M.set i (dk, (dn ⟨a, b, c⟩ n).ho)
    unfold dv dn
    rw [if_neg ha, if_neg ha]
    exact r
def sp__law_bad_deed (K : PySem.W.Frag) : Sp := sp (bdA K) bdM (fun _ => True) (bdR K)
theorem ok__law_bad_deed (T : Txt P K mg) : FnOk P w K mg base CX0 2 T.a__law_bad_deed T.fd__law_bad_deed ["deck", "base", "rows"] (sp__law_bad_deed K) := by
  refine fn_Y T.F__law_bad_deed sc__law_bad_deed (fun _ => rfl) fun cdv A outer s H E hr => ⟨_, (pss_cons (ps_set (i := 3) sc__law_bad_deed.nd rfl (Or.inl rfl) (pe_call (ok__law_draw T) (hr.mono (by decide)) (by rfl) T.m__law_draw T.F__law_draw.kp T.b__law_draw .nil pass0 (pa_cons (pv 0) (pa_cons (pe_op op_pow (pe_int) (pe_int)) pa_nil)))) (pss_cons (ps_set (i := 4) sc__law_bad_deed.nd rfl (Or.inl rfl) (pe_lst (pa_cons (pe_tup (pa_cons (pe_str) (pa_cons (pe_int) pa_nil))) (pa_cons (pe_tup (pa_cons (pe_str) (pa_cons (pe_op op_add (pv 1) (pv 3)) pa_nil))) (pa_cons (pe_tup (pa_cons (pe_str) (pa_cons (pe_un un_neg (pe_int)) pa_nil))) (pa_cons (pe_tup (pa_cons (pe_str) (pa_cons (pe_bl) pa_nil))) (pa_cons (pe_tup (pa_cons (pe_str) pa_nil)) (pa_cons (pe_tup (pa_cons (pe_str) (pa_cons (pe_int) (pa_cons (pe_int) pa_nil)))) (pa_cons (pe_tup (pa_cons (pe_str) (pa_cons (pv 2) (pa_cons (pe_int) pa_nil)))) pa_nil))))))))) (pss_cons (ps_set (i := 4) sc__law_bad_deed.nd rfl (Or.inl rfl) (pe_op (k_cat (K := K) rfl) (pv 4) (pe_lst (pa_cons (pe_tup (pa_cons (pe_str) (pa_cons (pe_int) (pa_cons (pe_int) pa_nil)))) (pa_cons (pe_tup (pa_cons (pe_str) (pa_cons (pe_int) (pa_cons (pv 1) pa_nil)))) (pa_cons (pe_tup (pa_cons (pe_str) (pa_cons (pe_int) pa_nil))) (pa_cons (pe_tup (pa_cons (pe_str) (pa_cons (pe_un un_neg (pe_int)) (pa_cons (pe_int) pa_nil)))) (pa_cons (pe_tup (pa_cons (pe_str) (pa_cons (pe_bl) (pa_cons (pe_int) pa_nil)))) (pa_cons (pe_tup (pa_cons (pe_str) (pa_cons (pv 2) pa_nil))) pa_nil))))))))) (pss_cons (ps_set (i := 4) sc__law_bad_deed.nd rfl (Or.inl rfl) (pe_op (k_cat (K := K) rfl) (pv 4) (pe_lst (pa_cons (pe_tup (pa_cons (pe_str) (pa_cons (pe_un un_neg (pe_int)) pa_nil))) (pa_cons (pe_tup (pa_cons (pe_str) (pa_cons (pe_bl) pa_nil))) (pa_cons (pe_tup (pa_cons (pe_str) pa_nil)) (pa_cons (pe_tup (pa_cons (pe_str) (pa_cons (pe_int) pa_nil))) (pa_cons (pe_tup (pa_cons (pe_str) (pa_cons (pe_non) pa_nil))) (pa_cons (pe_tup (pa_cons (pe_str) pa_nil)) (pa_cons (pe_tup (pa_cons (pe_str) pa_nil)) (pa_cons (pe_tup pa_nil) pa_nil))))))))))) (pss_cons (ps_set (i := 4) sc__law_bad_deed.nd rfl (Or.inl rfl) (pe_op (k_cat (K := K) rfl) (pv 4) (pe_lst (pa_cons (pe_tup (pa_cons (pe_str) (pa_cons (pe_str) pa_nil))) (pa_cons (pe_str) (pa_cons (pe_lst (pa_cons (pe_str) pa_nil)) (pa_cons (pe_non) (pa_cons (pe_int) (pa_cons (pe_tup (pa_cons (pe_str) (pa_cons (pe_int) pa_nil))) (pa_cons (pe_tup (pa_cons (pe_int) pa_nil)) (pa_cons (pe_tup (pa_cons (pe_str) (pa_cons (pe_str) pa_nil))) (pa_cons (pe_tup (pa_cons (pe_tup (pa_cons (pe_str) pa_nil)) pa_nil)) pa_nil)))))))))))) (pss_cons (ps_set (i := 4) sc__law_bad_deed.nd rfl (Or.inl rfl) (pe_op (k_cat (K := K) rfl) (pv 4) (pe_lst (pa_cons (pe_tup (pa_cons (pe_str) (pa_cons (pe_lst (pa_cons (pe_int) pa_nil)) pa_nil))) (pa_cons (pe_tup (pa_cons (pe_str) (pa_cons (pe_lst (pa_cons (pe_int) pa_nil)) (pa_cons (pe_int) pa_nil)))) (pa_cons (pe_tup (pa_cons (pe_str) (pa_cons (pe_int) (pa_cons (pe_un un_neg (pe_int)) pa_nil)))) (pa_cons (pe_tup (pa_cons (pe_str) (pa_cons (pe_int) (pa_cons (pe_op op_add (pe_op op_add (pv 1) (pe_int)) (pv 3)) pa_nil)))) (pa_cons (pe_tup (pa_cons (pe_str) (pa_cons (pe_int) (pa_cons (pe_int) (pa_cons (pe_int) pa_nil))))) pa_nil)))))))) (pss_cons (ps_set (i := 4) sc__law_bad_deed.nd rfl (Or.inl rfl) (pe_op (k_cat (K := K) rfl) (pv 4) (pe_lst (pa_cons (pe_tup (pa_cons (pe_str) (pa_cons (pe_str) (pa_cons (pe_int) pa_nil)))) (pa_cons (pe_tup (pa_cons (pe_str) (pa_cons (pe_int) (pa_cons (pe_str) pa_nil)))) (pa_cons (pe_tup (pa_cons (pe_str) (pa_cons (pe_op op_add (pv 2) (pv 3)) (pa_cons (pe_int) pa_nil)))) (pa_cons (pe_tup (pa_cons (pe_str) (pa_cons (pe_int) (pa_cons (pe_bl) pa_nil)))) (pa_cons (pe_tup (pa_cons (pe_str) (pa_cons (pe_int) (pa_cons (pe_int) pa_nil)))) pa_nil)))))))) (pss_cons (ps_set (i := 4) sc__law_bad_deed.nd rfl (Or.inl rfl) (pe_op (k_cat (K := K) rfl) (pv 4) (pe_lst (pa_cons (pe_tup (pa_cons (pe_str) (pa_cons (pe_str) pa_nil))) (pa_cons (pe_tup (pa_cons (pe_str) (pa_cons (pe_op op_add (pv 2) (pv 3)) pa_nil))) (pa_cons (pe_tup (pa_cons (pe_str) (pa_cons (pe_int) pa_nil))) (pa_cons (pe_tup (pa_cons (pe_str) (pa_cons (pe_int) pa_nil))) (pa_cons (pe_tup (pa_cons (pe_lst (pa_cons (pe_str) pa_nil)) pa_nil)) (pa_cons (pe_tup (pa_cons (pe_str) (pa_cons (pe_dnewK) pa_nil))) pa_nil))))))))) (pss_cons (ps_set (i := 4) sc__law_bad_deed.nd rfl (Or.inl rfl) (pe_op (k_cat (K := K) rfl) (pv 4) (pe_lst (pa_cons (pe_tup (pa_cons (pe_str) (pa_cons (pe_str) pa_nil))) (pa_cons (pe_tup (pa_cons (pe_str) (pa_cons (pe_non) pa_nil))) (pa_cons (pe_tup (pa_cons (pe_str) (pa_cons (pe_non) pa_nil))) (pa_cons (pe_tup (pa_cons (pe_str) (pa_cons (pe_lst (pa_cons (pe_int) pa_nil)) pa_nil))) (pa_cons (pe_tup (pa_cons (pe_str) (pa_cons (pe_str) pa_nil))) pa_nil)))))))) (pss_one (ps_ret (pe_ix (k_ixL (K := K) rfl) (pv 4) (pe_call (ok__law_draw T) (hr.mono (by decide)) (by rfl) T.m__law_draw T.F__law_draw.kp T.b__law_draw .nil pass0 (pa_cons (pv 0) (pa_cons (pe_callB (k_len (K := K) rfl) (by rfl) T.n_len (by decide +kernel) (pa_cons (pv 4) pa_nil)) pa_nil))) (fun _ _ => rfl))))))))))))), ?_⟩
  rintro ⟨dk, D0, b, r⟩ -
  show S1 E _ [some (Av dk), some (D K (.int b)), some (D K (.int r)), none, none] [(dk, DKo D0)] { nx := fun _ μ => BackY (bdR K) (dk, D0, b, r) (D K .none) μ, rt := BackY (bdR K) (dk, D0, b, r) }
  try simp only [cx_K, cx_KX]
  have hfr : 0 < (10 : Int) ^ (20 : Int).toNat ∧ (10 : Int) ^ (20 : Int).toNat < 2 ^ 200 := by decide
  refine s_let (Q := D K (.int (dv D0 ((10 : Int) ^ (20 : Int).toNat)))) (μ1 := [(dk, DKo (dn D0 ((10 : Int) ^ (20 : Int).toNat)))]) (by exact e_draw (by walk_at "ea") hfr) ?_
  have f0 : 0 ≤ dv D0 ((10 : Int) ^ (20 : Int).toNat) := dv_lo hfr.1
  generalize dv D0 ((10 : Int) ^ (20 : Int).toNat) = far at f0 ⊢
  generalize dn D0 ((10 : Int) ^ (20 : Int).toNat) = D1
  simp only [List.set_cons_succ, List.set_cons_zero]
  refine s_let (Q := D K (.list (badA b r far))) (μ1 := [(dk, DKo D1)]) (by show E1 _ _ _ (D K (.list [.tuple [.str "off", .int 0], .tuple [.str "off", .int (b + far)], .tuple [.str "off", .int (-1)], .tuple [.str "off", .bool true], .tuple [.str "off"], .tuple [.str "off", .int 1, .int 1], .tuple [.str "read", .int (r), .int 1]])) _; walk_at "ev") ?_
  simp only [List.set_cons_succ, List.set_cons_zero]
  refine s_let (Q := D K (.list (badA b r far ++ badB b r))) (μ1 := [(dk, DKo D1)]) (EO.frz (o_cat (K := K) (ds := badA b r far) (es := badB b r) (e_var rfl) (by show E1 _ _ _ (D K (.list [.tuple [.str "read", .int 0, .int 0], .tuple [.str "read", .int 0, .int (b)], .tuple [.str "read", .int 0], .tuple [.str "read", .int (-1), .int 1], .tuple [.str "read", .bool false, .int 1], .tuple [.str "copy", .int (r)]])) _; walk_at "ev") lr_D lr_D (by show 13 ≤ 100000; decide))) ?_
  simp only [List.set_cons_succ, List.set_cons_zero]
  refine s_let (Q := D K (.list (badA b r far ++ badB b r ++ badC))) (μ1 := [(dk, DKo D1)]) (EO.frz (o_cat (K := K) (ds := badA b r far ++ badB b r) (es := badC) (e_var rfl) (by show E1 _ _ _ (D K (.list [.tuple [.str "copy", .int (-1)], .tuple [.str "copy", .bool false], .tuple [.str "copy"], .tuple [.str "swap", .int 1], .tuple [.str "forget", .none], .tuple [.str "fall"], .tuple [.str "Out"], .tuple []])) _; walk_at "ev") lr_D lr_D (by show 21 ≤ 100000; decide))) ?_
  simp only [List.set_cons_succ, List.set_cons_zero]
  refine s_let (Q := D K (.list (badA b r far ++ badB b r ++ badC ++ badE))) (μ1 := [(dk, DKo D1)]) (EO.frz (o_cat (K := K) (ds := badA b r far ++ badB b r ++ badC) (es := badE) (e_var rfl) (by show E1 _ _ _ (D K (.list [.tuple [.str "off", .str "1"], .str "forget", .list [.str "forget"], .none, .int 0, .tuple [.str "", .int 1], .tuple [.int 1], .tuple [.str "twice", .str "twice"], .tuple [.tuple [.str "out"]]])) _; walk_at "ev") lr_D lr_D (by show 30 ≤ 100000; decide))) ?_
  simp only [List.set_cons_succ, List.set_cons_zero]
  refine s_let (Q := D K (.list (badA b r far ++ badB b r ++ badC ++ badE ++ badF b far))) (μ1 := [(dk, DKo D1)]) (EO.frz (o_cat (K := K) (ds := badA b r far ++ badB b r ++ badC ++ badE) (es := badF b far) (e_var rfl) (by show E1 _ _ _ (D K (.list [.tuple [.str "off", .list [.int 1]], .tuple [.str "read", .list [.int 0], .int 1], .tuple [.str "read", .int 0, .int (-1)], .tuple [.str "read", .int 0, .int (b + 1 + far)], .tuple [.str "read", .int 0, .int 1, .int 1]])) _; walk_at "ev") lr_D lr_D (by show 35 ≤ 100000; decide))) ?_
  simp only [List.set_cons_succ, List.set_cons_zero]
  refine s_let (Q := D K (.list (badA b r far ++ badB b r ++ badC ++ badE ++ badF b far ++ badG r far))) (μ1 := [(dk, DKo D1)]) (EO.frz (o_cat (K := K) (ds := badA b r far ++ badB b r ++ badC ++ badE ++ badF b far) (es := badG r far) (e_var rfl) (by show E1 _ _ _ (D K (.list [.tuple [.str "read", .str "0", .int 1], .tuple [.str "read", .int 0, .str "1"], .tuple [.str "read", .int (r + far), .int 1], .tuple [.str "read", .int 0, .bool false], .tuple [.str "copy", .int 0, .int 0]])) _; walk_at "ev") lr_D lr_D (by show 40 ≤ 100000; decide))) ?_
  simp only [List.set_cons_succ, List.set_cons_zero]
  have hB := badX_all (badAll_ok (b := b) (r := r) f0) badJ_ok
  have hBl : (((badAll b r far).map some ++ [none]) ++ badJ.map some).length = 51 := rfl
  have hX : badAll b r far = (badA b r far ++ badB b r ++ badC ++ badE ++ badF b far ++ badG r far) ++ badH r far := rfl
  have hds : (badA b r far ++ badB b r ++ badC ++ badE ++ badF b far ++ badG r far).length = 40 := rfl
  rw [hX] at hB hBl
  clear hX
  generalize (badA b r far ++ badB b r ++ badC ++ badE ++ badF b far ++ badG r far) = ds at hB hBl hds ⊢
  refine s_let (Q := Lq K ((((ds ++ badH r far).map some) ++ [none]).map (itP K))) (μ1 := [(dk, DKo D1)]) ?_ ?_
  · rw [← it_odd]
    refine e_catQ (μ1 := [(dk, DKo D1)]) ((e_var (P := D K (.list ds)) rfl).imp lq_D) (e_lstQ ?_ (by show 6 ≤ 1000; decide)) (by rw [List.length_map, hds]; show 40 + 6 ≤ 100000; decide)
    refine a_cons (P := D K (.tuple [.str "copy", .str "0"])) (μ1 := [(dk, DKo D1)]) (by walk_at "ev") ?_
    refine a_cons (P := D K (.tuple [.str "copy", .int (r + far)])) (μ1 := [(dk, DKo D1)]) (by walk_at "ev") ?_
    refine a_cons (P := D K (.tuple [.str "again", .int 0])) (μ1 := [(dk, DKo D1)]) (by walk_at "ev") ?_
    refine a_cons (P := D K (.tuple [.str "out", .int 0])) (μ1 := [(dk, DKo D1)]) (by walk_at "ev") ?_
    refine a_cons (P := D K (.tuple [.list [.str "forget"]])) (μ1 := [(dk, DKo D1)]) (by walk_at "ev") ?_
    exact a_cons (e_tupP (a_cons e_cS (a_cons e_dnew a_nil)) (by show 2 ≤ 1000; decide)) a_nil
  simp only [List.set_cons_succ, List.set_cons_zero]
  have hl1 : (((ds ++ badH r far).map some) ++ [none]).length + 5 = 51 := by rw [← hBl]; simp [List.length_append]; rfl
  generalize (((ds ++ badH r far).map some) ++ [none]) = xs at hB hBl hl1 ⊢
  refine s_let (Q := Lq K ((xs ++ badJ.map some).map (itP K))) (μ1 := [(dk, DKo D1)]) ?_ ?_
  · rw [← it_more]
    refine e_catQ (μ1 := [(dk, DKo D1)]) (e_var rfl) (e_lstQ ?_ (by show 5 ≤ 1000; decide)) (by rw [List.length_map]; show xs.length + 5 ≤ 100000; omega)
    refine a_cons (P := D K (.tuple [.str "forget", .str "forget"])) (μ1 := [(dk, DKo D1)]) (by walk_at "ev") ?_
    refine a_cons (P := D K (.tuple [.str "off", .none])) (μ1 := [(dk, DKo D1)]) (by walk_at "ev") ?_
    refine a_cons (P := D K (.tuple [.str "copy", .none])) (μ1 := [(dk, DKo D1)]) (by walk_at "ev") ?_
    refine a_cons (P := D K (.tuple [.str "copy", .list [.int 0]])) (μ1 := [(dk, DKo D1)]) (by walk_at "ev") ?_
    refine a_cons (P := D K (.tuple [.str "swap", .str "swap"])) (μ1 := [(dk, DKo D1)]) (by walk_at "ev") ?_
    exact a_nil
  simp only [List.set_cons_succ, List.set_cons_zero]
  generalize (xs ++ badJ.map some) = fs at hB hBl ⊢
  have hn : 0 < (fs.length : Int) ∧ (fs.length : Int) < 2 ^ 200 := by omega
  have i0 : 0 ≤ dv D1 (fs.length : Int) := dv_lo hn.1
  have i1 : dv D1 (fs.length : Int) < (fs.length : Int) := dv_hi hn.1
  have hx : fs[(dv D1 (fs.length : Int)).toNat]? = some (fs[(dv D1 (fs.length : Int)).toNat]'(by omega)) := List.getElem?_eq_getElem (by omega)
  have hb2 := hB _ (List.getElem_mem (show (dv D1 (fs.length : Int)).toNat < fs.length by omega))
  have hlm : (((fs.map (itP K)).length : Nat) : Int) = (fs.length : Int) := by rw [List.length_map]
  refine s_ret (Q := itP K (fs[(dv D1 (fs.length : Int)).toNat]'(by omega))) (μ1 := [(dk, DKo (dn D1 (fs.length : Int)))]) (e_ixQ (K := K) (i := dv D1 (fs.length : Int)) (Ps := fs.map (itP K)) (e_var rfl) (by exact e_draw (Dk := D1) (rest := []) (a_cons (e_var rfl) (a_cons (by rw [← hlm]; exact e_lenQ (e_var rfl)) a_nil)) hn) (atI_int i0 (by rw [List.getElem?_map, hx]; rfl))) ?_
  exact backY_mk ⟨_, dn D1 (fs.length : Int), rfl, hb2, rfl⟩ (Imp.refl _) (List.Sublist.refl _)
theorem y__law_bad_deed {δ : En} {μ : Mp} {E : XK} {dk : Addr} {D0 : Deck} {b r : Int} {rest : Mp} {tA : TA} (h : EA tA δ μ [Av dk, D K (.int b), D K (.int r)] ((dk, DKo D0) :: rest)) :
    EY (tCall (sp__law_bad_deed K) [] E tA) δ μ (fun Q μ' => ∃ x D1, Q = itP K x ∧ BadX b r x ∧ μ' = (dk, DKo D1) :: rest) :=
  (y_call (A := bdA K) (m := bdM) (pre := fun _ => True) (R := bdR K) (rest := rest) (dk, D0, b, r) h trivial).imp fun Q μ' z => by
    obtain ⟨_, ⟨d, D1, h1, h2, rfl⟩, rfl⟩ := z
    exact ⟨d, D1, h1, h2, rfl⟩
def sp__law_bad_item (K : PySem.W.Frag) : Sp := sp (biA K) biM biPre (biR K)
theorem ok__law_bad_item (T : Txt P K mg) : FnOk P w K mg base CX0 2 T.a__law_bad_item T.fd__law_bad_item ["deck", "base", "rows", "columns", "low"] (sp__law_bad_item K) := by
  refine fn_Y T.F__law_bad_item sc__law_bad_item (fun _ => rfl) fun cdv A outer s H E hr => ⟨_, (pss_cons (ps_set (i := 5) sc__law_bad_item.nd rfl (Or.inl rfl) (pe_callB (k_len (K := K) rfl) (by rfl) T.n_len (by decide +kernel) (pa_cons (pv 3) pa_nil))) (pss_cons (ps_set (i := 6) sc__law_bad_item.nd rfl (Or.inl rfl) (pe_call (ok__law_draw T) (hr.mono (by decide)) (by rfl) T.m__law_draw T.F__law_draw.kp T.b__law_draw .nil pass0 (pa_cons (pv 0) (pa_cons (pe_op op_pow (pe_int) (pe_int)) pa_nil)))) (pss_cons (ps_set (i := 7) sc__law_bad_item.nd rfl (Or.inl rfl) (pe_lst (pa_cons (pe_tup (pa_cons (pv 5) (pa_cons (pe_tup (pa_cons (pe_str) pa_nil)) pa_nil))) (pa_cons (pe_tup (pa_cons (pe_op op_add (pe_op op_add (pv 5) (pe_int)) (pv 6)) (pa_cons (pe_tup (pa_cons (pe_str) pa_nil)) pa_nil))) (pa_cons (pe_tup (pa_cons (pe_un un_neg (pe_int)) (pa_cons (pe_tup (pa_cons (pe_str) pa_nil)) pa_nil))) (pa_cons (pe_tup (pa_cons (pe_op op_sub (pe_un un_neg (pe_int)) (pv 6)) (pa_cons (pe_tup (pa_cons (pe_str) pa_nil)) pa_nil))) (pa_cons (pe_tup (pa_cons (pe_bl) (pa_cons (pe_tup (pa_cons (pe_str) pa_nil)) pa_nil))) pa_nil))))))) (pss_cons (ps_set (i := 7) sc__law_bad_item.nd rfl (Or.inl rfl) (pe_op (k_cat (K := K) rfl) (pv 7) (pe_lst (pa_cons (pe_non) (pa_cons (pe_tup (pa_cons (pe_str) pa_nil)) (pa_cons (pe_lst (pa_cons (pe_int) (pa_cons (pe_tup (pa_cons (pe_str) pa_nil)) pa_nil))) (pa_cons (pe_tup (pa_cons (pe_int) (pa_cons (pe_tup (pa_cons (pe_str) pa_nil)) (pa_cons (pe_int) pa_nil)))) (pa_cons (pe_tup (pa_cons (pe_str) (pa_cons (pe_tup (pa_cons (pe_str) pa_nil)) pa_nil))) (pa_cons (pe_tup (pa_cons (pe_non) (pa_cons (pe_tup (pa_cons (pe_str) pa_nil)) pa_nil))) (pa_cons (pe_tup pa_nil) (pa_cons (pe_int) pa_nil))))))))))) (pss_cons (ps_if (pt_cmpR op_gt (pv 4) (pe_int) (nomark _)) (pss_one (ps_set (i := 7) sc__law_bad_item.nd rfl (Or.inl rfl) (pe_op (k_cat (K := K) rfl) (pv 7) (pe_lst (pa_cons (pe_tup (pa_cons (pe_call (ok__law_draw T) (hr.mono (by decide)) (by rfl) T.m__law_draw T.F__law_draw.kp T.b__law_draw .nil pass0 (pa_cons (pv 0) (pa_cons (pv 4) pa_nil))) (pa_cons (pe_tup (pa_cons (pe_str) pa_nil)) pa_nil))) (pa_cons (pe_tup (pa_cons (pe_op op_sub (pv 4) (pe_int)) (pa_cons (pe_tup (pa_cons (pe_str) pa_nil)) pa_nil))) (pa_cons (pe_tup (pa_cons (pe_op op_sub (pv 4) (pe_int)) (pa_cons (pe_tup (pa_cons (pe_str) pa_nil)) pa_nil))) pa_nil))))))) (pss_nil)) (pss_cons (ps_expr (pe_bm PySem.F.plainAttrs_list PySem.F.slot_list_append PySem.F.type_list_append mt_append (pv 7) (pa_cons (pe_tup (pa_cons (pe_bl) (pa_cons (pe_tup (pa_cons (pe_str) pa_nil)) pa_nil))) pa_nil))) (pss_one (ps_ret (pe_ix (k_ixL (K := K) rfl) (pv 7) (pe_call (ok__law_draw T) (hr.mono (by decide)) (by rfl) T.m__law_draw T.F__law_draw.kp T.b__law_draw .nil pass0 (pa_cons (pv 0) (pa_cons (pe_callB (k_len (K := K) rfl) (by rfl) T.n_len (by decide +kernel) (pa_cons (pv 7) pa_nil)) pa_nil))) (fun _ _ => rfl)))))))))), ?_⟩
  rintro ⟨dk, D0, b, r, cs, lo⟩ hp
  replace hp : cs.length ≤ 1000 ∧ lo ≤ 1000 := hp
  obtain ⟨hl, hlo⟩ := hp
  show S1 E _ [some (Av dk), some (D K (.int b)), some (D K (.int r)), some (D K (.list (cs.map colD))), some (D K (.int (lo : Int))), none, none, none] [(dk, DKo D0)] { nx := fun _ μ => BackY (biR K) (dk, D0, b, r, cs, lo) (D K .none) μ, rt := BackY (biR K) (dk, D0, b, r, cs, lo) }
  try simp only [cx_K, cx_KX]
  have hlm : ((cs.map colD).length : Int) = (cs.length : Int) := by rw [List.length_map]
  refine s_let (Q := D K (.int (cs.length : Int))) (μ1 := [(dk, DKo D0)]) (by rw [← hlm]; walk_at "ev") ?_
  have hfr : 0 < (10 : Int) ^ (20 : Int).toNat ∧ (10 : Int) ^ (20 : Int).toNat < 2 ^ 200 := by decide
  refine s_let (Q := D K (.int (dv D0 ((10 : Int) ^ (20 : Int).toNat)))) (μ1 := [(dk, DKo (dn D0 ((10 : Int) ^ (20 : Int).toNat)))]) (by exact e_draw (by walk_at "ea") hfr) ?_
  have f0 : 0 ≤ dv D0 ((10 : Int) ^ (20 : Int).toNat) := dv_lo hfr.1
  generalize dv D0 ((10 : Int) ^ (20 : Int).toNat) = far at f0 ⊢
  generalize dn D0 ((10 : Int) ^ (20 : Int).toNat) = D1
  simp only [List.set_cons_succ, List.set_cons_zero]
  walk_at "Let"
  walk_at "Own"
  rename_i sa
  simp only [List.set_cons_succ, List.set_cons_zero]
  show S1 E _ _ [(dk, DKo D1), (sa, OL K (badIts cs.length far))] _
  have hB := badIts_ok (b := b) (r := r) (far := far) (n := cs.length) (lo := lo) f0
  have hBl : (badIts cs.length far).length ≤ 20 := by show 13 ≤ 20; decide
  generalize badIts cs.length far = ds at hB hBl ⊢
  refine s_ifj (a := decide ((0 : Int) < (lo : Int))) (μ1 := [(dk, DKo D1), (sa, OL K ds)]) (N := fun δ μ => ∃ (sb : Addr) (es : List PyData) (D2 : Deck), (∀ d ∈ es, BadIt b r cs.length lo d) ∧ es.length ≤ 30 ∧ [(dk, DKo D2), (sb, OL K es)].Sublist μ ∧ Le δ [some (Av dk), none, none, none, none, none, none, some (Av sb)]) (t_test (e_gt (e_var rfl) e_cI)) (fun h => ?_) (fun _ => s_next ⟨sa, ds, D1, hB, by omega, List.Sublist.refl _, by walk_at "le"⟩) ?_
  · have h0 : 0 < (lo : Int) ∧ (lo : Int) < 2 ^ 200 := by have := of_decide_eq_true h; omega
    have t0 : 0 ≤ dv D1 (lo : Int) := dv_lo h0.1
    have t1 : dv D1 (lo : Int) < (lo : Int) := dv_hi h0.1
    refine s_setY ((o_cat (K := K) (ds := ds) (es := [slipD (dv D1 (lo : Int), .out), slipD ((lo : Int) - 1, .again), slipD ((lo : Int) - 1, .twice)]) (μ2 := [(dk, DKo (dn D1 (lo : Int))), (sa, OL K ds)]) (e_var rfl) (EO.frz (o_lst (K := K) (d_cons (e_tup (ds := [.int (dv D1 (lo : Int)), deedD .out]) (d_cons (by exact e_draw (Dk := D1) (rest := [(sa, OL K ds)]) (by walk_at "ea") h0) (d_cons (e_tup (ds := [.str "out"]) (d_cons e_cS d_nil) (by show 1 ≤ 1000; decide)) d_nil)) (by show 2 ≤ 1000; decide)) (d_cons (e_tup (ds := [.int ((lo : Int) - 1), deedD .again]) (d_cons (by walk_at "ev") (d_cons (e_tup (ds := [.str "again"]) (d_cons e_cS d_nil) (by show 1 ≤ 1000; decide)) d_nil)) (by show 2 ≤ 1000; decide)) (d_cons (e_tup (ds := [.int ((lo : Int) - 1), deedD .twice]) (d_cons (by walk_at "ev") (d_cons (e_tup (ds := [.str "twice"]) (d_cons e_cS d_nil) (by show 1 ≤ 1000; decide)) d_nil)) (by show 2 ≤ 1000; decide)) d_nil))) (by show 3 ≤ 100000; decide))) (lr_O 1 rfl) lr_D (by show ds.length + 3 ≤ 100000; omega)).own) ?_
    rintro _ _ ⟨sb, rfl, rfl⟩
    refine ⟨sb, _, dn D1 (lo : Int), ?_, ?_, List.Sublist.cons₂ _ (List.Sublist.cons _ (List.Sublist.refl _)), by walk_at "le"⟩
    · intro d hd
      rcases List.mem_append.mp hd with hd | hd
      · exact hB d hd
      · simp only [List.mem_cons, List.not_mem_nil, or_false] at hd
        rcases hd with rfl | rfl | rfl <;> exact bad_slip (.inl (by omega))
    · rw [List.length_append]
      show ds.length + 3 ≤ 30
      omega
  · clear hB hBl
    rintro δ' μ' ⟨sb, es, D2, hB, hBl, hs, hle⟩
    refine S1.le ?_ hle
    refine s_less hs ?_
    refine s_do (e_append (K := K) 1 (d := .tuple [.bool false, deedD .out]) (e_var rfl) (e_tup (ds := [.bool false, deedD .out]) (d_cons e_cB (d_cons (e_tup (ds := [.str "out"]) (d_cons e_cS d_nil) (by show 1 ≤ 1000; decide)) d_nil)) (by show 2 ≤ 1000; decide)) ⟨1, _, rfl⟩ rfl (by omega)) ?_
    simp only [List.set_cons_succ, List.set_cons_zero]
    have hB2 : ∀ d ∈ es ++ [.tuple [.bool false, deedD .out]], BadIt b r cs.length lo d := fun d hd => by
      rcases List.mem_append.mp hd with hd | hd
      · exact hB d hd
      · obtain rfl := List.mem_singleton.mp hd
        exact ⟨rfl, itemOk_B (by decide +kernel)⟩
    have hl2 : (es ++ [PyData.tuple [.bool false, deedD .out]]).length ≤ 31 := by rw [List.length_append]; show es.length + 1 ≤ 31; omega
    have hl3 : 0 < (es ++ [PyData.tuple [.bool false, deedD .out]]).length := by rw [List.length_append]; show 0 < es.length + 1; omega
    generalize es ++ [PyData.tuple [.bool false, deedD .out]] = fs at hB2 hl2 hl3 ⊢
    have hn : 0 < (fs.length : Int) ∧ (fs.length : Int) < 2 ^ 200 := by omega
    have i0 : 0 ≤ dv D2 (fs.length : Int) := dv_lo hn.1
    have i1 : dv D2 (fs.length : Int) < (fs.length : Int) := dv_hi hn.1
    have hx : fs[(dv D2 (fs.length : Int)).toNat]? = some (fs[(dv D2 (fs.length : Int)).toNat]'(by omega)) := List.getElem?_eq_getElem (by omega)
    have hb2 := hB2 _ (List.getElem_mem (show (dv D2 (fs.length : Int)).toNat < fs.length by omega))
    refine s_ret (μ1 := [(dk, DKo (dn D2 (fs.length : Int))), (sb, OL K fs)]) (e_ixL (K := K) (i := dv D2 (fs.length : Int)) (ds := fs) (e_var rfl) (by exact e_draw (Dk := D2) (rest := [(sb, OL K fs)]) (a_cons (e_var rfl) (a_cons (e_len (e_var rfl) (lr_O 1 rfl)) a_nil)) hn) (lr_O 1 rfl) (atI_int i0 hx)) ?_
    exact backY_mk ⟨_, dn D2 (fs.length : Int), rfl, hb2, rfl⟩ (Imp.refl _) (List.Sublist.cons₂ _ (List.nil_sublist _))
theorem y__law_bad_item {δ : En} {μ : Mp} {E : XK} {dk : Addr} {D0 : Deck} {b r : Int} {cs : List (List Int)} {lo : Nat} {rest : Mp} {tA : TA} (h : EA tA δ μ [Av dk, D K (.int b), D K (.int r), D K (.list (cs.map colD)), D K (.int (lo : Int))] ((dk, DKo D0) :: rest)) (hp : cs.length ≤ 1000 ∧ lo ≤ 1000) :
    EY (tCall (sp__law_bad_item K) [] E tA) δ μ (fun Q μ' => ∃ d D1, Q = D K d ∧ BadIt b r cs.length lo d ∧ μ' = (dk, DKo D1) :: rest) :=
  (y_call (A := biA K) (m := biM) (pre := biPre) (R := biR K) (rest := rest) (dk, D0, b, r, cs, lo) h hp).imp fun Q μ' z => by
    obtain ⟨_, ⟨d, D1, h1, h2, rfl⟩, rfl⟩ := z
    exact ⟨d, D1, h1, h2, rfl⟩
theorem ok__law_cells (T : Txt P K mg) : FnOk P w K mg base CX0 1 T.a__law_cells T.fd__law_cells ["script"] (spec (cellsPre K) (cellsPost K)) := by
  refine fn_sv T.F__law_cells sc__law_cells (fun x G M vs h => by obtain ⟨v, rfl, _⟩ := h; rfl) fun cdv A outer s H E hr => ⟨_, (pss_cons (ps_if (pt_cmpR (k_eqD (K := K) rfl hr.units) (pv 0) (pe_lst pa_nil) (nomark _)) (pss_one (ps_ret (pe_lst (pa_cons (pe_int) pa_nil)))) (pss_nil)) (pss_one (ps_ret (pe_slice (k_slL (K := K) rfl) (pv 0) po_none (po_some (pe_int)))))), ?_⟩
  rintro ns G M vs ⟨v, rfl, dv, hl⟩
  refine sv_ifs (et_test (ev_eqD (K := K) (d := .list (ns.map PyData.int)) (e := .list []) (ev_varP rfl dv) (Ev.frz (ev_lstO (ds := []) ea_nil (by decide))) (sh_ints (n := 0) ns).ok (sh_ints (n := 0) []).ok)) ?_ ?_
  · intro G1 e1 hb
    have hn : ns = [] := by
      have := eqv_lst ns []
      rw [show ([] : List Int).map PyData.int = [] from rfl, hb] at this
      exact of_decide_eq_true this.symm
    subst hn
    exact sv_ret (Ev.frz (ev_lstO (K := K) (ds := [.int 0]) (ea_cons (ev_iD ev_c) ea_nil) (by decide))) fun v' G' M' e r => r
  · intro G1 e1 hb
    refine sv_next fun G2 e2 => ?_
    have hn : ¬ ns = [] := fun z => by
      subst z
      cases hb
    refine sv_ret (Ev.frz (ev_slL (ds := ns.map PyData.int) (lo := none) (hi := some ((63 : Nat) : Int)) (ev_varP rfl (dm dv (e1.trans e2))) eo_none (eo_some ev_c))) fun v' G' M' e r => ?_
    rw [cutD_take, ← List.map_take] at r
    show isD K (.list ((cellsOf ns).map PyData.int)) M G' v' M'
    unfold cellsOf
    rw [if_neg hn]
    exact r
theorem ok__law_column (T : Txt P K mg) : FnOk P w K mg base CX0 2 T.a__law_column T.fd__law_column ["deck", "base", "rows"] (spec lcolPre (lcolPost K)) := by
  refine fn_sv T.F__law_column sc__law_column (fun x G M vs h => by obtain ⟨rfl, _⟩ := h; rfl) fun cdv A outer s H E hr => ⟨_, (pss_cons (ps_set (i := 3) sc__law_column.nd rfl (Or.inl rfl) (pe_call (ok__law_draw T) (hr.mono (by decide)) (by rfl) T.m__law_draw T.F__law_draw.kp T.b__law_draw .nil pass0 (pa_cons (pv 0) (pa_cons (pe_int) pa_nil)))) (pss_cons (ps_setLc (i := 4) (own := [("j", 5)]) (g := gName 5) (tt := tYes) rfl sc__law_column.nd rfl rfl (sw_true rfl rfl rfl (by decide +kernel)) (pi_range1 (by rfl) T.n_range (pa_cons (pv 2) pa_nil)) (blkOk_by (N := ["deck", "base", "rows", "way", "figures", "j"]) (sc := defScope s__law_column) (by decide +kernel)) (fun _ _ _ _ _ => pg_name (i := 5) sc__law_column.nd rfl (Or.inl rfl)) (fun _ _ _ _ _ => pts_nil) (fun _ _ _ _ _ => pe_call (ok__law_draw T) (hr.mono (by decide)) (by rfl) T.m__law_draw T.F__law_draw.kp T.b__law_draw .nil pass0 (pa_cons (pv 0) (pa_cons (pv 1) pa_nil)))) (pss_cons (ps_if (pt_cmpR op_eq (pv 3) (pe_int) (nomark _)) (pss_one (ps_setLc (i := 4) (own := [("j", 5)]) (g := gName 5) (tt := tYes) rfl sc__law_column.nd rfl rfl (sw_true rfl rfl rfl (by decide +kernel)) (pi_range1 (by rfl) T.n_range (pa_cons (pv 2) pa_nil)) (blkOk_by (N := ["deck", "base", "rows", "way", "figures", "j"]) (sc := defScope s__law_column) (by decide +kernel)) (fun _ _ _ _ _ => pg_name (i := 5) sc__law_column.nd rfl (Or.inl rfl)) (fun _ _ _ _ _ => pts_nil) (fun _ _ _ _ _ => pe_int))) (pss_nil)) (pss_cons (ps_if (pt_cmpR op_eq (pv 3) (pe_int) (nomark _)) (pss_one (ps_setLc (i := 4) (own := [("j", 5)]) (g := gName 5) (tt := tYes) rfl sc__law_column.nd rfl rfl (sw_true rfl rfl rfl (by decide +kernel)) (pi_range1 (by rfl) T.n_range (pa_cons (pv 2) pa_nil)) (blkOk_by (N := ["deck", "base", "rows", "way", "figures", "j"]) (sc := defScope s__law_column) (by decide +kernel)) (fun _ _ _ _ _ => pg_name (i := 5) sc__law_column.nd rfl (Or.inl rfl)) (fun _ _ _ _ _ => pts_nil) (fun _ _ _ _ _ => pe_op op_sub (pv 1) (pe_int)))) (pss_nil)) (pss_one (ps_ret (pe_callTy (k_tup (K := K) rfl) (by rfl) T.n_tuple (by decide +kernel) (pa_cons (pv 4) pa_nil)))))))), ?_⟩
  rintro ⟨dk, i, D, b, r⟩ G M vs ⟨rfl, (b0 : 0 < b), (b1 : b < 2 ^ 200), (r0 : 0 ≤ r), (r1 : r ≤ 1000), (hi : M[i]? = some (dk, D.ho))⟩
  have hset : ∀ (o : HO), (M.set i (dk, o))[i]? = some (dk, o) := fun o => by rw [List.getElem?_set_self (List.getElem?_eq_some_iff.mp hi).1]
  refine sv_let (ev_draw i (ea_cons (ev_var rfl) (ea_cons ev_c ea_nil)) hi (by decide) (by decide)) ?_
  rintro _ G1 M1 e1 ⟨rfl, rfl⟩
  refine sv_let (Ev.frz (ev_lcR (K := K) (nn := r) (fun _ => true) (fun j => M.set i (dk, (drawsD (dn D 5) b j).ho)) (fun j => .int (dv (drawsD (dn D 5) b j) b)) (ea_cons (ev_var rfl) ea_nil) (by omega) (by omega) (fun _ _ _ _ => et_yes) (fun j G' hj e _ => ?_) (fun _ z => by cases z) (fun _ => rfl))) ?_
  · have := ev_draw (σ := [some (.ref dk), some (.int b), some (.int r), some (.int (dv D 5)), none, some (.int (0 + (j : Int)))]) (G := G') (E := E0) i (ea_cons (ev_var (k := 0) rfl) (ea_cons (ev_var (k := 1) rfl) ea_nil)) (hset (drawsD (dn D 5) b j).ho) b0 b1
    rw [List.set_set] at this
    exact ev_iD this
  rintro v2 G2 M2 e2 ⟨h2, rfl⟩
  rw [kept_all] at h2
  have h2' : Dp K G2 v2 (.list ((drawsV (dn D 5) b r.toNat).map PyData.int)) := by
    rw [drawsV, List.map_map]
    exact h2
  have hz : ∀ (x : Int), kept r.toNat (fun _ => true) (fun _ => PyData.int x) = (List.replicate r.toNat x).map PyData.int := fun x => by
    rw [kept_all, List.map_replicate]
    apply List.ext_getElem?
    intro k
    rw [List.getElem?_map]
    by_cases hk : k < r.toNat
    · rw [List.getElem?_range hk, List.getElem?_replicate, if_pos hk]
      rfl
    · rw [List.getElem?_eq_none (by simp; omega), List.getElem?_eq_none (by simp; omega)]
      rfl
  -- the first choice
  refine sv_seq (N := fun G' σ' M' => M' = M.set i (dk, (colDk D b r).ho) ∧ ∃ v3, σ' = [some (.ref dk), some (.int b), some (.int r), some (.int (dv D 5)), some v3, none] ∧ Dp K G' v3 (.list ((if dv D 5 = 0 then List.replicate r.toNat 0 else drawsV (dn D 5) b r.toNat).map PyData.int))) (sv_if (et_test (ev_eqI (ev_var rfl) ev_c)) (fun G3 e3 hb => ?_) fun G3 e3 hb => ?_) ?_
  · rw [if_pos (of_decide_eq_true hb)]
    refine sv_set (Ev.frz (ev_lcR (K := K) (nn := r) (fun _ => true) (fun _ => M.set i (dk, (drawsD (dn D 5) b r.toNat).ho)) (fun j => .int 0) (ea_cons (ev_var rfl) ea_nil) (by omega) (by omega) (fun _ _ _ _ => et_yes) (fun j G' hj e _ => ev_iD ev_c) (fun _ _ => rfl) (fun _ => rfl))) ?_
    rintro v3 G4 M4 e4 ⟨h4, rfl⟩
    rw [hz] at h4
    exact ⟨rfl, v3, rfl, h4⟩
  · rw [if_neg (of_decide_eq_false hb)]
    exact sv_next fun G4 e4 => ⟨rfl, v2, rfl, dm h2' (e3.trans e4)⟩
  rintro G5 σ5 M5 e5 ⟨rfl, v5, rfl, h5⟩
  refine sv_seq (N := fun G' σ' M' => M' = M.set i (dk, (colDk D b r).ho) ∧ ∃ v3, σ' = [some (.ref dk), some (.int b), some (.int r), some (.int (dv D 5)), some v3, none] ∧ Dp K G' v3 (.list ((colOf D b r).map PyData.int))) (sv_if (et_test (ev_eqI (ev_var rfl) ev_c)) (fun G3 e3 hb => ?_) fun G3 e3 hb => ?_) ?_
  · unfold colOf
    rw [if_pos (of_decide_eq_true hb)]
    refine sv_set (Ev.frz (ev_lcR (K := K) (nn := r) (fun _ => true) (fun _ => M.set i (dk, (colDk D b r).ho)) (fun j => .int (b - 1)) (ea_cons (ev_var rfl) ea_nil) (by omega) (by omega) (fun _ _ _ _ => et_yes) (fun j G' hj e _ => ev_iD (ev_I0 (ev_var rfl) ev_c)) (fun _ _ => rfl) (fun _ => rfl))) ?_
    rintro v3 G4 M4 e4 ⟨h4, rfl⟩
    rw [hz] at h4
    exact ⟨rfl, v3, rfl, h4⟩
  · unfold colOf
    rw [if_neg (of_decide_eq_false hb)]
    exact sv_next fun G4 e4 => ⟨rfl, v5, rfl, dm h5 (e3.trans e4)⟩
  rintro G6 σ6 M6 e6 ⟨rfl, v6, rfl, h6⟩
  exact sv_ret (ev_tupD (K := K) (ev_varP rfl h6)) fun v' G' M' e r => r
theorem ok__law_columns (T : Txt P K mg) : FnOk P w K mg base CX0 3 T.a__law_columns T.fd__law_columns ["deck", "base", "rows", "most"] (spec lcolsPre (lcolsPost K)) := by
  refine fn_sv T.F__law_columns sc__law_columns (fun x G M vs h => by obtain ⟨rfl, _⟩ := h; rfl) fun cdv A outer s H E hr => ⟨_, (pss_cons (ps_set (i := 4) sc__law_columns.nd rfl (Or.inl rfl) (pe_call (ok__law_draw T) (hr.mono (by decide)) (by rfl) T.m__law_draw T.F__law_draw.kp T.b__law_draw .nil pass0 (pa_cons (pv 0) (pa_cons (pe_int) pa_nil)))) (pss_cons (ps_if (pt_cmpR op_eq (pe_call (ok__law_draw T) (hr.mono (by decide)) (by rfl) T.m__law_draw T.F__law_draw.kp T.b__law_draw .nil pass0 (pa_cons (pv 0) (pa_cons (pe_int) pa_nil))) (pe_int) (nomark _)) (pss_one (ps_set (i := 4) sc__law_columns.nd rfl (Or.inl rfl) (pe_call (ok__law_draw T) (hr.mono (by decide)) (by rfl) T.m__law_draw T.F__law_draw.kp T.b__law_draw .nil pass0 (pa_cons (pv 0) (pa_cons (pe_op op_add (pv 3) (pe_int)) pa_nil))))) (pss_nil)) (pss_one (ps_ret (pe_lc (own := [("i", 5)]) (g := gName 5) (tt := tYes) rfl sc__law_columns.nd (pi_range1 (by rfl) T.n_range (pa_cons (pv 4) pa_nil)) (blkOk_by (N := ["deck", "base", "rows", "most", "many", "i"]) (sc := defScope s__law_columns) (by decide +kernel)) (fun _ _ _ _ _ => pg_name (i := 5) sc__law_columns.nd rfl (Or.inl rfl)) (fun _ _ _ _ _ => pts_nil) (fun _ _ _ _ _ => pe_call (ok__law_column T) (hr.mono (by decide)) (by rfl) T.m__law_column T.F__law_column.kp T.b__law_column .nil pass0 (pa_cons (pv 0) (pa_cons (pv 1) (pa_cons (pv 2) pa_nil))))))))), ?_⟩
  rintro ⟨dk, i, D, b, r, most⟩ G M vs ⟨rfl, (b0 : 0 < b), (b1 : b < 2 ^ 200), (r0 : 0 ≤ r), (r1 : r ≤ 1000), (m0 : 0 ≤ most), (m1 : most ≤ 1000), (hi : M[i]? = some (dk, D.ho))⟩
  have hset : ∀ (o : HO), (M.set i (dk, o))[i]? = some (dk, o) := fun o => by rw [List.getElem?_set_self (List.getElem?_eq_some_iff.mp hi).1]
  refine sv_let (ev_draw i (ea_cons (ev_var rfl) (ea_cons ev_c ea_nil)) hi (by decide) (by decide)) ?_
  rintro _ G1 M1 e1 ⟨rfl, rfl⟩
  have hif := ev_draw (σ := [some (.ref dk), some (.int b), some (.int r), some (.int most), some (.int (dv D 7)), none]) (G := G1) (E := E0) i (ea_cons (ev_var (k := 0) rfl) (ea_cons (ev_c (x := .int 3)) ea_nil)) (hset (dn D 7).ho) (by decide) (by decide)
  rw [List.set_set] at hif
  refine sv_seq (N := fun G' σ' M' => σ' = [some (.ref dk), some (.int b), some (.int r), some (.int most), some (.int (manyOf D most)), none] ∧ M' = M.set i (dk, (manyDk D most).ho)) (sv_if (et_test (ev_eqI hif ev_c)) (fun G3 e3 hb => ?_) fun G3 e3 hb => ?_) ?_
  · have hd := of_decide_eq_true hb
    have := ev_draw (σ := [some (.ref dk), some (.int b), some (.int r), some (.int most), some (.int (dv D 7)), none]) (G := G3) (E := E0) i (ea_cons (ev_var (k := 0) rfl) (ea_cons (ev_I0 (g := fun i j => V.int (i + j)) (ev_var (k := 3) (x := .int most) rfl) (ev_c (x := .int 1))) ea_nil)) (hset (dn (dn D 7) 3).ho) (by omega) (by omega)
    rw [List.set_set] at this
    refine sv_set this ?_
    rintro _ G4 M4 e4 ⟨rfl, rfl⟩
    unfold manyOf manyDk
    rw [if_pos hd, if_pos hd]
    exact ⟨rfl, rfl⟩
  · have hd := of_decide_eq_false hb
    refine sv_next fun G4 e4 => ?_
    unfold manyOf manyDk
    rw [if_neg hd, if_neg hd]
    exact ⟨rfl, rfl⟩
  rintro G5 σ5 M5 e5 ⟨rfl, rfl⟩
  have h0 := manyOf_lo (D := D) m0
  have h1 := manyOf_hi (D := D) m0
  refine sv_ret (ev_lcR (K := K) (nn := manyOf D most) (fun _ => true) (fun j => M.set i (dk, (colsDk (manyDk D most) b r j).ho)) (fun j => colD (colOf (colsDk (manyDk D most) b r j) b r)) (ea_cons (ev_var rfl) ea_nil) (by omega) (by omega) (fun _ _ _ _ => et_yes) (fun j G' hj e _ => ?_) (fun _ z => by cases z) (fun _ => rfl)) fun v' G' M' e r' => ?_
  · have := ev_lcol (K := K) (σ := [some (.ref dk), some (.int b), some (.int r), some (.int most), some (.int (manyOf D most)), some (.int (0 + (j : Int)))]) (G := G') (E := E0) i (ea_cons (ev_var (k := 0) rfl) (ea_cons (ev_var (k := 1) rfl) (ea_cons (ev_var (k := 2) rfl) ea_nil))) (hset (colsDk (manyDk D most) b r j).ho) b0 b1 r0 r1
    rw [List.set_set] at this
    exact this
  · rw [kept_all] at r'
    show own K ((colsOf D b r most).map colD) _ G' v' M'
    rw [colsOf, colsV, List.map_map]
    exact r'
theorem ok__law_deck (T : Txt P K mg) : FnOk P w K mg base CX0 1 T.a__law_deck T.fd__law_deck ["cell"] (spec deckPre deckPost) := by
  refine fn_sv T.F__law_deck sc__law_deck (fun x G M vs h => by cases h; rfl) fun cdv A outer s H E hr => ⟨_, (pss_cons (ps_if (pt_cmpR op_ge (pv 0) (pe_op op_pow (pe_int) (pe_int)) (nomark _)) (pss_one (ps_ret (pe_lst (pa_cons (pe_op op_sub (pv 0) (pe_op op_pow (pe_int) (pe_int))) (pa_cons (pe_int) (pa_cons (pe_int) pa_nil)))))) (pss_nil)) (pss_one (ps_ret (pe_lst (pa_cons (pe_int) (pa_cons (pe_int) (pa_cons (pe_op op_add (pe_op op_mod (pe_callTy c_int (by rfl) T.n_int (by decide +kernel) (pa_cons (pv 0) pa_nil)) (pe_int)) (pe_int)) pa_nil))))))), ?_⟩
  rintro c G M vs rfl
  have hp : ∀ G' , Ev (tOp (rI CPow fun i j => .int (i ^ j.toNat)) (tC (.int 10)) (tC (.int 18))) (start ["cell"] [.int c]) G' M (isV (.int (10 ^ 18)) M) := fun G' => ev_I ev_c ev_c ⟨by decide, by decide, by decide⟩
  refine sv_ifs (et_test (ev_I0 (ev_var rfl) (hp _))) ?_ ?_
  · intro G1 e1 hb
    have hc : (10 : Int) ^ 18 ≤ c := of_decide_eq_true hb
    refine sv_ret (ev_lstI (xs := [.int (c - 10 ^ 18), .int 0, .int 1]) (ea_cons (ev_I0 (ev_var rfl) (hp _)) (ea_cons ev_c (ea_cons ev_c ea_nil))) (by show 3 ≤ 1000; decide)) fun v' G' M' e r => ?_
    show ∃ dk, v' = .ref dk ∧ M' = M ++ [(dk, (deckOf c).ho)]
    unfold deckOf
    rw [if_pos hc]
    exact r
  · intro G1 e1 hb
    have hc : ¬ (10 : Int) ^ 18 ≤ c := of_decide_eq_false hb
    refine sv_next fun G2 e2 => sv_ret (ev_lstI (xs := [.int 0, .int 0, .int (c % 2147483629 + 2)]) (ea_cons ev_c (ea_cons ev_c (ea_cons (ev_I0 (ev_I (ev_int (ev_var rfl)) ev_c (by decide)) ev_c) ea_nil))) (by show 3 ≤ 1000; decide)) fun v' G' M' e r => ?_
    show ∃ dk, v' = .ref dk ∧ M' = M ++ [(dk, (deckOf c).ho)]
    unfold deckOf
    rw [if_neg hc]
    exact r
def sp__law_is_integer (K : PySem.W.Frag)  : Sp := spD (α := (PyData)) (fun (d : (PyData)) => [D K d]) (fun (d : (PyData)) => True) (fun (d : (PyData)) => D K (.bool (isInt d)))
theorem ok__law_is_integer (T : Txt P K mg) : FnOk P w K mg base CX0 1 T.a__law_is_integer T.fd__law_is_integer ["found"] (sp__law_is_integer K ) := by
  refine fn_Y T.F__law_is_integer sc__law_is_integer (fun _ => rfl) fun cdv A outer s H E hr => ⟨_, (pss_one (ps_ret (pe_and (pe_callB (k_isi (K := K) rfl) (by rfl) T.n_isinstance (by decide +kernel) (pa_cons (pv 0) (pa_cons (pe_bltn (v := .ty "int") (by rfl) T.n_int (by decide +kernel) rfl) pa_nil))) (pe_one (pe_not (pe_callB (k_isi (K := K) rfl) (by rfl) T.n_isinstance (by decide +kernel) (pa_cons (pv 0) (pa_cons (pe_bltn (v := .ty "bool") (by rfl) T.n_bool (by decide +kernel) rfl) pa_nil)))))))), ?_⟩
  rintro d hp
  replace hp : True := hp
  show S1 E _ [some (D K d)] [] { nx := fun _ μ => BackY (fun x Q μ => Q = (fun (d : (PyData)) => D K (.bool (isInt d))) x ∧ μ = []) d (D K .none) μ, rt := BackY (fun x Q μ => Q = (fun (d : (PyData)) => D K (.bool (isInt d))) x ∧ μ = []) d }
  try simp only [cx_K, cx_KX]
  refine s_ret (by walk_at "ev") (back_D (imp_D ?_))
  show PyData.bool _ = .bool _
  rw [isInt_ty]
theorem e__law_is_integer  {δ : En} {μ μ' : Mp} {E : XK} {d : PyData} {tA : TA} (h : EA tA δ μ [D K d] μ') (hp : True) : E1 (tCall (sp__law_is_integer K ) [] E tA) δ μ (D K (.bool (isInt d))) μ' := e_callD d h hp
local macro_rules | `(tactic| walk_at "call") => `(tactic| ((with_reducible apply e__law_is_integer); (· walk_at "ea"); (· trivial)))
def sp__law_low (K : PySem.W.Frag)  : Sp := spD (α := (List (Int × Deed))) (fun (sl : (List (Int × Deed))) => [D K (.list (sl.map slipD))]) (fun (sl : (List (Int × Deed))) => ∀ s ∈ sl, 0 ≤ s.1) (fun (sl : (List (Int × Deed))) => D K (.int ((lowL 0 sl : Nat) : Int)))
theorem ok__law_low (T : Txt P K mg) : FnOk P w K mg base CX0 1 T.a__law_low T.fd__law_low ["slips"] (sp__law_low K ) := by
  refine fn_Y T.F__law_low sc__law_low (fun _ => rfl) fun cdv A outer s H E hr => ⟨_, (pss_cons (ps_if (pt_cmpR (k_eqD (K := K) rfl hr.units) (pv 0) (pe_lst pa_nil) (nomark _)) (pss_one (ps_ret (pe_int))) (pss_nil)) (pss_one (ps_ret (pe_op op_add (pe_op op_add (pe_ix (k_ixT (K := K) rfl) (pe_ix (k_ixL (K := K) rfl) (pv 0) (pe_un un_neg (pe_int)) (fun _ _ => rfl)) (pe_int) (fun _ _ => rfl)) (pe_int)) (pe_callTy c_int (by rfl) T.n_int (by decide +kernel) (pa_cons (pe_cmpR (k_eqD (K := K) rfl hr.units) (pe_ix (k_ixT (K := K) rfl) (pe_ix (k_ixL (K := K) rfl) (pv 0) (pe_un un_neg (pe_int)) (fun _ _ => rfl)) (pe_int) (fun _ _ => rfl)) (pe_tup (pa_cons (pe_str) pa_nil)) (nomark _)) pa_nil)))))), ?_⟩
  rintro sl hp
  replace hp : ∀ s ∈ sl, 0 ≤ s.1 := hp
  show S1 E _ [some (D K (.list (sl.map slipD)))] [] { nx := fun _ μ => BackY (fun x Q μ => Q = (fun (sl : (List (Int × Deed))) => D K (.int ((lowL 0 sl : Nat) : Int))) x ∧ μ = []) sl (D K .none) μ, rt := BackY (fun x Q μ => Q = (fun (sl : (List (Int × Deed))) => D K (.int ((lowL 0 sl : Nat) : Int))) x ∧ μ = []) sl }
  try simp only [cx_K, cx_KX]
  refine s_ifr (a := (sl.map slipD).isEmpty) (μ1 := []) (t_test (e_eqNil (K := K) (e_var rfl) lr_D (shd_slips _))) (fun h => ?_) (fun h => ?_)
  · cases sl with
    | nil => exact s_ret e_cI (back_D (imp_D rfl))
    | cons x t => cases h
  · obtain ⟨init, s, rfl⟩ : ∃ init s, sl = init ++ [s] := by
      rcases List.eq_nil_or_concat sl with rfl | ⟨init, s, rfl⟩
      · cases h
      · exact ⟨init, s, by simp⟩
    have h0 := hp s (by simp)
    have hx : ∀ {te : TE}, E1 te [some (D K (.list ((init ++ [s]).map slipD)))] [] (D K (.list ((init ++ [s]).map slipD))) [] → E1 (tOp (rIxL K) te (tUn (rU fun i => .int (-i)) (tC (.int 1)))) [some (D K (.list ((init ++ [s]).map slipD)))] [] (D K (slipD s)) [] := fun h => e_ixL (K := K) (i := -1) h (e_neg (K := K) e_cI) lr_D (SX.atI_last (by rw [List.map_append]; simp))
    have hsh : SeqAt.shaped (.tuple [.str "swap"]) = true := (sh_deed (n := 0) .swap).ok
    refine s_ret (Q := D K (.int (s.1 + 1 + (if PyData.eqv (deedD s.2) (deedD .swap) then 1 else 0)))) (μ1 := []) (e_add (e_add (e_ixT (K := K) (i := 0) (ds := [.int s.1, deedD s.2]) (hx (e_var rfl)) e_cI rfl) e_cI) (e_intB (K := K) (e_eqD (K := K) (d := deedD s.2) (e := deedD .swap) (e_ixT (K := K) (i := 1) (ds := [.int s.1, deedD s.2]) (hx (e_var rfl)) e_cI rfl) (e_tup (ds := [.str "swap"]) (d_cons e_cS d_nil) (by show 1 ≤ 1000; decide)) dr_D dr_D (sh_deed (n := 0) s.2).ok hsh rfl))) (back_D (imp_D ?_))
    show _ = PyData.int ((lowL 0 (init ++ [s]) : Nat) : Int)
    rw [lowL_snoc, eqv_deed]
    by_cases hs : s.2 = .swap
    · rw [if_pos hs, decide_eq_true hs, if_pos rfl]
      congr 1
      omega
    · rw [if_neg hs, decide_eq_false hs, if_neg Bool.false_ne_true]
      congr 1
      omega
theorem e__law_low  {δ : En} {μ μ' : Mp} {E : XK} {sl : List (Int × Deed)} {tA : TA} (h : EA tA δ μ [D K (.list (sl.map slipD))] μ') (hp : ∀ s ∈ sl, 0 ≤ s.1) : E1 (tCall (sp__law_low K ) [] E tA) δ μ (D K (.int ((lowL 0 sl : Nat) : Int))) μ' := e_callD sl h hp
local macro_rules | `(tactic| walk_at "call") => `(tactic| ((with_reducible apply e__law_low); (· walk_at "ea"); (· walk_at "sd")))
def sp__law_without_carry (K : PySem.W.Frag)  : Sp := spD (α := (Int) × (Int) × (List (List Int)) × (List Deed) × (Nat) × (List Int × Int × List Int)) (fun (x : (Int) × (Int) × (List (List Int)) × (List Deed) × (Nat) × (List Int × Int × List Int)) => match x with | (b, r, cs, ds, lo, s) => [D K (.int b), D K (.list (cs.map colD)), D K (.list (ds.map deedD)), D K (.int (lo : Int))]) (fun (x : (Int) × (Int) × (List (List Int)) × (List Deed) × (Nat) × (List Int × Int × List Int)) => match x with | (b, r, cs, ds, lo, s) => GoodSh b r cs ∧ lo ≤ cs.length ∧ cs.length ≤ ds.length ∧ (∀ i, i < cs.length → DeedOk b r (dAt ds i)) ∧ addS b cs ds lo = some s) (fun (x : (Int) × (Int) × (List (List Int)) × (List Deed) × (Nat) × (List Int × Int × List Int)) => match x with | (b, r, cs, ds, lo, s) => D K (.list ((woC b cs ds lo cs.length).map .int)))
theorem ok__law_without_carry (T : Txt P K mg) : FnOk P w K mg base CX0 3 T.a__law_without_carry T.fd__law_without_carry ["base", "columns", "deeds", "low"] (sp__law_without_carry K ) := by
  refine fn_Y T.F__law_without_carry sc__law_without_carry (fun _ => rfl) fun cdv A outer s H E hr => ⟨_, (pss_cons (ps_set (i := 4) sc__law_without_carry.nd rfl (Or.inl rfl) (pe_lst pa_nil)) (pss_cons (ps_set (i := 5) sc__law_without_carry.nd rfl (Or.inl rfl) (pe_int)) (pss_cons (ps_for PassesOwn.never rfl (pi_range1 (by rfl) T.n_range (pa_cons (pe_callB (k_len (K := K) rfl) (by rfl) T.n_len (by decide +kernel) (pa_cons (pv 1) pa_nil)) pa_nil)) (pg_name (i := 6) sc__law_without_carry.nd rfl (Or.inl rfl)) (pss_cons (ps_set (i := 7) sc__law_without_carry.nd rfl (Or.inl rfl) (pe_tup (pa_cons (pe_str) pa_nil))) (pss_cons (ps_if (pt_cmpR op_lt (pv 6) (pv 3) (nomark _)) (pss_one (ps_set (i := 7) sc__law_without_carry.nd rfl (Or.inl rfl) (pe_ix (k_ixL (K := K) rfl) (pv 2) (pv 6) (fun _ _ => rfl)))) (pss_nil)) (pss_cons (ps_set (i := 5) sc__law_without_carry.nd rfl (Or.inl rfl) (pe_ix (k_ixT (K := K) rfl) (pe_call (ok__law_step T) (hr.mono (by decide)) (by rfl) T.m__law_step T.F__law_step.kp T.b__law_step .nil pass0 (pa_cons (pv 0) (pa_cons (pv 1) (pa_cons (pv 6) (pa_cons (pv 7) (pa_cons (pv 5) pa_nil)))))) (pe_int) (fun _ _ => rfl))) (pss_one (ps_if (PW.pt (pw_and (pt_cmpR op_ge (pv 6) (pv 3) (nomark _)) (pw_and1 (pt_cmpR op_eq (pv 5) (pe_int) (nomark _))))) (pss_one (ps_expr (pe_bm PySem.F.plainAttrs_list PySem.F.slot_list_append PySem.F.type_list_append mt_append (pv 4) (pa_cons (pv 6) pa_nil)))) (pss_nil))))))) (pss_one (ps_ret (pv 4)))))), ?_⟩
  rintro ⟨b, r, cs, ds, lo, s⟩ hp
  replace hp : GoodSh b r cs ∧ lo ≤ cs.length ∧ cs.length ≤ ds.length ∧ (∀ i, i < cs.length → DeedOk b r (dAt ds i)) ∧ addS b cs ds lo = some s := hp
  show S1 E _ [some (D K (.int b)), some (D K (.list (cs.map colD))), some (D K (.list (ds.map deedD))), some (D K (.int (lo : Int))), none, none, none, none] [] { nx := fun _ μ => BackY (fun x Q μ => Q = (fun (x : (Int) × (Int) × (List (List Int)) × (List Deed) × (Nat) × (List Int × Int × List Int)) => match x with | (b, r, cs, ds, lo, s) => D K (.list ((woC b cs ds lo cs.length).map .int))) x ∧ μ = []) (b, r, cs, ds, lo, s) (D K .none) μ, rt := BackY (fun x Q μ => Q = (fun (x : (Int) × (Int) × (List (List Int)) × (List Deed) × (Nat) × (List Int × Int × List Int)) => match x with | (b, r, cs, ds, lo, s) => D K (.list ((woC b cs ds lo cs.length).map .int))) x ∧ μ = []) (b, r, cs, ds, lo, s) }
  try simp only [cx_K, cx_KX]
  obtain ⟨g, hlo, hdl, hd, hs⟩ := hp
  have hlen := g.len
  have hlm : ((cs.map colD).length : Int) = (cs.length : Int) := by rw [List.length_map]
  refine s_own (K := K) (μ1 := []) (ds := (woC b cs ds lo 0).map .int) (o_lst (K := K) (ds := []) d_nil (by decide)) fun fa => ?_
  simp only [List.set_cons_succ, List.set_cons_zero, List.nil_append]
  refine s_let (Q := D K (.int (lawC b cs ds lo 0))) (μ1 := [(fa, OL K ((woC b cs ds lo 0).map .int))]) e_cI ?_
  simp only [List.set_cons_succ, List.set_cons_zero]
  refine s_seq (N := fun δ μ => μ = [(fa, OL K ((woC b cs ds lo cs.length).map .int))] ∧ Le δ [none, none, none, none, some (Av fa), none, none, none]) ?_ ?_
  · refine s_for (fun i δ μ => μ = [(fa, OL K ((woC b cs ds lo i).map .int))] ∧ Le δ [some (D K (.int b)), some (D K (.list (cs.map colD))), some (D K (.list (ds.map deedD))), some (D K (.int (lo : Int))), some (Av fa), some (D K (.int (lawC b cs ds lo i))), none, none]) (i_rng1 (i := (cs.length : Int)) (μ' := [(fa, OL K ((woC b cs ds lo 0).map .int))]) (by rw [← hlm]; walk_at "ev") (by omega)) ⟨rfl, by walk_at "le"⟩ ?_ ?_
    · rintro i δ' _ hi ⟨rfl, hle⟩
      rw [Int.toNat_natCast] at hi
      refine ⟨_, [6], G1.le g_name hle, ?_⟩
      simp only [List.set_cons_succ, List.set_cons_zero]
      have hwl := woC_len (b := b) (cs := cs) (ds := ds) (lo := lo) (n := i)
      refine s_let (Q := D K (deedD .right)) (μ1 := [(fa, OL K ((woC b cs ds lo i).map .int))]) (e_tup (ds := [.str "right"]) (d_cons e_cS d_nil) (by show 1 ≤ 1000; decide)) ?_
      simp only [List.set_cons_succ, List.set_cons_zero]
      have hi1 : 0 ≤ (i : Int) ∧ (i : Int) < (ds.length : Int) := by omega
      refine s_ifj (a := decide ((i : Int) < (lo : Int))) (μ1 := [(fa, OL K ((woC b cs ds lo i).map .int))]) (N := fun δ μ => μ = [(fa, OL K ((woC b cs ds lo i).map .int))] ∧ Le δ [some (D K (.int b)), some (D K (.list (cs.map colD))), some (D K (.list (ds.map deedD))), some (D K (.int (lo : Int))), some (Av fa), some (D K (.int (lawC b cs ds lo i))), some (D K (.int (i : Int))), some (D K (deedD (lawD ds lo i)))]) (t_test (e_lt (e_var rfl) (e_var rfl))) (fun h => ?_) (fun h => s_next ⟨rfl, ?_⟩) ?_
      · have h : i < lo := by have := of_decide_eq_true h; omega
        have e : lawD ds lo i = ds.getD ((i : Int)).toNat .right := by
          unfold lawD
          rw [if_pos h, Int.toNat_natCast]
          rfl
        rw [e]
        exact s_set (μ1 := [(fa, OL K ((woC b cs ds lo i).map .int))]) (e_ixLD (K := K) (xs := ds) (i := (i : Int)) (e_var rfl) (e_var rfl) lr_D hi1) ⟨rfl, by walk_at "le"⟩
      · have h : ¬ i < lo := by have := of_decide_eq_false h; omega
        have e : lawD ds lo i = .right := by
          unfold lawD
          rw [if_neg h]
        rw [e]
        walk_at "le"
      · clear hle
        rintro δ'' _ ⟨rfl, hle⟩
        refine S1.le ?_ hle
        obtain ⟨w, hw, hw2⟩ := lawC_some hs i
        have hok : DeedOk b r (lawD ds lo i) := by
          unfold lawD
          split
          · exact hd i hi
          · exact .inl rfl
        have hc := lawC_nn g hd hs i (by omega)
        have hi2 : 0 ≤ (i : Int) ∧ (i : Int) < (cs.length : Int) := by omega
        refine s_let (Q := D K (.int (lawC b cs ds lo (i + 1)))) (μ1 := [(fa, OL K ((woC b cs ds lo i).map .int))]) ?_ ?_
        · rw [← hw2]
          have := e__law_step (K := K) (E := E0) (b := b) (r := r) (cs := cs) (i := (i : Int)) (x := lawD ds lo i) (c := lawC b cs ds lo i) (tA := tCons (tVar 0) (tCons (tVar 1) (tCons (tVar 6) (tCons (tVar 7) (tCons (tVar 5) tNil))))) (δ := [some (D K (.int b)), some (D K (.list (cs.map colD))), some (D K (.list (ds.map deedD))), some (D K (.int (lo : Int))), some (Av fa), some (D K (.int (lawC b cs ds lo i))), some (D K (.int (i : Int))), some (D K (deedD (lawD ds lo i)))]) (μ := [(fa, OL K ((woC b cs ds lo i).map .int))]) (by walk_at "ea") ⟨g, hok, hi2, hc⟩
          rw [Int.toNat_natCast, hw] at this
          exact e_ixT (K := K) (i := 1) (ds := [.list (w.1.map .int), .int w.2]) this e_cI rfl
        simp only [List.set_cons_succ, List.set_cons_zero]
        have hsc := woC_succ (b := b) (cs := cs) (ds := ds) (lo := lo) (n := i)
        refine s_if (a := decide ((lo : Int) ≤ (i : Int)) && decide (lawC b cs ds lo (i + 1) = 0)) (μ1 := [(fa, OL K ((woC b cs ds lo i).map .int))]) (t_and (t_test (e_ge (e_var rfl) (e_var rfl))) fun _ => t_test (e_eqI (e_var rfl) e_cI)) (fun h => ?_) (fun h => s_next ⟨?_, by walk_at "le"⟩)
        · have h2 : (decide (lo ≤ i) && decide (lawC b cs ds lo (i + 1) = 0)) = true := by
            simp only [Bool.and_eq_true, decide_eq_true_eq] at h ⊢
            exact ⟨by omega, h.2⟩
          refine s_drop (e_append (K := K) 0 (d := .int (i : Int)) (e_var rfl) (e_var rfl) ⟨0, _, rfl⟩ rfl (by rw [List.length_map]; omega)) ⟨?_, by walk_at "le"⟩
          rw [hsc, if_pos h2, List.map_append]
          rfl
        · have h2 : ¬ (decide (lo ≤ i) && decide (lawC b cs ds lo (i + 1) = 0)) = true := by
            intro z
            simp only [Bool.and_eq_true, decide_eq_true_eq, Bool.and_eq_false_iff, decide_eq_false_iff_not] at h z
            omega
          rw [hsc, if_neg h2, List.append_nil]
    · rintro δ' _ ⟨rfl, hle⟩
      rw [Int.toNat_natCast]
      exact ⟨rfl, hle.trans (by walk_at "le")⟩
  · rintro δ' _ ⟨rfl, hle⟩
    refine S1.le ?_ hle
    refine s_frz (K := K) (ad := fa) (μa := []) (μb := []) 4 rfl ?_
    exact s_ret (e_var rfl) (back_D (imp_D rfl))
theorem e__law_without_carry  {δ : En} {μ μ' : Mp} {E : XK} {b : Int} {r : Int} {cs : List (List Int)} {ds : List Deed} {lo : Nat} {s : List Int × Int × List Int} {tA : TA} (h : EA tA δ μ [D K (.int b), D K (.list (cs.map colD)), D K (.list (ds.map deedD)), D K (.int (lo : Int))] μ') (hp : GoodSh b r cs ∧ lo ≤ cs.length ∧ cs.length ≤ ds.length ∧ (∀ i, i < cs.length → DeedOk b r (dAt ds i)) ∧ addS b cs ds lo = some s) : E1 (tCall (sp__law_without_carry K ) [] E tA) δ μ (D K (.list ((woC b cs ds lo cs.length).map .int))) μ' := e_callD (b, r, cs, ds, lo, s) h hp
local macro_rules | `(tactic| walk_at "call") => `(tactic| ((with_reducible apply e__law_without_carry); (· walk_at "ea"); (· walk_at "sd")))
def sp__law_not_possible (K : PySem.W.Frag) : Sp := sp (npA K) npM npPre (npR K)
theorem ok__law_not_possible (T : Txt P K mg) : FnOk P w K mg base CX0 4 T.a__law_not_possible T.fd__law_not_possible ["deck", "base", "rows", "columns", "deeds", "low"] (sp__law_not_possible K) := by
  refine fn_Y T.F__law_not_possible sc__law_not_possible (fun _ => rfl) fun cdv A outer s H E hr => ⟨_, (pss_cons (ps_set (i := 6) sc__law_not_possible.nd rfl (Or.inl rfl) (pe_lst pa_nil)) (pss_cons (ps_if (PW.pt (pw_and (pt_cmpR op_eq (pv 5) (pe_int) (nomark _)) (pw_and1 (pt_cmpR (k_neD (K := K) rfl hr.units) (pv 3) (pe_lst pa_nil) (nomark _))))) (pss_one (ps_expr (pe_bm PySem.F.plainAttrs_list PySem.F.slot_list_append PySem.F.type_list_append mt_append (pv 6) (pa_cons (pe_tup (pa_cons (pe_int) (pa_cons (pe_tup (pa_cons (pe_str) (pa_cons (pe_call (ok__law_draw T) (hr.mono (by decide)) (by rfl) T.m__law_draw T.F__law_draw.kp T.b__law_draw .nil pass0 (pa_cons (pv 0) (pa_cons (pv 2) pa_nil))) pa_nil))) pa_nil))) pa_nil)))) (pss_nil)) (pss_cons (ps_if (pt_cmpR op_lt (pv 5) (pe_callB (k_len (K := K) rfl) (by rfl) T.n_len (by decide +kernel) (pa_cons (pv 3) pa_nil)) (nomark _)) (pss_one (ps_expr (pe_bm PySem.F.plainAttrs_list PySem.F.slot_list_append PySem.F.type_list_append mt_append (pv 6) (pa_cons (pe_tup (pa_cons (pe_op op_sub (pe_callB (k_len (K := K) rfl) (by rfl) T.n_len (by decide +kernel) (pa_cons (pv 3) pa_nil)) (pe_int)) (pa_cons (pe_tup (pa_cons (pe_str) pa_nil)) pa_nil))) pa_nil)))) (pss_nil)) (pss_cons (ps_set (i := 6) sc__law_not_possible.nd rfl (Or.inl rfl) (pe_op (k_cat (K := K) rfl) (pv 6) (pe_lc (own := [("i", 7)]) (g := gName 7) (tt := tYes) rfl sc__law_not_possible.nd (pi_list (pe_call (ok__law_without_carry T) (hr.mono (by decide)) (by rfl) T.m__law_without_carry T.F__law_without_carry.kp T.b__law_without_carry .nil pass0 (pa_cons (pv 1) (pa_cons (pv 3) (pa_cons (pv 4) (pa_cons (pv 5) pa_nil)))))) (blkOk_by (N := ["deck", "base", "rows", "columns", "deeds", "low", "some", "i"]) (sc := defScope s__law_not_possible) (by decide +kernel)) (fun _ _ _ _ _ => pg_name (i := 7) sc__law_not_possible.nd rfl (Or.inl rfl)) (fun _ _ _ _ _ => pts_nil) (fun _ _ _ _ _ => pe_tup (pa_cons (pv 7) (pa_cons (pe_tup (pa_cons (pe_str) pa_nil)) pa_nil)))))) (pss_cons (ps_if (pt_cmpR (k_eqD (K := K) rfl hr.units) (pv 6) (pe_lst pa_nil) (nomark _)) (pss_one (ps_ret (pe_tup (pa_cons (pe_callB (k_len (K := K) rfl) (by rfl) T.n_len (by decide +kernel) (pa_cons (pv 3) pa_nil)) (pa_cons (pe_tup (pa_cons (pe_str) pa_nil)) pa_nil))))) (pss_nil)) (pss_one (ps_ret (pe_ix (k_ixL (K := K) rfl) (pv 6) (pe_call (ok__law_draw T) (hr.mono (by decide)) (by rfl) T.m__law_draw T.F__law_draw.kp T.b__law_draw .nil pass0 (pa_cons (pv 0) (pa_cons (pe_callB (k_len (K := K) rfl) (by rfl) T.n_len (by decide +kernel) (pa_cons (pv 6) pa_nil)) pa_nil))) (fun _ _ => rfl))))))))), ?_⟩
  rintro ⟨dk, D0, b, r, cs, ds, lo, F2, c⟩ hp
  replace hp : GoodSh b r cs ∧ lo ≤ cs.length ∧ cs.length ≤ ds.length ∧ (∀ i, i < cs.length → DeedOk b r (dAt ds i)) ∧ addS b cs ds lo = some (F2, c, []) ∧ ds.length ≤ 1000 := hp
  obtain ⟨g, hlo, hdl, hd, hs, hdm⟩ := hp
  show S1 E _ [some (Av dk), some (D K (.int b)), some (D K (.int r)), some (D K (.list (cs.map colD))), some (D K (.list (ds.map deedD))), some (D K (.int (lo : Int))), none, none] [(dk, DKo D0)] { nx := fun _ μ => BackY (npR K) (dk, D0, b, r, cs, ds, lo, F2, c) (D K .none) μ, rt := BackY (npR K) (dk, D0, b, r, cs, ds, lo, F2, c) }
  try simp only [cx_K, cx_KX]
  have hlen := g.len
  have hlm : ((cs.map colD).length : Int) = (cs.length : Int) := by rw [List.length_map]
  walk_at "Own"
  rename_i sa
  simp only [List.set_cons_succ, List.set_cons_zero]
  have hE : ((([] : List (Int × Deed)).map slipD)) = [] := rfl
  rw [← hE]
  refine s_ifj (a := decide ((lo : Int) = 0) && !(cs.map colD).isEmpty) (μ1 := [(dk, DKo D0), (sa, OL K (([] : List (Int × Deed)).map slipD))]) (N := fun δ μ => ∃ (xs : List (Int × Deed)) (D1 : Deck), (∀ s ∈ xs, NotP b r cs lo c (.d (slipD s))) ∧ xs.length ≤ 1 ∧ μ = [(dk, DKo D1), (sa, OL K (xs.map slipD))] ∧ Le δ [some (Av dk), some (D K (.int b)), some (D K (.int r)), some (D K (.list (cs.map colD))), some (D K (.list (ds.map deedD))), some (D K (.int (lo : Int))), some (Av sa), none]) (t_and (t_test (e_eqI (e_var rfl) e_cI)) fun _ => t_test (e_neNil (K := K) (e_var rfl) lr_D (sh_cols (n := 0) cs).ok)) (fun h => ?_) (fun _ => s_next ⟨[], D0, (fun _ h => by cases h), Nat.zero_le _, rfl, by walk_at "le"⟩) ?_
  · simp only [Bool.and_eq_true, decide_eq_true_eq, Bool.not_eq_true'] at h
    obtain ⟨h1, h2⟩ := h
    have h3 : lo = 0 := by omega
    have h4 : 0 < cs.length := by
      cases cs with
      | nil => cases h2
      | cons x t => exact Nat.succ_pos _
    have hr0 : 0 < r ∧ r < 2 ^ 200 := by have := g.r1; have := g.r4; omega
    have t0 : 0 ≤ dv D0 r := dv_lo hr0.1
    have t1 : dv D0 r < r := dv_hi hr0.1
    refine s_drop (e_append (K := K) 1 (d := slipD (0, .copy (dv D0 r))) (μ1 := [(dk, DKo (dn D0 r)), (sa, OL K (([] : List (Int × Deed)).map slipD))]) (e_var rfl) ?_ ⟨1, _, rfl⟩ rfl (by show 0 ≤ 100000; decide)) ⟨[(0, .copy (dv D0 r))], dn D0 r, (fun s hs => ?_), Nat.le_refl _, rfl, by walk_at "le"⟩
    · exact e_tup (ds := [.int 0, deedD (.copy (dv D0 r))]) (d_cons e_cI (d_cons (e_tup (ds := [.str "copy", .int (dv D0 r)]) (d_cons e_cS (d_cons (by exact e_draw (Dk := D0) (rest := [(sa, OL K (([] : List (Int × Deed)).map slipD))]) (a_cons (e_var rfl) (a_cons (e_var rfl) a_nil)) hr0) d_nil)) (by show 2 ≤ 1000; decide)) d_nil)) (by show 2 ≤ 1000; decide)
    · obtain rfl := List.mem_singleton.mp hs
      subst h3
      exact notP_copy h4 ⟨t0, t1⟩
  rintro δ' _ ⟨xs, D1, hN, hx1, rfl, hle⟩
  refine S1.le ?_ hle
  clear hle hE
  refine s_ifj (a := decide ((lo : Int) < ((cs.map colD).length : Int))) (μ1 := [(dk, DKo D1), (sa, OL K (xs.map slipD))]) (N := fun δ μ => ∃ (xs : List (Int × Deed)), (∀ s ∈ xs, NotP b r cs lo c (.d (slipD s))) ∧ xs.length ≤ 2 ∧ μ = [(dk, DKo D1), (sa, OL K (xs.map slipD))] ∧ Le δ [some (Av dk), some (D K (.int b)), some (D K (.int r)), some (D K (.list (cs.map colD))), some (D K (.list (ds.map deedD))), some (D K (.int (lo : Int))), some (Av sa), none]) (t_test (e_lt (e_var rfl) (e_len (e_var rfl) lr_D))) (fun h => ?_) (fun _ => s_next ⟨xs, hN, by omega, rfl, by walk_at "le"⟩) ?_
  · rw [hlm] at h
    have h : lo < cs.length := by have := of_decide_eq_true h; omega
    refine s_drop (e_append (K := K) 1 (d := slipD ((cs.length : Int) - 1, .swap)) (μ1 := [(dk, DKo D1), (sa, OL K (xs.map slipD))]) (e_var rfl) ?_ ⟨1, _, rfl⟩ rfl (by rw [List.length_map]; omega)) ⟨xs ++ [((cs.length : Int) - 1, .swap)], (fun s hs => ?_), (by rw [List.length_append]; show xs.length + 1 ≤ 2; omega), (by rw [List.map_append]; rfl), by walk_at "le"⟩
    · refine e_tup (ds := [.int ((cs.length : Int) - 1), deedD .swap]) (d_cons (μ1 := [(dk, DKo D1), (sa, OL K (xs.map slipD))]) ?_ (d_cons (e_tup (ds := [.str "swap"]) (d_cons e_cS d_nil) (by show 1 ≤ 1000; decide)) d_nil)) (by show 2 ≤ 1000; decide)
      rw [← hlm]
      exact e_sub (e_len (e_var rfl) lr_D) e_cI
    · rcases List.mem_append.mp hs with hs | hs
      · exact hN s hs
      · obtain rfl := List.mem_singleton.mp hs
        exact notP_swap h
  clear hN hx1
  rintro δ' _ ⟨xs, hN, hx1, rfl, hle⟩
  refine S1.le ?_ hle
  clear hle
  have hwl := woC_len (b := b) (cs := cs) (ds := ds) (lo := lo) (n := cs.length)
  have hN2 : ∀ s ∈ xs ++ (woC b cs ds lo cs.length).map (fun i => (i, Deed.forget)), NotP b r cs lo c (.d (slipD s)) := fun s hm => by
    rcases List.mem_append.mp hm with hm | hm
    · exact hN s hm
    · obtain ⟨i, hi, rfl⟩ := List.mem_map.mp hm
      obtain ⟨j, rfl, h1, h2, h3⟩ := woC_mem hi
      exact notP_forget hs h1 h2 h3
  have hpre : GoodSh b r cs ∧ lo ≤ cs.length ∧ cs.length ≤ ds.length ∧ (∀ i, i < cs.length → DeedOk b r (dAt ds i)) ∧ addS b cs ds lo = some (F2, c, []) := ⟨g, hlo, hdl, hd, hs⟩
  refine s_let (Q := D K (.list ((xs ++ (woC b cs ds lo cs.length).map (fun i => (i, Deed.forget))).map slipD))) (μ1 := [(dk, DKo D1), (sa, OL K (xs.map slipD))]) ?_ ?_
  · rw [List.map_append, List.map_map]
    refine EO.frz (o_cat (K := K) (ds := xs.map slipD) (μ1 := [(dk, DKo D1), (sa, OL K (xs.map slipD))]) (e_var rfl) (EO.frz (o_mapL (K := K) (enc := .int) (xs := woC b cs ds lo cs.length) (out := slipD ∘ fun i => (i, Deed.forget)) ?_ (by omega) fun x hx => ?_)) (lr_O 1 rfl) lr_D (by simp only [List.length_map]; omega))
    · exact e__law_without_carry (by walk_at "ea") hpre
    · exact e_tup (ds := [.int x, deedD .forget]) (d_cons (by walk_at "ev") (d_cons (e_tup (ds := [.str "forget"]) (d_cons e_cS d_nil) (by show 1 ≤ 1000; decide)) d_nil)) (by show 2 ≤ 1000; decide)
  have hfl : (xs ++ (woC b cs ds lo cs.length).map (fun i => (i, Deed.forget))).length ≤ 2000 := by simp only [List.length_append, List.length_map]; omega
  simp only [List.set_cons_succ, List.set_cons_zero]
  generalize xs ++ (woC b cs ds lo cs.length).map (fun i => (i, Deed.forget)) = fs at hN2 hfl ⊢
  clear hN hx1 hwl hpre
  refine s_ifr (a := (fs.map slipD).isEmpty) (μ1 := [(dk, DKo D1), (sa, OL K (xs.map slipD))]) (t_test (e_eqNil (K := K) (e_var rfl) lr_D (shd_slips _))) (fun h => ?_) (fun h => ?_)
  · refine s_ret (Q := D K (slipD ((cs.length : Int), .forget))) (μ1 := [(dk, DKo D1), (sa, OL K (xs.map slipD))]) ?_ ?_
    · rw [← hlm]
      exact e_tup (ds := [.int ((cs.map colD).length : Int), deedD .forget]) (d_cons (e_len (e_var rfl) lr_D) (d_cons (e_tup (ds := [.str "forget"]) (d_cons e_cS d_nil) (by show 1 ≤ 1000; decide)) d_nil)) (by show 2 ≤ 1000; decide)
    · exact backY_mk ⟨_, D1, rfl, notP_bad (bad_slip (.inr (Int.le_refl _))), rfl⟩ (Imp.refl _) (List.Sublist.cons₂ _ (List.nil_sublist _))
  · have hn : 0 < (fs.length : Int) ∧ (fs.length : Int) < 2 ^ 200 := by
      have : 0 < fs.length := by
        cases fs with
        | nil => cases h
        | cons x t => exact Nat.succ_pos _
      omega
    have i0 : 0 ≤ dv D1 (fs.length : Int) := dv_lo hn.1
    have i1 : dv D1 (fs.length : Int) < (fs.length : Int) := dv_hi hn.1
    have hx : fs[(dv D1 (fs.length : Int)).toNat]? = some (fs[(dv D1 (fs.length : Int)).toNat]'(by omega)) := List.getElem?_eq_getElem (by omega)
    have hb2 := hN2 _ (List.getElem_mem (show (dv D1 (fs.length : Int)).toNat < fs.length by omega))
    have hfm : ((fs.map slipD).length : Int) = (fs.length : Int) := by rw [List.length_map]
    refine s_ret (Q := D K (slipD (fs[(dv D1 (fs.length : Int)).toNat]'(by omega)))) (μ1 := [(dk, DKo (dn D1 (fs.length : Int))), (sa, OL K (xs.map slipD))]) (e_ixL (K := K) (i := dv D1 (fs.length : Int)) (ds := fs.map slipD) (e_var rfl) (by exact e_draw (Dk := D1) (rest := [(sa, OL K (xs.map slipD))]) (a_cons (e_var rfl) (a_cons (by rw [← hfm]; exact e_len (e_var rfl) lr_D) a_nil)) hn) lr_D (atI_int i0 (by rw [List.getElem?_map, hx]; rfl))) ?_
    exact backY_mk ⟨_, dn D1 (fs.length : Int), rfl, hb2, rfl⟩ (Imp.refl _) (List.Sublist.cons₂ _ (List.nil_sublist _))
theorem y__law_not_possible {δ : En} {μ : Mp} {E : XK} {dk : Addr} {D0 : Deck} {b r : Int} {cs : List (List Int)} {ds : List Deed} {lo : Nat} {F2 : List Int} {c : Int} {rest : Mp} {tA : TA} (h : EA tA δ μ [Av dk, D K (.int b), D K (.int r), D K (.list (cs.map colD)), D K (.list (ds.map deedD)), D K (.int (lo : Int))] ((dk, DKo D0) :: rest))
    (hp : GoodSh b r cs ∧ lo ≤ cs.length ∧ cs.length ≤ ds.length ∧ (∀ i, i < cs.length → DeedOk b r (dAt ds i)) ∧ addS b cs ds lo = some (F2, c, []) ∧ ds.length ≤ 1000) :
    EY (tCall (sp__law_not_possible K) [] E tA) δ μ (fun Q μ' => ∃ d D1, Q = D K d ∧ NotP b r cs lo c (.d d) ∧ μ' = (dk, DKo D1) :: rest) :=
  (y_call (A := npA K) (m := npM) (pre := npPre) (R := npR K) (rest := rest) (dk, D0, b, r, cs, ds, lo, F2, c) h hp).imp fun Q μ' z => by
    obtain ⟨_, ⟨d, D1, h1, h2, rfl⟩, rfl⟩ := z
    exact ⟨d, D1, h1, h2, rfl⟩
def sp__law_deed (K : PySem.W.Frag)  : Sp := spK (α := (Deck) × (Int) × (Int)) (fun (x : (Deck) × (Int) × (Int)) => match x with | (Dk, b, r) => [D K (.int b), D K (.int r)]) (fun (x : (Deck) × (Int) × (Int)) => match x with | (Dk, b, r) => (2 ≤ b ∧ b ≤ 12) ∧ (1 ≤ r ∧ r ≤ 4)) (fun (x : (Deck) × (Int) × (Int)) => match x with | (Dk, b, r) => Dk) (fun (x : (Deck) × (Int) × (Int)) => match x with | (Dk, b, r) => D K (deedD (deedV Dk b r))) (fun (x : (Deck) × (Int) × (Int)) => match x with | (Dk, b, r) => deedDk Dk b r)
theorem ok__law_deed (T : Txt P K mg) : FnOk P w K mg base CX0 2 T.a__law_deed T.fd__law_deed ["deck", "base", "rows"] (sp__law_deed K ) := by
  refine fn_Y T.F__law_deed sc__law_deed (fun _ => rfl) fun cdv A outer s H E hr => ⟨_, (pss_cons (ps_set (i := 3) sc__law_deed.nd rfl (Or.inl rfl) (pe_call (ok__law_draw T) (hr.mono (by decide)) (by rfl) T.m__law_draw T.F__law_draw.kp T.b__law_draw .nil pass0 (pa_cons (pv 0) (pa_cons (pe_int) pa_nil)))) (pss_cons (ps_set (i := 4) sc__law_deed.nd rfl (Or.inl rfl) (pe_op op_add (pe_int) (pe_call (ok__law_draw T) (hr.mono (by decide)) (by rfl) T.m__law_draw T.F__law_draw.kp T.b__law_draw .nil pass0 (pa_cons (pv 0) (pa_cons (pe_op op_sub (pv 1) (pe_int)) pa_nil))))) (pss_cons (ps_set (i := 5) sc__law_deed.nd rfl (Or.inl rfl) (pe_call (ok__law_draw T) (hr.mono (by decide)) (by rfl) T.m__law_draw T.F__law_draw.kp T.b__law_draw .nil pass0 (pa_cons (pv 0) (pa_cons (pv 2) pa_nil)))) (pss_cons (ps_if (pt_cmpR op_eq (pv 3) (pe_int) (nomark _)) (pss_one (ps_ret (pe_tup (pa_cons (pe_str) (pa_cons (pv 4) pa_nil))))) (pss_nil)) (pss_cons (ps_if (pt_cmpR op_eq (pv 3) (pe_int) (nomark _)) (pss_one (ps_ret (pe_tup (pa_cons (pe_str) (pa_cons (pv 5) (pa_cons (pv 4) pa_nil)))))) (pss_nil)) (pss_cons (ps_if (pt_cmpR op_eq (pv 3) (pe_int) (nomark _)) (pss_one (ps_ret (pe_tup (pa_cons (pe_str) (pa_cons (pv 5) pa_nil))))) (pss_nil)) (pss_one (ps_ret (pe_tup (pa_cons (pe_ix (k_ixL (K := K) rfl) (pe_lst (pa_cons (pe_str) (pa_cons (pe_str) (pa_cons (pe_str) (pa_cons (pe_str) (pa_cons (pe_str) pa_nil)))))) (pe_op op_sub (pv 3) (pe_int)) (fun _ _ => rfl)) pa_nil)))))))))), ?_⟩
  rintro ⟨ad, Dk, b, r⟩ hp
  replace hp : (2 ≤ b ∧ b ≤ 12) ∧ (1 ≤ r ∧ r ≤ 4) := hp
  show S1 E _ [some (Av ad), some (D K (.int b)), some (D K (.int r)), none, none, none] [(ad, DKo Dk)] { nx := fun _ μ => BackY (fun (x : Addr × (Deck) × (Int) × (Int)) Q μ => Q = (fun (x : (Deck) × (Int) × (Int)) => match x with | (Dk, b, r) => D K (deedD (deedV Dk b r))) x.2 ∧ μ = [(x.1, DKo ((fun (x : (Deck) × (Int) × (Int)) => match x with | (Dk, b, r) => deedDk Dk b r) x.2))]) (ad, (Dk, b, r)) (D K .none) μ, rt := BackY (fun (x : Addr × (Deck) × (Int) × (Int)) Q μ => Q = (fun (x : (Deck) × (Int) × (Int)) => match x with | (Dk, b, r) => D K (deedD (deedV Dk b r))) x.2 ∧ μ = [(x.1, DKo ((fun (x : (Deck) × (Int) × (Int)) => match x with | (Dk, b, r) => deedDk Dk b r) x.2))]) (ad, (Dk, b, r)) }
  try simp only [cx_K, cx_KX]
  obtain ⟨hb, hr⟩ := hp
  walk_at "Let"
  walk_at "Let"
  walk_at "Let"
  have hw0 : 0 ≤ dv Dk 8 := dv_lo (by decide)
  have hw8 : dv Dk 8 < 8 := dv_hi (by decide)
  have hq : deedV Dk b r = deedAt (dv Dk 8) (1 + dv (dn Dk 8) (b - 1)) (dv (dn (dn Dk 8) (b - 1)) r) := rfl
  generalize 1 + dv (dn Dk 8) (b - 1) = d at hq ⊢
  generalize dv (dn (dn Dk 8) (b - 1)) r = j at hq ⊢
  generalize dv Dk 8 = w at hw0 hw8 hq ⊢
  have hc : w = 0 ∨ w = 1 ∨ w = 2 ∨ w = 3 ∨ w = 4 ∨ w = 5 ∨ w = 6 ∨ w = 7 := by omega
  rcases hc with rfl | rfl | rfl | rfl | rfl | rfl | rfl | rfl
  · walk_at "Tt"
    walk_at "RetR"
    show _ = deedD (deedV Dk b r)
    rw [hq]
    rfl
  · walk_at "Ff"
    walk_at "Tt"
    walk_at "RetR"
    show _ = deedD (deedV Dk b r)
    rw [hq]
    rfl
  · walk_at "Ff"
    walk_at "Ff"
    walk_at "Tt"
    walk_at "RetR"
    show _ = deedD (deedV Dk b r)
    rw [hq]
    rfl
  all_goals
    walk_at "Ff"
    walk_at "Ff"
    walk_at "Ff"
    walk_at "RetR"
    show _ = deedD (deedV Dk b r)
    rw [hq]
    rfl
theorem e__law_deed  {tA : TA} {δ : En} {μ rest : Mp} {E : XK} {ad : Addr} {Dk : Deck} {b : Int} {r : Int} (h : EA tA δ μ [Av ad, D K (.int b), D K (.int r)] ((ad, DKo Dk) :: rest)) (hp : (2 ≤ b ∧ b ≤ 12) ∧ (1 ≤ r ∧ r ≤ 4)) : E1 (tCall (sp__law_deed K ) [] E tA) δ μ (D K (deedD (deedV Dk b r))) ((ad, DKo (deedDk Dk b r)) :: rest) := e_callK (α := (Deck) × (Int) × (Int)) (A := (fun (x : (Deck) × (Int) × (Int)) => match x with | (Dk, b, r) => [D K (.int b), D K (.int r)])) (pre := (fun (x : (Deck) × (Int) × (Int)) => match x with | (Dk, b, r) => (2 ≤ b ∧ b ≤ 12) ∧ (1 ≤ r ∧ r ≤ 4))) (D0 := (fun (x : (Deck) × (Int) × (Int)) => match x with | (Dk, b, r) => Dk)) (B := (fun (x : (Deck) × (Int) × (Int)) => match x with | (Dk, b, r) => D K (deedD (deedV Dk b r)))) (D1 := (fun (x : (Deck) × (Int) × (Int)) => match x with | (Dk, b, r) => deedDk Dk b r)) (Dk, b, r) h hp
local macro_rules | `(tactic| walk_at "call") => `(tactic| ((with_reducible apply e__law_deed); (· walk_at "ea"); (· walk_at "sd")))
def sp__law_plan (K : PySem.W.Frag)  : Sp := spK (α := (Deck) × (Int) × (Int) × (Int) × (List (List Int))) (fun (x : (Deck) × (Int) × (Int) × (Int) × (List (List Int))) => match x with | (Dk, b, r, n, cs) => [D K (.int b), D K (.int r), D K (.list (cs.map colD)), D K (.int n)]) (fun (x : (Deck) × (Int) × (Int) × (Int) × (List (List Int))) => match x with | (Dk, b, r, n, cs) => GoodSh b r cs ∧ (0 < n ∧ n < 2 ^ 200)) (fun (x : (Deck) × (Int) × (Int) × (Int) × (List (List Int))) => match x with | (Dk, b, r, n, cs) => Dk) (fun (x : (Deck) × (Int) × (Int) × (Int) × (List (List Int))) => match x with | (Dk, b, r, n, cs) => D K (.list ((planS b r n cs Dk cs.length).1.map deedD))) (fun (x : (Deck) × (Int) × (Int) × (Int) × (List (List Int))) => match x with | (Dk, b, r, n, cs) => (planS b r n cs Dk cs.length).2.2)
theorem ok__law_plan (T : Txt P K mg) : FnOk P w K mg base CX0 3 T.a__law_plan T.fd__law_plan ["deck", "base", "rows", "columns", "often"] (sp__law_plan K ) := by
  refine fn_Y T.F__law_plan sc__law_plan (fun _ => rfl) fun cdv A outer s H E hr => ⟨_, (pss_cons (ps_set (i := 5) sc__law_plan.nd rfl (Or.inl rfl) (pe_lst pa_nil)) (pss_cons (ps_set (i := 6) sc__law_plan.nd rfl (Or.inl rfl) (pe_int)) (pss_cons (ps_for PassesOwn.never rfl (pi_range1 (by rfl) T.n_range (pa_cons (pe_callB (k_len (K := K) rfl) (by rfl) T.n_len (by decide +kernel) (pa_cons (pv 3) pa_nil)) pa_nil)) (pg_name (i := 7) sc__law_plan.nd rfl (Or.inl rfl)) (pss_cons (ps_set (i := 8) sc__law_plan.nd rfl (Or.inl rfl) (pe_tup (pa_cons (pe_str) pa_nil))) (pss_cons (ps_if (PW.pt (pw_and (pt_cmpR op_eq (pe_call (ok__law_draw T) (hr.mono (by decide)) (by rfl) T.m__law_draw T.F__law_draw.kp T.b__law_draw .nil pass0 (pa_cons (pv 0) (pa_cons (pv 4) pa_nil))) (pe_int) (nomark _)) (pw_and1 (PW.pt (pw_or (pt_cmpR op_eq (pv 7) (pe_int) (nomark _)) (pw_or1 (pt_cmpR op_ne (pe_ix (k_ixT (K := K) rfl) (pe_ix (k_ixL (K := K) rfl) (pv 5) (pe_op op_sub (pv 7) (pe_int)) (fun _ _ => rfl)) (pe_int) (fun _ _ => rfl)) (pe_str) (nomark _)))))))) (pss_one (ps_set (i := 8) sc__law_plan.nd rfl (Or.inl rfl) (pe_call (ok__law_deed T) (hr.mono (by decide)) (by rfl) T.m__law_deed T.F__law_deed.kp T.b__law_deed .nil pass0 (pa_cons (pv 0) (pa_cons (pv 1) (pa_cons (pv 2) pa_nil)))))) (pss_nil)) (pss_cons (ps_set (i := 9) sc__law_plan.nd rfl (Or.inl rfl) (pe_call (ok__law_step T) (hr.mono (by decide)) (by rfl) T.m__law_step T.F__law_step.kp T.b__law_step .nil pass0 (pa_cons (pv 1) (pa_cons (pv 3) (pa_cons (pv 7) (pa_cons (pv 8) (pa_cons (pv 6) pa_nil))))))) (pss_cons (ps_if (pt_cmp (pc_isN (pv 9)) rfl) (pss_cons (ps_set (i := 8) sc__law_plan.nd rfl (Or.inl rfl) (pe_tup (pa_cons (pe_str) pa_nil))) (pss_one (ps_set (i := 9) sc__law_plan.nd rfl (Or.inl rfl) (pe_call (ok__law_step T) (hr.mono (by decide)) (by rfl) T.m__law_step T.F__law_step.kp T.b__law_step .nil pass0 (pa_cons (pv 1) (pa_cons (pv 3) (pa_cons (pv 7) (pa_cons (pv 8) (pa_cons (pv 6) pa_nil))))))))) (pss_nil)) (pss_cons (ps_expr (pe_bm PySem.F.plainAttrs_list PySem.F.slot_list_append PySem.F.type_list_append mt_append (pv 5) (pa_cons (pv 8) pa_nil))) (pss_one (ps_set (i := 6) sc__law_plan.nd rfl (Or.inl rfl) (pe_ix (k_ixT (K := K) rfl) (pv 9) (pe_int) (fun _ _ => rfl)))))))))) (pss_one (ps_ret (pv 5)))))), ?_⟩
  rintro ⟨ad, Dk, b, r, n, cs⟩ hp
  replace hp : GoodSh b r cs ∧ (0 < n ∧ n < 2 ^ 200) := hp
  show S1 E _ [some (Av ad), some (D K (.int b)), some (D K (.int r)), some (D K (.list (cs.map colD))), some (D K (.int n)), none, none, none, none, none] [(ad, DKo Dk)] { nx := fun _ μ => BackY (fun (x : Addr × (Deck) × (Int) × (Int) × (Int) × (List (List Int))) Q μ => Q = (fun (x : (Deck) × (Int) × (Int) × (Int) × (List (List Int))) => match x with | (Dk, b, r, n, cs) => D K (.list ((planS b r n cs Dk cs.length).1.map deedD))) x.2 ∧ μ = [(x.1, DKo ((fun (x : (Deck) × (Int) × (Int) × (Int) × (List (List Int))) => match x with | (Dk, b, r, n, cs) => (planS b r n cs Dk cs.length).2.2) x.2))]) (ad, (Dk, b, r, n, cs)) (D K .none) μ, rt := BackY (fun (x : Addr × (Deck) × (Int) × (Int) × (Int) × (List (List Int))) Q μ => Q = (fun (x : (Deck) × (Int) × (Int) × (Int) × (List (List Int))) => match x with | (Dk, b, r, n, cs) => D K (.list ((planS b r n cs Dk cs.length).1.map deedD))) x.2 ∧ μ = [(x.1, DKo ((fun (x : (Deck) × (Int) × (Int) × (Int) × (List (List Int))) => match x with | (Dk, b, r, n, cs) => (planS b r n cs Dk cs.length).2.2) x.2))]) (ad, (Dk, b, r, n, cs)) }
  try simp only [cx_K, cx_KX]
  obtain ⟨g, hn⟩ := hp
  have hb : 2 ≤ b ∧ b ≤ 12 := ⟨g.b2, g.b12⟩
  have hr4 : 1 ≤ r ∧ r ≤ 4 := ⟨g.r1, g.r4⟩
  have hlen := g.len
  walk_at "Own"
  rename_i da
  walk_at "Let"
  refine s_seq (N := fun δ μ => Le δ [some (Av ad), some (D K (.int b)), some (D K (.int r)), some (D K (.list (cs.map colD))), some (D K (.int n)), some (Av da), none, none, none, none] ∧ μ = [(ad, DKo (planS b r n cs Dk cs.length).2.2), (da, OL K ((planS b r n cs Dk cs.length).1.map deedD))]) ?_ ?_
  · refine s_for (fun i δ μ => Le δ [some (Av ad), some (D K (.int b)), some (D K (.int r)), some (D K (.list (cs.map colD))), some (D K (.int n)), some (Av da), some (D K (.int (planS b r n cs Dk i).2.1)), none, none, none] ∧ μ = [(ad, DKo (planS b r n cs Dk i).2.2), (da, OL K ((planS b r n cs Dk i).1.map deedD))]) (i_rng1 (i := ((cs.map colD).length : Int)) (μ' := [(ad, DKo Dk), (da, OL K [])]) (by walk_at "ev") (by rw [List.length_map]; omega)) ?_ ?_ ?_
    · exact ⟨by walk_at "le", rfl⟩
    · rintro i δ' _ hi ⟨hle, rfl⟩
      rw [Int.toNat_natCast, List.length_map] at hi
      obtain ⟨hl, hc, hds⟩ := planS_ok (n := n) (D := Dk) g i (by omega)
      have hstep : planS b r n cs Dk (i + 1) = ((planS b r n cs Dk i).1 ++ [planY b cs i (planX b r n (planS b r n cs Dk i).2.2 i (planS b r n cs Dk i).1) (planS b r n cs Dk i).2.1], ((lawStep b cs i (planY b cs i (planX b r n (planS b r n cs Dk i).2.2 i (planS b r n cs Dk i).1) (planS b r n cs Dk i).2.1) (planS b r n cs Dk i).2.1).getD ([], 0)).2, planD b r n (planS b r n cs Dk i).2.2 i (planS b r n cs Dk i).1) := rfl
      rw [hstep]
      clear hstep
      generalize (planS b r n cs Dk i).1 = ds at hl hds hle ⊢
      generalize (planS b r n cs Dk i).2.1 = c at hc hle ⊢
      generalize (planS b r n cs Dk i).2.2 = D1 at hle ⊢
      refine ⟨_, [7], G1.le g_name hle, ?_⟩
      have hi0 : (0 : Int) ≤ (i : Int) ∧ (i : Int) < (cs.length : Int) := by omega
      have hx := planX_ok (n := n) (D := D1) (i := i) (ds := ds) hb.1 hr4.1
      refine s_let (Q := D K (deedD .right)) (μ1 := [(ad, DKo D1), (da, OL K (ds.map deedD))]) (e_tup (d_cons e_cS d_nil) (by decide)) ?_
      have hXq : planX b r n D1 i ds = if planQ n D1 i ds = true then deedV (dn D1 n) b r else .right := rfl
      have hDq : planD b r n D1 i ds = if planQ n D1 i ds = true then deedDk (dn D1 n) b r else dn D1 n := rfl
      generalize planX b r n D1 i ds = X at hx hXq ⊢
      generalize planD b r n D1 i ds = D2 at hDq ⊢
      have hpre : GoodSh b r cs ∧ DeedOk b r X ∧ (0 ≤ (i : Int) ∧ (i : Int) < cs.length) ∧ 0 ≤ c := ⟨g, hx, hi0, hc⟩
      have hpre2 : GoodSh b r cs ∧ DeedOk b r .right ∧ (0 ≤ (i : Int) ∧ (i : Int) < cs.length) ∧ 0 ≤ c := ⟨g, .inl rfl, hi0, hc⟩
      refine s_ifj (fun δ μ => Le δ [some (Av ad), some (D K (.int b)), some (D K (.int r)), some (D K (.list (cs.map colD))), some (D K (.int n)), some (Av da), some (D K (.int c)), some (D K (.int (i : Int))), some (D K (deedD X)), none] ∧ μ = [(ad, DKo D2), (da, OL K (ds.map deedD))]) (a := planQ n D1 i ds) (μ1 := [(ad, DKo (dn D1 n)), (da, OL K (ds.map deedD))]) ?_ (fun h => ?_) (fun h => ?_) ?_
      · show T1 _ _ _ (decide (dv D1 n = 0) && (decide ((i : Int) = 0) || !decide ((ds.getD ((i : Int) - 1).toNat .right).word = "swap"))) _
        walk_at "tv"
      · rw [if_pos h] at hXq hDq
        subst hXq hDq
        walk_at "Set"
        exact ⟨by walk_at "le", rfl⟩
      · rw [if_neg (by rw [h]; exact Bool.false_ne_true)] at hXq hDq
        subst hXq hDq
        exact s_next ⟨by walk_at "le", rfl⟩
      rintro δ2 _ ⟨hle2, rfl⟩
      refine S1.le ?_ hle2
      clear hle hle2 hXq hDq
      obtain ⟨⟨wf, wc⟩, hw⟩ := planY_some (b := b) (c := c) (cs := cs) (i := i) (x := X)
      have hYq : planY b cs i X c = if lawStep b cs i X c = none then .right else X := rfl
      rw [hw, Option.getD_some]
      generalize planY b cs i X c = Y at hw hYq ⊢
      walk_at "Let"
      rw [Int.toNat_natCast]
      refine s_ifj (fun δ μ => Le δ [some (Av ad), some (D K (.int b)), some (D K (.int r)), some (D K (.list (cs.map colD))), some (D K (.int n)), some (Av da), some (D K (.int c)), none, some (D K (deedD Y)), some (D K (stepD (some (wf, wc))))] ∧ μ = [(ad, DKo D2), (da, OL K (ds.map deedD))]) (a := isNon (stepD (lawStep b cs i X c))) (μ1 := [(ad, DKo D2), (da, OL K (ds.map deedD))]) (by walk_at "tv") (fun h => ?_) (fun h => ?_) ?_
      · have hn0 : lawStep b cs i X c = none := by
          cases h2 : lawStep b cs i X c with
          | none => rfl
          | some w => rw [h2] at h; cases h
        rw [if_pos hn0] at hYq
        subst hYq
        refine s_let (Q := D K (deedD .right)) (μ1 := [(ad, DKo D2), (da, OL K (ds.map deedD))]) (e_tup (d_cons e_cS d_nil) (by decide)) ?_
        walk_at "Set"
        refine ⟨?_, rfl⟩
        rw [Int.toNat_natCast, hw]
        walk_at "le"
      · have hn0 : lawStep b cs i X c ≠ none := fun h2 => by rw [h2] at h; cases h
        rw [if_neg hn0] at hYq
        subst hYq
        rw [hw]
        exact s_next ⟨by walk_at "le", rfl⟩
      rintro δ3 _ ⟨hle3, rfl⟩
      refine S1.le ?_ hle3
      refine s_do (e_append (K := K) 1 (d := deedD Y) (by walk_at "ev") (by walk_at "ev") ⟨1, _, rfl⟩ rfl (by rw [List.length_map]; omega)) ?_
      refine s_set (Q := D K (.int wc)) (by walk_at "ev") ⟨?_, ?_⟩
      · walk_at "le"
      · rw [List.map_append]
        rfl
    · rintro δ' _ ⟨hle, rfl⟩
      rw [Int.toNat_natCast, List.length_map] at hle ⊢
      exact ⟨Le.trans hle (by walk_at "le"), rfl⟩
  · rintro δ _ ⟨hle, rfl⟩
    refine S1.le ?_ hle
    refine s_frz (μa := [_]) (μb := []) 5 rfl ?_
    walk_at "RetR"
    rfl
theorem e__law_plan  {tA : TA} {δ : En} {μ rest : Mp} {E : XK} {ad : Addr} {Dk : Deck} {b : Int} {r : Int} {n : Int} {cs : List (List Int)} (h : EA tA δ μ [Av ad, D K (.int b), D K (.int r), D K (.list (cs.map colD)), D K (.int n)] ((ad, DKo Dk) :: rest)) (hp : GoodSh b r cs ∧ (0 < n ∧ n < 2 ^ 200)) : E1 (tCall (sp__law_plan K ) [] E tA) δ μ (D K (.list ((planS b r n cs Dk cs.length).1.map deedD))) ((ad, DKo ((planS b r n cs Dk cs.length).2.2)) :: rest) := e_callK (α := (Deck) × (Int) × (Int) × (Int) × (List (List Int))) (A := (fun (x : (Deck) × (Int) × (Int) × (Int) × (List (List Int))) => match x with | (Dk, b, r, n, cs) => [D K (.int b), D K (.int r), D K (.list (cs.map colD)), D K (.int n)])) (pre := (fun (x : (Deck) × (Int) × (Int) × (Int) × (List (List Int))) => match x with | (Dk, b, r, n, cs) => GoodSh b r cs ∧ (0 < n ∧ n < 2 ^ 200))) (D0 := (fun (x : (Deck) × (Int) × (Int) × (Int) × (List (List Int))) => match x with | (Dk, b, r, n, cs) => Dk)) (B := (fun (x : (Deck) × (Int) × (Int) × (Int) × (List (List Int))) => match x with | (Dk, b, r, n, cs) => D K (.list ((planS b r n cs Dk cs.length).1.map deedD)))) (D1 := (fun (x : (Deck) × (Int) × (Int) × (Int) × (List (List Int))) => match x with | (Dk, b, r, n, cs) => (planS b r n cs Dk cs.length).2.2)) (Dk, b, r, n, cs) h hp
local macro_rules | `(tactic| walk_at "call") => `(tactic| ((with_reducible apply e__law_plan); (· walk_at "ea"); (· walk_at "sd")))
theorem ok_InvalidSlips___init__ (T : Txt P K mg) : FnOk P w K mg base CX0 1 T.a_InvalidSlips___init__ T.fd_InvalidSlips___init__ ["self", "index"] (spIdx T.c_InvalidSlips) := fn_super (k := 0) T.sup_InvalidSlips ss_InvalidSlips___init__
theorem ok_Sheet_base (T : Txt P K mg) : FnOk P w K mg base CX0 1 T.a_Sheet_base T.fd_Sheet_base ["self"] (spec (shPre K T.c_Sheet) fun x M => isV (.int x.2.1) M) := by
  refine fn_sv T.F_Sheet_base sc_Sheet_base (fun x G M vs h => by obtain ⟨rfl, _⟩ := h; rfl) fun cdv A outer s H E hr => ⟨_, (pss_one (ps_ret (k_fld (K := K) rfl (pv 0) rfl))), ?_⟩
  rintro ⟨p, b, r, cs⟩ G M vs ⟨rfl, dx, l, xs, h1, h2, h3⟩
  exact sv_ret (ev_fld (ev_var rfl) h1 T.cl_Sheet T.na_Sheet__base shF_b) fun v' G' M' e r => r
theorem ok_Written___init__ (T : Txt P K mg) : FnOk P w K mg base CX0 1 T.a_Written___init__ T.fd_Written___init__ ["self", "base", "figures", "last"] (spec (mkWrPre K T.c_Written) (mkWrPost K T.c_Written)) := by
  refine fn_sv T.F_Written___init__ sc_Written___init__ (fun x G M vs h => by obtain ⟨v, M0, rfl, _⟩ := h; rfl) fun cdv A outer s H E hr => ⟨_, (pss_cons (ps_fld (pv 0) (pv 1) rfl) (pss_cons (ps_fld (pv 0) (pe_callTy (k_list (K := K) rfl) (by rfl) T.n_list (by decide +kernel) (pa_cons (pv 2) pa_nil)) rfl) (pss_one (ps_fld (pv 0) (pv 3) rfl)))), ?_⟩
  rintro ⟨p, dx, b, figs, last⟩ G M vs ⟨v, M0, rfl, rfl, (hd : Dt K G M0 v (.list (figs.map .int)))⟩
  obtain ⟨a, xs, rfl, hA, hx⟩ := hd.lst
  refine sv_seq (N := fun G' σ' M' => σ' = [some (.ref p), some (.int b), some (.ref a), some (.int last)] ∧ M' = M0 ++ [(p, HO.ins T.c_Written dx (putF "_base" (.int b) []))]) (sv_fld (p := p) (C := T.c_Written) (dx := dx) (fs := []) (n := M0.length) (ev_var rfl) (fun G1 v' M1 e hR => ?_) T.cl_Written T.na_Written__base (by decide) fun G1 G2 v' M1 e e' hR => ?_) ?_
  · obtain ⟨rfl, rfl⟩ := hR
    exact ⟨ev_var rfl, by simp⟩
  · obtain ⟨rfl, rfl⟩ := hR
    exact ⟨rfl, by simp [List.set_append]⟩
  rintro G7 σ7 M7 e7 ⟨rfl, rfl⟩
  refine sv_seq (N := fun G' σ' M' => σ' = [some (.ref p), some (.int b), some (.ref a), some (.int last)] ∧ ∃ l ys, M' = M0 ++ [(p, HO.ins T.c_Written dx (putF "_figures" (.ref l) (putF "_base" (.int b) []))), (l, .lst ys)] ∧ DpAll K G' ys (figs.map .int)) (sv_fld (fs := putF "_base" (.int b) []) (n := M0.length) (R := own K (figs.map .int) (M0 ++ [(p, HO.ins T.c_Written dx (putF "_base" (.int b) []))])) (p := p) (C := T.c_Written) (dx := dx) (ev_listA (K := K) (ev_var rfl) ((hA.more).ex e7) (dma hx e7)) (fun G1 v' M1 e hR => ?_) T.cl_Written T.na_Written__figures (by show 1 < 1000; decide) fun G1 G2 v' M1 e e' hR => ?_) ?_
  · obtain ⟨l, ys, rfl, rfl, hdy⟩ := hR
    exact ⟨ev_var rfl, by simp⟩
  · obtain ⟨l, ys, rfl, rfl, hdy⟩ := hR
    exact ⟨rfl, l, ys, by simp [List.set_append], dma hdy e'⟩
  rintro G8 σ8 M8 e8 ⟨rfl, l, ys, rfl, hdy⟩
  refine sv_fld (p := p) (C := T.c_Written) (dx := dx) (fs := putF "_figures" (.ref l) (putF "_base" (.int b) [])) (n := M0.length) (ev_var rfl) (fun G1 v' M1 e hR => ?_) T.cl_Written T.na_Written__last (by show 2 < 1000; decide) fun G1 G2 v' M1 e e' hR => ?_
  · obtain ⟨rfl, rfl⟩ := hR
    exact ⟨ev_var rfl, by simp⟩
  · obtain ⟨rfl, rfl⟩ := hR
    exact ⟨rfl, l, ys, M0, rfl, by simp [List.set_append, wrF], dma hdy (e.trans e')⟩
def sp_do_sum (K : PySem.W.Frag)  : Sp := spD (α := (Int) × (Int) × (Int) × (Option Deed)) (fun (x : (Int) × (Int) × (Int) × (Option Deed)) => match x with | (b, t, c, od) => [D K (.int b), D K (.int t), D K (.int c), D K (odD od)]) (fun (x : (Int) × (Int) × (Int) × (Option Deed)) => match x with | (b, t, c, od) => 2 ≤ b ∧ b ≤ 12) (fun (x : (Int) × (Int) × (Int) × (Option Deed)) => match x with | (b, t, c, od) => (stepP K (doSum b t c od)))
theorem ok_do_sum (T : Txt P K mg) : FnOk P w K mg base CX0 1 T.a_do_sum T.fd_do_sum ["base", "taken", "carry", "deed"] (sp_do_sum K ) := by
  refine fn_Y T.F_do_sum sc_do_sum (fun _ => rfl) fun cdv A outer s H E hr => ⟨_, (pss_cons (ps_set (i := 4) sc_do_sum.nd rfl (Or.inl rfl) (pe_ifExp (pt_cmp (pc_isN (pv 3)) rfl) (pe_non) (pe_ix (k_ixT (K := K) rfl) (pv 3) (pe_int) (fun _ _ => rfl)))) (pss_cons (ps_if (pt_cmpR op_eq (pv 4) (pe_str) (nomark _)) (pss_one (ps_ret (pe_tup (pa_cons (pe_lst pa_nil) (pa_cons (pv 2) pa_nil))))) (pss_nil)) (pss_cons (ps_set (i := 5) sc_do_sum.nd rfl (Or.inl rfl) (pe_op op_add (pv 1) (pv 2))) (pss_cons (ps_set (i := 6) sc_do_sum.nd rfl (Or.inl rfl) (pe_op op_mod (pv 5) (pv 0))) (pss_cons (ps_set (i := 2) sc_do_sum.nd rfl (Or.inl rfl) (pe_op op_fdivW (pv 5) (pv 0))) (pss_cons (ps_if (pt_cmpR op_eq (pv 4) (pe_str) (nomark _)) (pss_one (ps_ret (pe_ifExp (pt_cmpR op_gt (pv 2) (pe_int) (nomark _)) (pe_tup (pa_cons (pe_lst (pa_cons (pv 6) pa_nil)) (pa_cons (pe_int) pa_nil))) (pe_non)))) (pss_nil)) (pss_cons (ps_if (pt_cmpR op_eq (pv 4) (pe_str) (nomark _)) (pss_one (ps_ret (pe_tup (pa_cons (pe_lst (pa_cons (pv 6) pa_nil)) (pa_cons (pe_op op_add (pv 2) (pe_int)) pa_nil))))) (pss_nil)) (pss_cons (ps_if (pt_cmpR op_eq (pv 4) (pe_str) (nomark _)) (pss_one (ps_ret (pe_tup (pa_cons (pe_lst (pa_cons (pe_op op_mod (pe_op op_add (pv 6) (pe_ix (k_ixT (K := K) rfl) (pv 3) (pe_int) (fun _ _ => rfl))) (pv 0)) pa_nil)) (pa_cons (pv 2) pa_nil))))) (pss_nil)) (pss_cons (ps_if (pt_cmpR op_eq (pv 4) (pe_str) (nomark _)) (pss_cons (ps_set (i := 5) sc_do_sum.nd rfl (Or.inl rfl) (pe_op op_add (pv 1) (pv 2))) (pss_one (ps_ret (pe_tup (pa_cons (pe_lst (pa_cons (pv 6) (pa_cons (pe_op op_mod (pv 5) (pv 0)) pa_nil))) (pa_cons (pe_op op_fdivW (pv 5) (pv 0)) pa_nil)))))) (pss_nil)) (pss_one (ps_ret (pe_tup (pa_cons (pe_lst (pa_cons (pv 6) pa_nil)) (pa_cons (pv 2) pa_nil)))))))))))))), ?_⟩
  rintro ⟨b, t, c, od⟩ hp
  replace hp : 2 ≤ b ∧ b ≤ 12 := hp
  show S1 E _ [some (D K (.int b)), some (D K (.int t)), some (D K (.int c)), some (D K (odD od)), none, none, none] [] { nx := fun _ μ => BackY (fun x Q μ => Q = (fun (x : (Int) × (Int) × (Int) × (Option Deed)) => match x with | (b, t, c, od) => (stepP K (doSum b t c od))) x ∧ μ = []) (b, t, c, od) (D K .none) μ, rt := BackY (fun x Q μ => Q = (fun (x : (Int) × (Int) × (Int) × (Option Deed)) => match x with | (b, t, c, od) => (stepP K (doSum b t c od))) x ∧ μ = []) (b, t, c, od) }
  try simp only [cx_K, cx_KX]
  cases od with
  | none =>
    walk_at "let"
    walk_at "no"
    walk_at "let"
    walk_at "let"
    walk_at "let"
    walk_at "no"
    walk_at "no"
    walk_at "no"
    walk_at "no"
    refine s_ret (e_tupP (a_cons (EO.frzH (K := K) (by walk_at "eo")) (a_cons (by walk_at "ev") a_nil)) (by simp)) ?_
    exact back_D (Imp.refl _)
  | some x => 
    walk_at "let"
    refine s_ifr (by walk_at "tv") (fun h => ?_) (fun h0 => ?_)
    · cases w_out h
      refine s_ret (e_tupP (a_cons (EO.frzH (K := K) (by walk_at "eo")) (a_cons (by walk_at "ev") a_nil)) (by simp)) ?_
      exact back_D (Imp.refl _)
    walk_at "let"
    walk_at "let"
    walk_at "let"
    refine s_ifr (by walk_at "tv") (fun h => ?_) (fun h1 => ?_)
    · cases w_forget h
      refine s_ret (e_ifP (by walk_at "tv") (fun _ => e_tupP (a_cons (EO.frzH (K := K) (by walk_at "eo")) (a_cons (by walk_at "ev") a_nil)) (by simp)) (fun _ => e_cN (K := K))) (back_D ?_)
      show Imp _ (stepP K (if _ then _ else _))
      by_cases hz : (t + c) / b > 0
      · rw [if_pos (decide_eq_true hz), if_pos hz]
        exact Imp.refl _
      · rw [if_neg (by simpa using hz), if_neg hz]
        exact Imp.refl _
    refine s_ifr (by walk_at "tv") (fun h => ?_) (fun h2 => ?_)
    · cases w_again h
      refine s_ret (e_tupP (a_cons (EO.frzH (K := K) (by walk_at "eo")) (a_cons (by walk_at "ev") a_nil)) (by simp)) ?_
      exact back_D (Imp.refl _)
    refine s_ifr (by walk_at "tv") (fun h => ?_) (fun h3 => ?_)
    · obtain ⟨d, rfl⟩ := w_off h
      refine s_ret (e_tupP (a_cons (EO.frzH (K := K) (by walk_at "eo")) (a_cons (by walk_at "ev") a_nil)) (by simp)) ?_
      exact back_D (Imp.refl _)
    refine s_ifr (by walk_at "tv") (fun h => ?_) (fun h4 => ?_)
    · cases w_twice h
      walk_at "let"
      refine s_ret (e_tupP (a_cons (EO.frzH (K := K) (by walk_at "eo")) (a_cons (by walk_at "ev") a_nil)) (by simp)) ?_
      exact back_D (Imp.refl _)
    refine s_ret (e_tupP (a_cons (EO.frzH (K := K) (by walk_at "eo")) (a_cons (by walk_at "ev") a_nil)) (by simp)) (back_D ?_)
    cases x <;> first | exact Imp.refl _ | (exfalso; exact of_decide_eq_false h0 rfl) | (exfalso; exact of_decide_eq_false h1 rfl) | (exfalso; exact of_decide_eq_false h2 rfl) | (exfalso; exact of_decide_eq_false h3 rfl) | (exfalso; exact of_decide_eq_false h4 rfl)
theorem e_do_sum  {δ : En} {μ μ' : Mp} {E : XK} {b : Int} {t : Int} {c : Int} {od : Option Deed} {tA : TA} (h : EA tA δ μ [D K (.int b), D K (.int t), D K (.int c), D K (odD od)] μ') (hp : 2 ≤ b ∧ b ≤ 12) : E1 (tCall (sp_do_sum K ) [] E tA) δ μ ((stepP K (doSum b t c od))) μ' := e_callD (b, t, c, od) h hp
local macro_rules | `(tactic| walk_at "call") => `(tactic| ((with_reducible apply e_do_sum); (· walk_at "ea"); (· walk_at "sd")))
def sp_do_columns (K : PySem.W.Frag)  : Sp := spD (α := (Int) × (List (List Int)) × (Int)) (fun (x : (Int) × (List (List Int)) × (Int)) => match x with | (b, cs, c) => [D K (.int b), D K (.list (cs.map colD)), D K (.int c)]) (fun (x : (Int) × (List (List Int)) × (Int)) => match x with | (b, cs, c) => (2 ≤ b ∧ b ≤ 12) ∧ cs.length ≤ 10000) (fun (x : (Int) × (List (List Int)) × (Int)) => match x with | (b, cs, c) => D K (stepD (some (doCols b cs c))))
theorem ok_do_columns (T : Txt P K mg) : FnOk P w K mg base CX0 2 T.a_do_columns T.fd_do_columns ["base", "columns", "carry"] (sp_do_columns K ) := by
  refine fn_Y T.F_do_columns sc_do_columns (fun _ => rfl) fun cdv A outer s H E hr => ⟨_, (pss_cons (ps_set (i := 3) sc_do_columns.nd rfl (Or.inl rfl) (pe_lst pa_nil)) (pss_cons (ps_for PassesOwn.never rfl (pi_list (pv 1)) (pg_name (i := 4) sc_do_columns.nd rfl (Or.inl rfl)) (pss_cons (ps_asg (pe_call (ok_do_sum T) (hr.mono (by decide)) (by rfl) T.m_do_sum T.F_do_sum.kp T.b_do_sum .nil pass0 (pa_cons (pv 0) (pa_cons (pe_callB (k_sumT (K := K) rfl rfl) (by rfl) T.n_sum (by decide +kernel) (pa_cons (pv 4) pa_nil)) (pa_cons (pv 2) (pa_cons (pe_non) pa_nil))))) (pg_tup (by rfl) (pgs_cons (pg_name (i := 5) sc_do_columns.nd rfl (Or.inl rfl)) (pgs_cons (pg_name (i := 2) sc_do_columns.nd rfl (Or.inl rfl)) pgs_nil)))) (pss_one (ps_expr (pe_bm PySem.F.plainAttrs_list PySem.F.slot_list_extend PySem.F.type_list_extend mt_extend (pv 3) (pa_cons (pv 5) pa_nil)))))) (pss_one (ps_ret (pe_tup (pa_cons (pv 3) (pa_cons (pv 2) pa_nil))))))), ?_⟩
  rintro ⟨b, cs, c⟩ hp
  replace hp : (2 ≤ b ∧ b ≤ 12) ∧ cs.length ≤ 10000 := hp
  show S1 E _ [some (D K (.int b)), some (D K (.list (cs.map colD))), some (D K (.int c)), none, none, none] [] { nx := fun _ μ => BackY (fun x Q μ => Q = (fun (x : (Int) × (List (List Int)) × (Int)) => match x with | (b, cs, c) => D K (stepD (some (doCols b cs c)))) x ∧ μ = []) (b, cs, c) (D K .none) μ, rt := BackY (fun x Q μ => Q = (fun (x : (Int) × (List (List Int)) × (Int)) => match x with | (b, cs, c) => D K (stepD (some (doCols b cs c)))) x ∧ μ = []) (b, cs, c) }
  try simp only [cx_K, cx_KX]
  obtain ⟨hb, hl⟩ := hp
  refine s_own (by walk_at "eo") fun fa => ?_
  refine s_seq (N := fun δ μ => Le δ [some (D K (.int b)), some (D K (.list (cs.map colD))), some (D K (.int (doCols b cs c).2)), some (Av fa), none, none] ∧ μ = [(fa, OL K ((doCols b cs c).1.map .int))]) ?_ ?_
  · refine s_for (fun i δ μ => ∃ y z, δ = [some (D K (.int b)), some (D K (.list (cs.map colD))), some (D K (.int (doCols b (cs.take i) c).2)), some (Av fa), y, z] ∧ μ = [(fa, OL K ((doCols b (cs.take i) c).1.map .int))]) (i_list (by walk_at "ev")) ?_ ?_ ?_
    · exact ⟨none, none, rfl, rfl⟩
    · rintro i _ _ hi ⟨y, z, rfl, rfl⟩
      rw [List.length_map] at hi
      refine ⟨_, [4], g_name, ?_⟩
      rw [getD_map (x := cs[i]) (List.getElem?_eq_getElem hi)]
      refine s_unp2P (K := K) (Q1 := Hl K ([(cs[i].sum + (doCols b (cs.take i) c).2) % b].map .int)) (Q2 := D K (.int ((cs[i].sum + (doCols b (cs.take i) c).2) / b))) (by exact e_do_sum (od := none) (by walk_at "ea") hb) ?_
      have hlen : (doCols b (cs.take i) c).1.length = i := by rw [doCols_len, List.length_take]; omega
      refine s_drop (e_extendH 0 (by walk_at "ev") (by walk_at "ev") ⟨0, _, rfl⟩ rfl (by simp [hlen]; omega)) ⟨some (D K (colD cs[i])), some (Hl K ([(cs[i].sum + (doCols b (cs.take i) c).2) % b].map .int)), ?_, ?_⟩
      · rw [List.take_add_one, List.getElem?_eq_getElem hi, Option.toList, doCols_snoc]
        rfl
      · rw [List.take_add_one, List.getElem?_eq_getElem hi, Option.toList, doCols_snoc, List.map_append]
        rfl
    · rintro _ _ ⟨y, z, rfl, rfl⟩
      rw [List.length_map, List.take_length]
      exact ⟨by walk_at "le", rfl⟩
  · rintro δ _ ⟨hle, rfl⟩
    refine S1.le ?_ hle
    refine s_frz (μa := []) (μb := []) 3 rfl ?_
    walk_at "ret="
theorem e_do_columns  {δ : En} {μ μ' : Mp} {E : XK} {b : Int} {cs : List (List Int)} {c : Int} {tA : TA} (h : EA tA δ μ [D K (.int b), D K (.list (cs.map colD)), D K (.int c)] μ') (hp : (2 ≤ b ∧ b ≤ 12) ∧ cs.length ≤ 10000) : E1 (tCall (sp_do_columns K ) [] E tA) δ μ (D K (stepD (some (doCols b cs c)))) μ' := e_callD (b, cs, c) h hp
local macro_rules | `(tactic| walk_at "call") => `(tactic| ((with_reducible apply e_do_columns); (· walk_at "ea"); (· walk_at "sd")))
def sp_sum_taken (K : PySem.W.Frag)  : Sp := spD (α := (Int) × (List Int) × (Option Deed) × (PyData)) (fun (x : (Int) × (List Int) × (Option Deed) × (PyData)) => match x with | (b, c, od, cp) => [D K (.int b), D K (colD c), D K (odD od), D K cp]) (fun (x : (Int) × (List Int) × (Option Deed) × (PyData)) => match x with | (b, c, od, cp) => (2 ≤ b ∧ b ≤ 12) ∧ RowOk c.length od ∧ (∀ j, od = some (.copy j) → isInt cp = true)) (fun (x : (Int) × (List Int) × (Option Deed) × (PyData)) => match x with | (b, c, od, cp) => D K (.int (sumTaken b c (intOf cp) od)))
theorem ok_sum_taken (T : Txt P K mg) : FnOk P w K mg base CX0 1 T.a_sum_taken T.fd_sum_taken ["base", "column", "deed", "copied"] (sp_sum_taken K ) := by
  refine fn_Y T.F_sum_taken sc_sum_taken (fun _ => rfl) fun cdv A outer s H E hr => ⟨_, (pss_cons (ps_set (i := 4) sc_sum_taken.nd rfl (Or.inl rfl) (pe_callB (k_sumT (K := K) rfl rfl) (by rfl) T.n_sum (by decide +kernel) (pa_cons (pv 1) pa_nil))) (pss_cons (ps_if (pt_cmp (pc_isN (pv 2)) rfl) (pss_one (ps_ret (pv 4))) (pss_nil)) (pss_cons (ps_if (pt_cmpR op_eq (pe_ix (k_ixT (K := K) rfl) (pv 2) (pe_int) (fun _ _ => rfl)) (pe_str) (nomark _)) (pss_cons (ps_set (i := 5) sc_sum_taken.nd rfl (Or.inl rfl) (pe_ix (k_ixT (K := K) rfl) (pv 1) (pe_ix (k_ixT (K := K) rfl) (pv 2) (pe_int) (fun _ _ => rfl)) (fun _ _ => rfl))) (pss_one (ps_ret (pe_op op_add (pe_op op_sub (pv 4) (pv 5)) (pe_op op_mod (pe_op op_add (pv 5) (pe_ix (k_ixT (K := K) rfl) (pv 2) (pe_int) (fun _ _ => rfl))) (pv 0)))))) (pss_nil)) (pss_cons (ps_if (pt_cmpR op_eq (pe_ix (k_ixT (K := K) rfl) (pv 2) (pe_int) (fun _ _ => rfl)) (pe_str) (nomark _)) (pss_one (ps_ret (pe_op op_add (pe_op op_sub (pv 4) (pe_ix (k_ixT (K := K) rfl) (pv 1) (pe_ix (k_ixT (K := K) rfl) (pv 2) (pe_int) (fun _ _ => rfl)) (fun _ _ => rfl))) (pv 3)))) (pss_nil)) (pss_one (ps_ret (pv 4))))))), ?_⟩
  rintro ⟨b, c, od, cp⟩ hp
  replace hp : (2 ≤ b ∧ b ≤ 12) ∧ RowOk c.length od ∧ (∀ j, od = some (.copy j) → isInt cp = true) := hp
  show S1 E _ [some (D K (.int b)), some (D K (colD c)), some (D K (odD od)), some (D K cp), none, none] [] { nx := fun _ μ => BackY (fun x Q μ => Q = (fun (x : (Int) × (List Int) × (Option Deed) × (PyData)) => match x with | (b, c, od, cp) => D K (.int (sumTaken b c (intOf cp) od))) x ∧ μ = []) (b, c, od, cp) (D K .none) μ, rt := BackY (fun x Q μ => Q = (fun (x : (Int) × (List Int) × (Option Deed) × (PyData)) => match x with | (b, c, od, cp) => D K (.int (sumTaken b c (intOf cp) od))) x ∧ μ = []) (b, c, od, cp) }
  try simp only [cx_K, cx_KX]
  obtain ⟨hb, hr, hc⟩ := hp
  walk_at "let"
  cases od with
  | none =>
    refine s_ifr (by walk_at "tv") (fun _ => ?_) (fun h => by cases h)
    walk_at "ret="
  | some x =>
    refine s_ifr (by walk_at "tv") (fun h => by cases h) (fun _ => ?_)
    refine s_ifr (by walk_at "tv") (fun h => ?_) (fun h => ?_)
    · obtain ⟨j, d, rfl⟩ := w_read h
      have hr : 0 ≤ j ∧ j < c.length := hr
      walk_at "let"
      walk_at "ret="
    · refine s_ifr (by walk_at "tv") (fun h2 => ?_) (fun h2 => ?_)
      · obtain ⟨j, rfl⟩ := w_copy h2
        have hr : 0 ≤ j ∧ j < c.length := hr
        obtain ⟨n, rfl⟩ : ∃ n, cp = .int n := by
          have := hc _ rfl
          cases cp <;> first | exact ⟨_, rfl⟩ | cases this
        walk_at "ret="
      · walk_at "retD"
        cases x <;> first | rfl | (exfalso; exact of_decide_eq_false h rfl) | (exfalso; exact of_decide_eq_false h2 rfl)
theorem e_sum_taken  {δ : En} {μ μ' : Mp} {E : XK} {b : Int} {c : List Int} {od : Option Deed} {cp : PyData} {tA : TA} (h : EA tA δ μ [D K (.int b), D K (colD c), D K (odD od), D K cp] μ') (hp : (2 ≤ b ∧ b ≤ 12) ∧ RowOk c.length od ∧ (∀ j, od = some (.copy j) → isInt cp = true)) : E1 (tCall (sp_sum_taken K ) [] E tA) δ μ (D K (.int (sumTaken b c (intOf cp) od))) μ' := e_callD (b, c, od, cp) h hp
local macro_rules | `(tactic| walk_at "call") => `(tactic| ((with_reducible apply e_sum_taken); (· walk_at "ea"); (· walk_at "sd")))
def sp_do_slip (K : PySem.W.Frag)  : Sp := spD (α := (Int) × (Int) × (List (List Int)) × (Int) × (Int) × (Deed)) (fun (x : (Int) × (Int) × (List (List Int)) × (Int) × (Int) × (Deed)) => match x with | (b, r, cs, a, c, x) => [D K (.int b), D K (.list (cs.map colD)), D K (.int a), D K (.int c), D K (deedD x)]) (fun (x : (Int) × (Int) × (List (List Int)) × (Int) × (Int) × (Deed)) => match x with | (b, r, cs, a, c, x) => GoodSh b r cs ∧ x ∈ allDeeds b r ∧ (0 ≤ a ∧ a < cs.length)) (fun (x : (Int) × (Int) × (List (List Int)) × (Int) × (Int) × (Deed)) => match x with | (b, r, cs, a, c, x) => D K (slipR a (doSlip b cs a.toNat c x) x))
theorem ok_do_slip (T : Txt P K mg) : FnOk P w K mg base CX0 3 T.a_do_slip T.fd_do_slip ["base", "columns", "at", "carry", "deed"] (sp_do_slip K ) := by
  refine fn_Y T.F_do_slip sc_do_slip (fun _ => rfl) fun cdv A outer s H E hr => ⟨_, (pss_cons (ps_set (i := 5) sc_do_slip.nd rfl (Or.inl rfl) (pe_ix (k_ixT (K := K) rfl) (pv 4) (pe_int) (fun _ _ => rfl))) (pss_cons (ps_if (PW.pt (pw_or (PW.pt (pw_and (pt_cmpR op_eq (pv 5) (pe_str) (nomark _)) (pw_and1 (pt_cmpR op_eq (pv 2) (pe_int) (nomark _))))) (pw_or1 (PW.pt (pw_and (pt_cmpR op_eq (pv 5) (pe_str) (nomark _)) (pw_and1 (pt_cmpR op_eq (pe_op op_add (pv 2) (pe_int)) (pe_callB (k_len (K := K) rfl) (by rfl) T.n_len (by decide +kernel) (pa_cons (pv 1) pa_nil)) (nomark _)))))))) (pss_one (ps_ret (pe_non))) (pss_nil)) (pss_cons (ps_if (pt_cmpR op_eq (pv 5) (pe_str) (nomark _)) (pss_cons (ps_asg (pe_call (ok_do_columns T) (hr.mono (by decide)) (by rfl) T.m_do_columns T.F_do_columns.kp T.b_do_columns .nil pass0 (pa_cons (pv 0) (pa_cons (pe_slice (k_slL (K := K) rfl) (pv 1) (po_some (pv 2)) (po_some (pe_op op_add (pv 2) (pe_int)))) (pa_cons (pv 3) pa_nil)))) (pg_tup (by rfl) (pgs_cons (pg_name (i := 8) sc_do_slip.nd rfl (Or.inl rfl)) (pgs_cons (pg_name (i := 3) sc_do_slip.nd rfl (Or.inl rfl)) pgs_nil)))) (pss_one (ps_ret (pe_tup (pa_cons (pe_revL (pv 8)) (pa_cons (pv 3) (pa_cons (pe_op op_add (pv 2) (pe_int)) pa_nil))))))) (pss_nil)) (pss_cons (ps_set (i := 6) sc_do_slip.nd rfl (Or.inl rfl) (pe_ifExp (pt_cmpR op_eq (pv 5) (pe_str) (nomark _)) (pe_ix (k_ixT (K := K) rfl) (pe_ix (k_ixL (K := K) rfl) (pv 1) (pe_op op_sub (pv 2) (pe_int)) (fun _ _ => rfl)) (pe_ix (k_ixT (K := K) rfl) (pv 4) (pe_int) (fun _ _ => rfl)) (fun _ _ => rfl)) (pe_non))) (pss_cons (ps_set (i := 7) sc_do_slip.nd rfl (Or.inl rfl) (pe_call (ok_do_sum T) (hr.mono (by decide)) (by rfl) T.m_do_sum T.F_do_sum.kp T.b_do_sum .nil pass0 (pa_cons (pv 0) (pa_cons (pe_call (ok_sum_taken T) (hr.mono (by decide)) (by rfl) T.m_sum_taken T.F_sum_taken.kp T.b_sum_taken .nil pass0 (pa_cons (pv 0) (pa_cons (pe_ix (k_ixL (K := K) rfl) (pv 1) (pv 2) (fun _ _ => rfl)) (pa_cons (pv 4) (pa_cons (pv 6) pa_nil))))) (pa_cons (pv 3) (pa_cons (pv 4) pa_nil)))))) (pss_cons (ps_if (pt_cmp (pc_isN (pv 7)) rfl) (pss_one (ps_ret (pe_non))) (pss_nil)) (pss_cons (ps_asg (pv 7) (pg_tup (by rfl) (pgs_cons (pg_name (i := 8) sc_do_slip.nd rfl (Or.inl rfl)) (pgs_cons (pg_name (i := 3) sc_do_slip.nd rfl (Or.inl rfl)) pgs_nil)))) (pss_one (ps_ret (pe_tup (pa_cons (pv 8) (pa_cons (pv 3) (pa_cons (pe_op op_add (pv 2) (pe_int)) pa_nil))))))))))))), ?_⟩
  rintro ⟨b, r, cs, a, c, x⟩ hp
  replace hp : GoodSh b r cs ∧ x ∈ allDeeds b r ∧ (0 ≤ a ∧ a < cs.length) := hp
  show S1 E _ [some (D K (.int b)), some (D K (.list (cs.map colD))), some (D K (.int a)), some (D K (.int c)), some (D K (deedD x)), none, none, none, none] [] { nx := fun _ μ => BackY (fun x Q μ => Q = (fun (x : (Int) × (Int) × (List (List Int)) × (Int) × (Int) × (Deed)) => match x with | (b, r, cs, a, c, x) => D K (slipR a (doSlip b cs a.toNat c x) x)) x ∧ μ = []) (b, r, cs, a, c, x) (D K .none) μ, rt := BackY (fun x Q μ => Q = (fun (x : (Int) × (Int) × (List (List Int)) × (Int) × (Int) × (Deed)) => match x with | (b, r, cs, a, c, x) => D K (slipR a (doSlip b cs a.toNat c x) x)) x ∧ μ = []) (b, r, cs, a, c, x) }
  try simp only [cx_K, cx_KX]
  obtain ⟨g, hx, ha⟩ := hp
  have hb : 2 ≤ b ∧ b ≤ 12 := ⟨g.b2, g.b12⟩
  have hlen := g.len
  have hcol : ∀ n, n < cs.length → r ≤ (cs.getD n []).length := fun n hn => by
    have : cs.getD n [] = cs[n] := by simp [List.getD, List.getElem?_eq_getElem hn]
    rw [this, (g.col _ (List.getElem_mem hn)).1]
    exact Int.le_refl _
  walk_at "let"
  refine s_ifr (μ1 := []) (by walk_at "tv") (fun h => ?_) (fun h => ?_)
  · walk_at "retD"
    rw [word_copy, word_swap, List.length_map] at h
    simp only [Bool.or_eq_true, Bool.and_eq_true, decide_eq_true_eq] at h
    have hc : isCopy x = true ∧ a.toNat = 0 ∨ x = .swap ∧ a.toNat + 1 = cs.length := by
      rcases h with h | h
      · exact .inl ⟨h.1, by omega⟩
      · exact .inr ⟨h.1, by omega⟩
    show _ = slipR a (doSlip b cs a.toNat c x) x
    unfold doSlip
    rw [if_pos hc]
    rfl
  rw [word_copy, word_swap, List.length_map] at h
  simp only [Bool.or_eq_false_iff, Bool.and_eq_false_iff, decide_eq_false_iff_not] at h
  have hno : ¬ (isCopy x = true ∧ a.toNat = 0 ∨ x = .swap ∧ a.toNat + 1 = cs.length) := by
    rintro (⟨h1, h2⟩ | ⟨h1, h2⟩)
    · rcases h.1 with h | h
      · rw [h1] at h
        cases h
      · omega
    · rcases h.2 with h | h
      · exact h h1
      · omega
  have hds : doSlip b cs a.toNat c x = if x = .swap then some ((doCols b ((cs.take (a.toNat + 2)).drop a.toNat) c).1.reverse, (doCols b ((cs.take (a.toNat + 2)).drop a.toNat) c).2)
      else doSum b (sumTaken b (cs.getD a.toNat []) (copiedV cs a.toNat x) (some x)) c (some x) := by
    unfold doSlip
    rw [if_neg hno]
  refine s_ifr (μ1 := []) (by walk_at "tv") (fun h2 => ?_) (fun h2 => ?_)
  · cases w_swap h2
    have hl2 : (((cs.take (a + 2).toNat).drop a.toNat).length) ≤ 10000 := by simp; omega
    refine s_unp2 (K := K) (μ1 := []) (d := .list ((doCols b ((cs.take (a + 2).toNat).drop a.toNat) c).1.map .int)) (e := .int (doCols b ((cs.take (a + 2).toNat).drop a.toNat) c).2) (by exact e_do_columns (by walk_at "ea") ⟨hb, hl2⟩) ?_
    walk_at "Ret"
    refine back_D (imp_D ?_)
    rw [hds, if_pos rfl, show (a + 2).toNat = a.toNat + 2 by omega]
    unfold slipR
    dsimp only
    rw [if_pos rfl]
  have hsw : x ≠ .swap := by
    rw [word_swap] at h2
    simpa using h2
  rw [if_neg hsw] at hds
  have hrow := rowOk_all (n := (cs.getD a.toNat []).length) hx (hcol _ (by omega))
  -- the figure that is copied
  refine s_let (Q := D K (copiedD cs a.toNat x)) (μ1 := []) ?_ ?_
  · cases hc : isCopy x with
    | true =>
      obtain ⟨j, rfl⟩ : ∃ j, x = .copy j := by cases x <;> first | exact ⟨_, rfl⟩ | cases hc
      have ha1 : a ≠ 0 := by
        rcases h.1 with h | h
        · rw [hc] at h; cases h
        · exact h
      have hj : 0 ≤ j ∧ j < ((cs.getD (a - 1).toNat []).length : Int) := by
        have := hcol (a - 1).toNat (by omega)
        rcases mem_all.mp hx with h | h | ⟨d, h, _⟩ | ⟨j, d, h, _⟩ | ⟨j', h, h1, h2⟩ | h | h | h <;> cases h
        omega
      have hi : 0 ≤ a - 1 ∧ a - 1 < (cs.length : Int) := by omega
      show E1 _ _ _ (D K (.int ((cs.getD (a.toNat - 1) []).getD j.toNat 0))) _
      rw [show a.toNat - 1 = (a - 1).toNat by omega]
      refine e_ifTr (a := decide ((Deed.copy j).word = "copy")) (μ1 := []) (by walk_at "tv") rfl ?_
      refine e_ixTI (K := K) (μ1 := []) (xs := cs.getD (a - 1).toNat []) (by exact e_ixLC (by walk_at "ev") (by walk_at "ev") lr_D hi) (by walk_at "ev") hj
    | false =>
      unfold copiedD
      rw [hc]
      exact e_ifFa (a := decide (x.word = "copy")) (μ1 := []) (by walk_at "tv") (by rw [word_copy, hc]) e_cN
  have hi : 0 ≤ a ∧ a < (cs.length : Int) := ha
  have hcv : sumTaken b (cs.getD a.toNat []) (copiedV cs a.toNat x) (some x) = sumTaken b (cs.getD a.toNat []) (intOf (copiedD cs a.toNat x)) (some x) := by
    unfold copiedD
    cases x <;> rfl
  rw [hcv] at hds
  refine s_let (Q := stepP K (doSum b (sumTaken b (cs.getD a.toNat []) (intOf (copiedD cs a.toNat x)) (some x)) c (some x))) (μ1 := []) ?_ ?_
  · refine e_do_sum (od := some x) ?_ hb
    refine a_cons (μ1 := []) (by walk_at "ev") (a_cons (μ1 := []) ?_ (by walk_at "ea"))
    refine e_sum_taken (od := some x) ?_ ⟨hb, hrow, fun j hj => ?_⟩
    · refine a_cons (μ1 := []) (by walk_at "ev") (a_cons (μ1 := []) (by exact e_ixLC (by walk_at "ev") (by walk_at "ev") lr_D hi) (by walk_at "ea"))
    · cases hj
      rfl
  generalize doSum b (sumTaken b (cs.getD a.toNat []) (intOf (copiedD cs a.toNat x)) (some x)) c (some x) = w at hds ⊢
  match w with
  | none =>
    refine s_ifr (μ1 := []) (a := true) (t_B (K := K) (e_isN (d := .none) (by walk_at "ev"))) (fun _ => ?_) (fun h => by cases h)
    walk_at "Ret"
    refine back_D (imp_D ?_)
    rw [hds]
    rfl
  | some (fs, c2) =>
    refine s_ifr (μ1 := []) (a := false) (t_B (K := K) (e_isNP (e_var rfl) tp_notN)) (fun h => by cases h) (fun _ => ?_)
    refine s_unp2P (μ1 := []) (by walk_at "ev") ?_
    refine s_ret (Q := D K (.tuple [.list (fs.map .int), .int c2, .int (a + 1)])) (μ1 := []) (e_tup (d_cons (E1.imp (e_var rfl) imp_H) (d_cons (by walk_at "ev") (d_cons (by walk_at "ev") d_nil))) (by show 3 ≤ 1000; decide)) (back_D (imp_D ?_))
    rw [hds]
    unfold slipR
    dsimp only
    rw [if_neg hsw]
theorem e_do_slip  {δ : En} {μ μ' : Mp} {E : XK} {b : Int} {r : Int} {cs : List (List Int)} {a : Int} {c : Int} {x : Deed} {tA : TA} (h : EA tA δ μ [D K (.int b), D K (.list (cs.map colD)), D K (.int a), D K (.int c), D K (deedD x)] μ') (hp : GoodSh b r cs ∧ x ∈ allDeeds b r ∧ (0 ≤ a ∧ a < cs.length)) : E1 (tCall (sp_do_slip K ) [] E tA) δ μ (D K (slipR a (doSlip b cs a.toNat c x) x)) μ' := e_callD (b, r, cs, a, c, x) h hp
local macro_rules | `(tactic| walk_at "call") => `(tactic| ((with_reducible apply e_do_slip); (· walk_at "ea"); (· walk_at "sd")))
theorem ok_Sheet___len__ (T : Txt P K mg) : FnOk P w K mg base CX0 1 T.a_Sheet___len__ T.fd_Sheet___len__ ["self"] (spec (shPre K T.c_Sheet) fun x M => isV (.int (x.2.2.2.length : Int)) M) := by
  refine fn_sv T.F_Sheet___len__ sc_Sheet___len__ (fun x G M vs h => by obtain ⟨rfl, _⟩ := h; rfl) fun cdv A outer s H E hr => ⟨_, (pss_one (ps_ret (pe_callB (k_len (K := K) rfl) (by rfl) T.n_len (by decide +kernel) (pa_cons (k_fld (K := K) rfl (pv 0) rfl) pa_nil)))), ?_⟩
  rintro ⟨p, b, r, cs⟩ G M vs ⟨rfl, dx, l, xs, h1, h2, h3⟩
  refine sv_ret (ev_lenA (ev_fld (ev_var rfl) h1 T.cl_Sheet T.na_Sheet__columns shF_c) h2) fun v' G' M' e r => ?_
  rw [dpa_len h3, List.length_map] at r
  exact r
theorem len_Sheet___len__ (T : Txt P K mg) {X : Cx} (hP : X.prog = P := by rfl) (hw : X.w = w := by rfl) (hK : X.K = K := by rfl) (hm : X.mg = mg := by rfl) (hr : Room (1 + 1) X.A) : CallR X (.builtin "len") (rLenO T.c_Sheet (spec (shPre K T.c_Sheet) fun x M => isV (.int (x.2.2.2.length : Int)) M) E0) := by
  subst hP hw hK hm
  exact call_lenO T.me_Sheet___len__ (ok_Sheet___len__ T) hr T.b_Sheet___len__ pass0
theorem ok_Sheet_rows (T : Txt P K mg) : FnOk P w K mg base CX0 1 T.a_Sheet_rows T.fd_Sheet_rows ["self"] (spec (shPre K T.c_Sheet) fun x M => isV (.int x.2.2.1) M) := by
  refine fn_sv T.F_Sheet_rows sc_Sheet_rows (fun x G M vs h => by obtain ⟨rfl, _⟩ := h; rfl) fun cdv A outer s H E hr => ⟨_, (pss_one (ps_ret (k_fld (K := K) rfl (pv 0) rfl))), ?_⟩
  rintro ⟨p, b, r, cs⟩ G M vs ⟨rfl, dx, l, xs, h1, h2, h3⟩
  exact sv_ret (ev_fld (ev_var rfl) h1 T.cl_Sheet T.na_Sheet__rows shF_r) fun v' G' M' e r => r
def sp__is_plain (K : PySem.W.Frag)  : Sp := spD (α := (Option PyData)) (fun (x : (Option PyData)) => [(itP K x)]) (fun (x : (Option PyData)) => ∀ d, x = some d → dlen d ≤ 100000) (fun (x : (Option PyData)) => D K (.bool (plainI x)))
theorem ok__is_plain (T : Txt P K mg) : FnOk P w K mg base CX0 1 T.a__is_plain T.fd__is_plain ["value"] (sp__is_plain K ) := by
  refine fn_Y T.F__is_plain sc__is_plain (fun _ => rfl) fun cdv A outer s H E hr => ⟨_, (pss_cons (ps_if (pt_not (pt_val (pe_callB (k_isi (K := K) rfl) (by rfl) T.n_isinstance (by decide +kernel) (pa_cons (pv 0) (pa_cons (pe_bltn (v := .ty "tuple") (by rfl) T.n_tuple (by decide +kernel) rfl) pa_nil))))) (pss_one (ps_ret (pe_bl))) (pss_nil)) (pss_one (ps_ret (pe_callB (k_all (K := K) rfl rfl) (by rfl) T.n_all (by decide +kernel) (pa_cons (pe_lc (own := [("item", 1)]) (g := gName 1) (tt := tYes) rfl sc__is_plain.nd (pi_tup (pv 0)) (blkOk_by (N := ["value", "item"]) (sc := defScope s__is_plain) (by decide +kernel)) (fun _ _ _ _ _ => pg_name (i := 1) sc__is_plain.nd rfl (Or.inl rfl)) (fun _ _ _ _ _ => pts_nil) (fun _ _ _ _ _ => pe_and (pe_callB (k_isiT (K := K) rfl) (by rfl) T.n_isinstance (by decide +kernel) (pa_cons (pv 1) (pa_cons (pe_tup (pa_cons (pe_bltn (v := .ty "int") (by rfl) T.n_int (by decide +kernel) rfl) (pa_cons (pe_bltn (v := .ty "str") (by rfl) T.n_str (by decide +kernel) rfl) pa_nil))) pa_nil))) (pe_one (pe_not (pe_callB (k_isi (K := K) rfl) (by rfl) T.n_isinstance (by decide +kernel) (pa_cons (pv 1) (pa_cons (pe_bltn (v := .ty "bool") (by rfl) T.n_bool (by decide +kernel) rfl) pa_nil))))))) pa_nil))))), ?_⟩
  rintro x hp
  replace hp : ∀ d, x = some d → dlen d ≤ 100000 := hp
  show S1 E _ [some ((itP K x)), none] [] { nx := fun _ μ => BackY (fun x Q μ => Q = (fun (x : (Option PyData)) => D K (.bool (plainI x))) x ∧ μ = []) x (D K .none) μ, rt := BackY (fun x Q μ => Q = (fun (x : (Option PyData)) => D K (.bool (plainI x))) x ∧ μ = []) x }
  try simp only [cx_K, cx_KX]
  cases x with
  | some d =>
    replace hp := hp d rfl
    show S1 E _ [some (D K d), none] [] _
    refine s_ifr (by walk_at "tv") (fun h => ?_) (fun h => ?_)
    · walk_at "retD"
      cases d <;> first | rfl | cases h
    · obtain ⟨ds, rfl⟩ := tup_of (by simpa using h)
      refine s_ret (Q := D K (.bool (ds.all fun d => (isTy d "int" || isTy d "str") && !isTy d "bool"))) (μ1 := []) (e_allO (o_mapT (K := K) (enc := id) (xs := ds) ?_ hp fun x hx => ?_)) (back_D (imp_D rfl))
      · rw [List.map_id]
        walk_at "ev"
      · walk_at "ev"
  | none =>
    show S1 E _ [some (OddP K), none] [] _
    refine s_ifr (a := false) (μ1 := []) (t_not (a := true) (t_B (K := K) (e_isiTp (e_var rfl)))) (fun h => by cases h) (fun _ => ?_)
    refine s_ret (Q := D K (.bool ([(D K (.str "off"), true), (Dc, false)].all fun x : Pr × Bool => x.2))) (μ1 := []) (e_allO (xs := [(D K (.str "off"), true), (Dc, false)]) (f := fun x : Pr × Bool => x.2) (o_mapW (K := K) (xs := [(D K (.str "off"), true), (Dc, false)]) (en := fun x : Pr × Bool => x.1) (out := fun x : Pr × Bool => .bool x.2) (i_tp (K := K) (Ps := [D K (.str "off"), Dc]) (e_var rfl)) ?_ (by show 2 ≤ 100000; decide) ?_)) (back_D (imp_D rfl))
    · intro i x h
      match i, h with
      | 0, h => cases h; rfl
      | 1, h => cases h; rfl
      | n + 2, h => cases h
    · intro x hx
      refine ⟨_, g_name (k := 1), ?_⟩
      simp only [List.mem_cons, List.not_mem_nil, or_false] at hx
      rcases hx with rfl | rfl
      · exact (e_and (K := K) (a := true) (b := true) (e_isiT2 (d := .str "off") (e_var rfl)) fun _ => e_not (K := K) (a := false) (e_isi (d := .str "off") (e_var rfl) (.inr (.inl rfl)))).cast rfl
      · exact (e_and (K := K) (a := false) (b := true) (e_isiT2c (e_var rfl)) fun h => by cases h).cast rfl
theorem e__is_plain  {δ : En} {μ μ' : Mp} {E : XK} {x : Option PyData} {tA : TA} (h : EA tA δ μ [(itP K x)] μ') (hp : ∀ d, x = some d → dlen d ≤ 100000) : E1 (tCall (sp__is_plain K ) [] E tA) δ μ (D K (.bool (plainI x))) μ' := e_callD x h hp
local macro_rules | `(tactic| walk_at "call") => `(tactic| ((with_reducible apply e__is_plain); (· walk_at "ea"); (· walk_at "sd")))
def sp_deeds_of (K : PySem.W.Frag)  : Sp := spD (α := (Int) × (Int)) (fun (x : (Int) × (Int)) => match x with | (b, r) => [D K (.int b), D K (.int r)]) (fun (x : (Int) × (Int)) => match x with | (b, r) => (2 ≤ b ∧ b ≤ 12) ∧ (1 ≤ r ∧ r ≤ 4)) (fun (x : (Int) × (Int)) => match x with | (b, r) => D K (.list ((allDeeds b r).map deedD)))
theorem ok_deeds_of (T : Txt P K mg) : FnOk P w K mg base CX0 1 T.a_deeds_of T.fd_deeds_of ["base", "rows"] (sp_deeds_of K ) := by
  refine fn_Y T.F_deeds_of sc_deeds_of (fun _ => rfl) fun cdv A outer s H E hr => ⟨_, (pss_cons (ps_setLc (i := 2) (own := [("by", 5)]) (g := gName 5) (tt := tYes) rfl sc_deeds_of.nd rfl rfl (sw_true rfl rfl rfl (by decide +kernel)) (pi_range2 (by rfl) T.n_range (pa_cons (pe_int) (pa_cons (pv 0) pa_nil))) (blkOk_by (N := ["base", "rows", "offs", "reads", "copies", "by", "row"]) (sc := defScope s_deeds_of) (by decide +kernel)) (fun _ _ _ _ _ => pg_name (i := 5) sc_deeds_of.nd rfl (Or.inl rfl)) (fun _ _ _ _ _ => pts_nil) (fun _ _ _ _ _ => pe_tup (pa_cons (pe_str) (pa_cons (pv 5) pa_nil)))) (pss_cons (ps_setLc2 (i := 3) (own := [("row", 6), ("by", 5)]) (vs1 := [5]) (g := gName 6) (tt := tYes) (g1 := gName 5) (tt1 := tYes) rfl sc_deeds_of.nd rfl rfl (sw_true rfl rfl rfl (by decide +kernel)) (pi_range1 (by rfl) T.n_range (pa_cons (pv 1) pa_nil)) (blkOk_by (N := ["base", "rows", "offs", "reads", "copies", "by", "row"]) (sc := defScope s_deeds_of) (by decide +kernel)) (by decide) (fun _ _ _ _ _ => pg_name (i := 6) sc_deeds_of.nd rfl (Or.inl rfl)) (fun _ _ _ _ _ => pts_nil) (fun _ _ _ _ _ => pi_range2 (by rfl) T.n_range (pa_cons (pe_int) (pa_cons (pv 0) pa_nil))) (fun _ _ _ _ _ => pg_name (i := 5) sc_deeds_of.nd rfl (Or.inl rfl)) (fun _ _ _ _ _ => pts_nil) (fun _ _ _ _ _ => pe_tup (pa_cons (pe_str) (pa_cons (pv 6) (pa_cons (pv 5) pa_nil)))) ) (pss_cons (ps_setLc (i := 4) (own := [("row", 6)]) (g := gName 6) (tt := tYes) rfl sc_deeds_of.nd rfl rfl (sw_true rfl rfl rfl (by decide +kernel)) (pi_range1 (by rfl) T.n_range (pa_cons (pv 1) pa_nil)) (blkOk_by (N := ["base", "rows", "offs", "reads", "copies", "by", "row"]) (sc := defScope s_deeds_of) (by decide +kernel)) (fun _ _ _ _ _ => pg_name (i := 6) sc_deeds_of.nd rfl (Or.inl rfl)) (fun _ _ _ _ _ => pts_nil) (fun _ _ _ _ _ => pe_tup (pa_cons (pe_str) (pa_cons (pv 6) pa_nil)))) (pss_one (ps_ret (pe_lst (pa_cons (pe_tup (pa_cons (pe_str) pa_nil)) (pa_cons (pe_tup (pa_cons (pe_str) pa_nil)) (StX.pa_star (pv 2) (StX.pa_star (pv 3) (StX.pa_star (pv 4) (pa_cons (pe_tup (pa_cons (pe_str) pa_nil)) (pa_cons (pe_tup (pa_cons (pe_str) pa_nil)) (pa_cons (pe_tup (pa_cons (pe_str) pa_nil)) pa_nil)))))))))))))), ?_⟩
  rintro ⟨b, r⟩ hp
  replace hp : (2 ≤ b ∧ b ≤ 12) ∧ (1 ≤ r ∧ r ≤ 4) := hp
  show S1 E _ [some (D K (.int b)), some (D K (.int r)), none, none, none, none, none] [] { nx := fun _ μ => BackY (fun x Q μ => Q = (fun (x : (Int) × (Int)) => match x with | (b, r) => D K (.list ((allDeeds b r).map deedD))) x ∧ μ = []) (b, r) (D K .none) μ, rt := BackY (fun x Q μ => Q = (fun (x : (Int) × (Int)) => match x with | (b, r) => D K (.list ((allDeeds b r).map deedD))) x ∧ μ = []) (b, r) }
  try simp only [cx_K, cx_KX]
  obtain ⟨hb, hr'⟩ := hp
  refine s_let (Q := D K (.list ((offsOf b).map deedD))) (μ1 := []) ?_ ?_
  · unfold offsOf
    rw [List.map_map]
    refine EO.frz (o_mapR2 (by walk_at "ev") (by walk_at "ev") (by omega) fun x _ _ => ?_)
    exact e_tup (d_cons (by walk_at "ev") (d_cons (by walk_at "ev") d_nil)) (by show 2 ≤ 1000; decide)
  refine s_let (Q := D K (.list ((readsOf b r).map deedD))) (μ1 := []) ?_ ?_
  · unfold readsOf
    rw [List.map_flatMap]
    refine EO.frz (o_lc2 (xs := List.range r.toNat) (en := fun x => D K (.int (x : Int))) (X := fun k => D K (.int (k : Int))) (N := 20) (by rw [List.length_range]; exact i_rng1 (by walk_at "ev") (by omega)) (fun i x h => ?_) (fun x hx => ?_) ?_ fun x hx => ?_)
    · rw [List.getElem?_eq_some_iff] at h
      obtain ⟨_, h⟩ := h
      rw [← h, List.getElem_range]
    · simp
      omega
    · simp
      omega
    · refine ⟨_, g_name, fun k => D K (.int (1 + (k : Int))), ?_, fun j y hy => ⟨_, g_name, ?_⟩⟩
      · simp only [List.length_map, List.length_range]
        exact i_rng2 (by walk_at "ev") (by walk_at "ev") (by omega)
      · have hj : j < (b - 1).toNat := by
          have := (List.getElem?_eq_some_iff.mp hy).1
          simpa using this
        have : y = deedD (.read (x : Int) (1 + (j : Int))) := by
          rw [List.getElem?_map, List.getElem?_map, List.getElem?_map, List.getElem?_range hj] at hy
          exact (Option.some.inj hy).symm
        subst this
        exact e_tup (d_cons (by walk_at "ev") (d_cons (by walk_at "ev") (d_cons (by walk_at "ev") d_nil))) (by show 3 ≤ 1000; decide)
  refine s_let (Q := D K (.list ((copiesOf r).map deedD))) (μ1 := []) ?_ ?_
  · unfold copiesOf
    rw [List.map_map]
    refine EO.frz (o_mapR (by walk_at "ev") (by omega) fun x _ => ?_)
    exact e_tup (d_cons (by walk_at "ev") (d_cons (by walk_at "ev") d_nil)) (by show 2 ≤ 1000; decide)
  refine s_ret (EO.frz (o_lst (by walk_at "ed") ?_)) (back_D (imp_D ?_))
  · have h1 : r.toNat * (b - 1).toNat ≤ 4 * 11 := Nat.mul_le_mul (by omega) (by omega)
    simp only [List.length_cons, List.length_append, List.length_map, offsOf_len, readsOf_len, copiesOf_len, List.length_nil]
    omega
  · simp only [allDeeds, List.map_append]
    rfl
theorem e_deeds_of  {δ : En} {μ μ' : Mp} {E : XK} {b : Int} {r : Int} {tA : TA} (h : EA tA δ μ [D K (.int b), D K (.int r)] μ') (hp : (2 ≤ b ∧ b ≤ 12) ∧ (1 ≤ r ∧ r ≤ 4)) : E1 (tCall (sp_deeds_of K ) [] E tA) δ μ (D K (.list ((allDeeds b r).map deedD))) μ' := e_callD (b, r) h hp
local macro_rules | `(tactic| walk_at "call") => `(tactic| ((with_reducible apply e_deeds_of); (· walk_at "ea"); (· walk_at "sd")))
def sp_is_deed (K : PySem.W.Frag)  : Sp := spD (α := (Int) × (Int) × (Option PyData)) (fun (x : (Int) × (Int) × (Option PyData)) => match x with | (b, r, x) => [D K (.int b), D K (.int r), (itP K x)]) (fun (x : (Int) × (Int) × (Option PyData)) => match x with | (b, r, x) => (2 ≤ b ∧ b ≤ 12) ∧ (1 ≤ r ∧ r ≤ 4) ∧ (∀ d, x = some d → dlen d ≤ 100000 ∧ SeqAt.shaped d = true)) (fun (x : (Int) × (Int) × (Option PyData)) => match x with | (b, r, x) => D K (.bool (deedI b r x)))
theorem ok_is_deed (T : Txt P K mg) : FnOk P w K mg base CX0 2 T.a_is_deed T.fd_is_deed ["base", "rows", "value"] (sp_is_deed K ) := by
  refine fn_Y T.F_is_deed sc_is_deed (fun _ => rfl) fun cdv A outer s H E hr => ⟨_, (pss_one (ps_ret (pe_and (pe_call (ok__is_plain T) (hr.mono (by decide)) (by rfl) T.m__is_plain T.F__is_plain.kp T.b__is_plain .nil pass0 (pa_cons (pv 2) pa_nil)) (pe_one (pe_cmpR (k_inD (K := K) rfl (room65 hr)) (pv 2) (pe_call (ok_deeds_of T) (hr.mono (by decide)) (by rfl) T.m_deeds_of T.F_deeds_of.kp T.b_deeds_of .nil pass0 (pa_cons (pv 0) (pa_cons (pv 1) pa_nil))) (by with_unfolding_all rfl)))))), ?_⟩
  rintro ⟨b, r, x⟩ hp
  replace hp : (2 ≤ b ∧ b ≤ 12) ∧ (1 ≤ r ∧ r ≤ 4) ∧ (∀ d, x = some d → dlen d ≤ 100000 ∧ SeqAt.shaped d = true) := hp
  show S1 E _ [some (D K (.int b)), some (D K (.int r)), some ((itP K x))] [] { nx := fun _ μ => BackY (fun x Q μ => Q = (fun (x : (Int) × (Int) × (Option PyData)) => match x with | (b, r, x) => D K (.bool (deedI b r x))) x ∧ μ = []) (b, r, x) (D K .none) μ, rt := BackY (fun x Q μ => Q = (fun (x : (Int) × (Int) × (Option PyData)) => match x with | (b, r, x) => D K (.bool (deedI b r x))) x ∧ μ = []) (b, r, x) }
  try simp only [cx_K, cx_KX]
  obtain ⟨hb, hr', hx⟩ := hp
  have hpl : ∀ d, x = some d → dlen d ≤ 100000 := fun d h => (hx d h).1
  cases x with
  | none => exact s_ret (Q := D K (.bool false)) (μ1 := []) ((e_and (K := K) (a := plainI none) (b := true) (by exact e__is_plain (x := none) (by walk_at "ea") hpl) fun h => by cases h).cast rfl) (back_D (imp_D rfl))
  | some d =>
    obtain ⟨hl, hs⟩ := hx d rfl
    refine s_ret (e_and (K := K) (a := plainI (some d)) (by exact e__is_plain (x := some d) (by walk_at "ea") hpl) fun _ => ?_) (back_D (imp_D rfl))
    show E1 _ [some (D K (.int b)), some (D K (.int r)), some (D K d)] _ _ _
    refine e_inD (K := K) (by walk_at "ev") (e_deeds_of (by walk_at "ea") ⟨hb, hr'⟩) dr_D dr_D hs ?_ ?_
    · refine (sh_lst (n := 1) fun x hx => ?_).ok
      obtain ⟨y, _, rfl⟩ := List.mem_map.mp hx
      refine sh_tup (n := 0) fun z hz => ?_
      cases y <;> simp only [Deed.L, List.mem_cons, List.not_mem_nil, or_false] at hz
      all_goals (first | (rcases hz with rfl | rfl | rfl) | (rcases hz with rfl | rfl) | subst hz) <;> first | exact ⟨by decide +kernel, Nat.le_refl _⟩ | exact ⟨rfl, Nat.le_refl _⟩
    · rw [List.any_map]
      rfl
theorem e_is_deed  {δ : En} {μ μ' : Mp} {E : XK} {b : Int} {r : Int} {x : Option PyData} {tA : TA} (h : EA tA δ μ [D K (.int b), D K (.int r), (itP K x)] μ') (hp : (2 ≤ b ∧ b ≤ 12) ∧ (1 ≤ r ∧ r ≤ 4) ∧ (∀ d, x = some d → dlen d ≤ 100000 ∧ SeqAt.shaped d = true)) : E1 (tCall (sp_is_deed K ) [] E tA) δ μ (D K (.bool (deedI b r x))) μ' := e_callD (b, r, x) h hp
local macro_rules | `(tactic| walk_at "call") => `(tactic| ((with_reducible apply e_is_deed); (· walk_at "ea"); (· walk_at "sd")))
def sp_is_slip (K : PySem.W.Frag) (c_Sheet : Addr) : Sp := sp (α := Mp × (Pr) × (Int) × (Int) × (Int) × (List (List Int)) × (SI)) (fun (x : Mp × (Pr) × (Int) × (Int) × (Int) × (List (List Int)) × (SI)) => match x with | (ms, P1, b, r, lo, cs, x) => [P1, D K (.int lo), (siP K x)]) (fun (x : Mp × (Pr) × (Int) × (Int) × (Int) × (List (List Int)) × (SI)) => match x with | (ms, P1, b, r, lo, cs, x) => ms) (fun (x : Mp × (Pr) × (Int) × (Int) × (Int) × (List (List Int)) × (SI)) => match x with | (ms, P1, b, r, lo, cs, x) => (SR K c_Sheet P1 ms b r cs) ∧ (GoodSh b r cs ∧ SIok x)) (fun x Q μ => Q = (fun (x : Mp × (Pr) × (Int) × (Int) × (Int) × (List (List Int)) × (SI)) => match x with | (ms, P1, b, r, lo, cs, x) => D K (.bool (slipI b r cs.length lo x))) x ∧ μ = (fun (x : Mp × (Pr) × (Int) × (Int) × (Int) × (List (List Int)) × (SI)) => match x with | (ms, P1, b, r, lo, cs, x) => ms) x)
theorem ok_is_slip (T : Txt P K mg) : FnOk P w K mg base CX0 4 T.a_is_slip T.fd_is_slip ["sheet", "low", "value"] (sp_is_slip K T.c_Sheet) := by
  refine fn_Y T.F_is_slip sc_is_slip (fun _ => rfl) fun cdv A outer s H E hr => ⟨_, (pss_cons (ps_if (PW.pt (pw_or (pt_not (pt_val (pe_callB (k_isi (K := K) rfl) (by rfl) T.n_isinstance (by decide +kernel) (pa_cons (pv 2) (pa_cons (pe_bltn (v := .ty "tuple") (by rfl) T.n_tuple (by decide +kernel) rfl) pa_nil))))) (pw_or1 (pt_cmpR op_ne (pe_callB (k_len (K := K) rfl) (by rfl) T.n_len (by decide +kernel) (pa_cons (pv 2) pa_nil)) (pe_int) (nomark _))))) (pss_one (ps_ret (pe_bl))) (pss_nil)) (pss_one (ps_ret (pe_and (pe_call (ok_is_whole T) (hr.mono (by decide)) (by rfl) T.m_is_whole T.F_is_whole.kp T.b_is_whole .nil pass0 (pa_cons (pe_ix (k_ixT (K := K) rfl) (pv 2) (pe_int) (fun _ _ => rfl)) (pa_cons (pv 1) (pa_cons (pe_op op_sub (pe_callB (len_Sheet___len__ T (hr := hr.mono (by decide))) (by rfl) T.n_len (by decide +kernel) (pa_cons (pv 0) pa_nil)) (pe_int)) pa_nil)))) (pe_one (pe_call (ok_is_deed T) (hr.mono (by decide)) (by rfl) T.m_is_deed T.F_is_deed.kp T.b_is_deed .nil pass0 (pa_cons (pe_prop (pv 0) T.cl_Sheet T.p_Sheet_base (ok_Sheet_base T) (hr.mono (by decide)) T.b_Sheet_base .nil pass0 rfl) (pa_cons (pe_prop (pv 0) T.cl_Sheet T.p_Sheet_rows (ok_Sheet_rows T) (hr.mono (by decide)) T.b_Sheet_rows .nil pass0 rfl) (pa_cons (pe_ix (k_ixT (K := K) rfl) (pv 2) (pe_int) (fun _ _ => rfl)) pa_nil))))))))), ?_⟩
  rintro ⟨ms, P1, b, r, lo, cs, x⟩ hp
  replace hp : (SR K T.c_Sheet P1 ms b r cs) ∧ (GoodSh b r cs ∧ SIok x) := hp
  obtain ⟨hS, hp⟩ := hp
  show S1 E _ [some (P1), some (D K (.int lo)), some ((siP K x))] ms { nx := fun _ μ => BackY (fun x Q μ => Q = (fun (x : Mp × (Pr) × (Int) × (Int) × (Int) × (List (List Int)) × (SI)) => match x with | (ms, P1, b, r, lo, cs, x) => D K (.bool (slipI b r cs.length lo x))) x ∧ μ = (fun (x : Mp × (Pr) × (Int) × (Int) × (Int) × (List (List Int)) × (SI)) => match x with | (ms, P1, b, r, lo, cs, x) => ms) x) (ms, P1, b, r, lo, cs, x) (D K .none) μ, rt := BackY (fun x Q μ => Q = (fun (x : Mp × (Pr) × (Int) × (Int) × (Int) × (List (List Int)) × (SI)) => match x with | (ms, P1, b, r, lo, cs, x) => D K (.bool (slipI b r cs.length lo x))) x ∧ μ = (fun (x : Mp × (Pr) × (Int) × (Int) × (Int) × (List (List Int)) × (SI)) => match x with | (ms, P1, b, r, lo, cs, x) => ms) x) (ms, P1, b, r, lo, cs, x) }
  try simp only [cx_K, cx_KX]
  obtain ⟨g, hx⟩ := hp
  cases x with
  | odd a =>
    have hlen := g.len
    have hb : 2 ≤ b ∧ b ≤ 12 := ⟨g.b2, g.b12⟩
    have hr4 : 1 ≤ r ∧ r ≤ 4 := ⟨g.r1, g.r4⟩
    show S1 E _ [some P1, some (D K (.int lo)), some (Tp [D K (.int a), OddP K])] ms _
    refine s_ifr (a := false) (μ1 := ms) (t_or (a := false) (b := false) (t_not (a := true) (t_B (K := K) (e_isiTp (e_var rfl)))) fun _ => t_test (K := K) ((e_neI (K := K) (e_lenTp (e_var rfl)) e_cI).cast rfl)) (fun h => by cases h) (fun _ => ?_)
    refine s_ret (Q := D K (.bool (isWhole (.int a) lo ((cs.length : Int) - 1) && false))) (μ1 := ms) (e_and (K := K) (b := false) (by exact e_whole (a_cons (e_ixTp (K := K) (i := 0) (e_var rfl) e_cI rfl) (by walk_at "ea"))) fun _ => ?_) ?_
    · exact e_is_deed (x := none) (a_cons (by walk_at "ev") (a_cons (by walk_at "ev") (a_cons (e_ixTp (K := K) (i := 1) (P := OddP K) (e_var rfl) e_cI rfl) a_nil))) ⟨hb, hr4, fun d h => by cases h⟩
    · walk_at "bk"
      rw [Bool.and_false]
      rfl
  | d d =>
  obtain ⟨hl, hs, hi⟩ := hx
  show S1 E _ [some P1, some (D K (.int lo)), some (D K d)] ms _
  have hb : 2 ≤ b ∧ b ≤ 12 := ⟨g.b2, g.b12⟩
  have hr4 : 1 ≤ r ∧ r ≤ 4 := ⟨g.r1, g.r4⟩
  have hlen := g.len
  by_cases ht : isTy d "tuple" = true
  · obtain ⟨ds, rfl⟩ := tup_of ht
    refine s_ifr (μ1 := ms) (by walk_at "tv") (fun h => ?_) (fun h => ?_)
    · walk_at "retR"
      match ds, h with
      | [], _ => rfl
      | [_], _ => rfl
      | [_, _], h => cases h
      | _ :: _ :: _ :: _, _ => rfl
    · have h2 : ds.length = 2 := by
        have := (Bool.or_eq_false_iff.mp h).2
        simp only [Bool.not_eq_false', decide_eq_true_eq] at this
        omega
      match ds, h2 with
      | [x, y], _ =>
        have hy1 : dlen y ≤ 100000 := hi y (by simp [itemsOf])
        have hy2 := sh_item (e := y) hs (by simp [itemsOf])
        refine s_ret (Q := D K (.bool (isWhole x lo ((cs.length : Int) - 1) && isDeedD b r y))) (μ1 := ms) (e_and (K := K) (by walk_at "ev") fun _ => ?_) ?_
        rotate_left
        · walk_at "bk"
          rfl
        exact e_is_deed (x := some y) (a_cons (by walk_at "ev") (a_cons (by walk_at "ev") (a_cons (e_ixT (K := K) (i := 1) (ds := [x, y]) (e_var rfl) e_cI rfl) a_nil))) ⟨hb, hr4, fun d h => by cases h; exact ⟨hy1, hy2⟩⟩
  · refine s_ifr (μ1 := ms) (a := true) ?_ (fun _ => ?_) (fun h => by cases h)
    · have hn : isTy d "tuple" = false := by simpa using ht
      have : T1 (tNot (tB (tCB (rIsi K) (tCons (tVar 2) (tCons (tC (.ty "tuple")) tNil))))) [some P1, some (D K (.int lo)), some (D K d)] ms true ms := by
        have := t_not (t_B (K := K) (e_isi (K := K) (T := "tuple") (e_var (k := 2) (δ := [some P1, some (D K (.int lo)), some (D K d)]) (μ := ms) rfl) (.inr (.inr (.inl rfl)))))
        rw [hn] at this
        exact this
      exact t_or (b := true) this fun z => by cases z
    · walk_at "retR"
      cases d <;> first | rfl | exact absurd rfl ht
theorem e_is_slip {c_Sheet : Addr} {tA : TA} {δ : En} {μ ms : Mp} {E : XK} {P1 : Pr} {b : Int} {r : Int} {lo : Int} {cs : List (List Int)} {x : SI} (h : EA tA δ μ [P1, D K (.int lo), (siP K x)] ms) (hS : SR K c_Sheet P1 ms b r cs) (hp : GoodSh b r cs ∧ SIok x) : E1 (tCall (sp_is_slip K c_Sheet) [] E tA) δ μ (D K (.bool (slipI b r cs.length lo x))) ms := e_callR (ms, P1, b, r, lo, cs, x) (by simpa using h) ⟨hS, hp⟩
local macro_rules | `(tactic| walk_at "call") => `(tactic| ((with_reducible apply e_is_slip); (· walk_at "ea"); (· walk_at "sr"); (· walk_at "sd")))
def sp_add_with (K : PySem.W.Frag) (c_Sheet : Addr) (c_Written : Addr) (c_InvalidSlips : Addr) : Sp := spTI (α := Mp × (Pr) × (Int) × (Int) × (List (List Int)) × (List SI)) (fun (x : Mp × (Pr) × (Int) × (Int) × (List (List Int)) × (List SI)) => match x with | (ms, P1, b, r, cs, its) => [P1, (Lq K (its.map (siP K)))]) (fun (x : Mp × (Pr) × (Int) × (Int) × (List (List Int)) × (List SI)) => match x with | (ms, P1, b, r, cs, its) => ms) (fun (x : Mp × (Pr) × (Int) × (Int) × (List (List Int)) × (List SI)) => match x with | (ms, P1, b, r, cs, its) => (SR K c_Sheet P1 ms b r cs) ∧ (GoodSh b r cs ∧ its.length ≤ 900 ∧ (∀ d ∈ its, SIok d))) (fun (x : Mp × (Pr) × (Int) × (Int) × (List (List Int)) × (List SI)) => match x with | (ms, P1, b, r, cs, its) => okE (addI b r cs its 0 0 0)) (fun (x : Mp × (Pr) × (Int) × (Int) × (List (List Int)) × (List SI)) => match x with | (ms, P1, b, r, cs, its) => (WrP K c_Written b (valE (addI b r cs its 0 0 0)).1 (valE (addI b r cs its 0 0 0)).2)) c_InvalidSlips (fun (x : Mp × (Pr) × (Int) × (Int) × (List (List Int)) × (List SI)) => match x with | (ms, P1, b, r, cs, its) => ixE (addI b r cs its 0 0 0))
def spG_add_with (K : PySem.W.Frag) (c_Sheet : Addr) (c_Written : Addr) (c_InvalidSlips : Addr) : Sp := spTG (α := Mp × (Pr) × (Int) × (Int) × (List (List Int)) × (List SI)) (fun (x : Mp × (Pr) × (Int) × (Int) × (List (List Int)) × (List SI)) => match x with | (ms, P1, b, r, cs, its) => [P1, (Lq K (its.map (siP K)))]) (fun (x : Mp × (Pr) × (Int) × (Int) × (List (List Int)) × (List SI)) => match x with | (ms, P1, b, r, cs, its) => ms) (fun (x : Mp × (Pr) × (Int) × (Int) × (List (List Int)) × (List SI)) => match x with | (ms, P1, b, r, cs, its) => (SR K c_Sheet P1 ms b r cs) ∧ (GoodSh b r cs ∧ its.length ≤ 900 ∧ (∀ d ∈ its, SIok d))) (fun (x : Mp × (Pr) × (Int) × (Int) × (List (List Int)) × (List SI)) => match x with | (ms, P1, b, r, cs, its) => okE (addI b r cs its 0 0 0)) (fun (x : Mp × (Pr) × (Int) × (Int) × (List (List Int)) × (List SI)) => match x with | (ms, P1, b, r, cs, its) => (WrP K c_Written b (valE (addI b r cs its 0 0 0)).1 (valE (addI b r cs its 0 0 0)).2))
theorem ok_add_with (T : Txt P K mg) : FnOk P w K mg base (L2.CX P w) 5 T.a_add_with T.fd_add_with ["sheet", "slips"] (sp_add_with K T.c_Sheet T.c_Written T.c_InvalidSlips) := by
  refine fn_YX T.F_add_with sc_add_with (fun _ => rfl) fun cdv A outer s H E hr => ⟨_, (pss_cons (ps_set (i := 2) sc_add_with.nd rfl (Or.inl rfl) (pe_prop (pv 0) T.cl_Sheet T.p_Sheet_base (ok_Sheet_base T) (hr.mono (by decide)) T.b_Sheet_base .nil pass0 rfl)) (pss_cons (ps_set (i := 3) sc_add_with.nd rfl (Or.inl rfl) (pe_prop (pv 0) T.cl_Sheet T.p_Sheet_columns (ok_Sheet_columns T) (hr.mono (by decide)) T.b_Sheet_columns .nil pass0 rfl)) (pss_cons (ps_set (i := 4) sc_add_with.nd rfl (Or.inl rfl) (pe_lst pa_nil)) (pss_cons (ps_set (i := 5) sc_add_with.nd rfl (Or.inl rfl) (pe_int)) (pss_cons (ps_set (i := 6) sc_add_with.nd rfl (Or.inl rfl) (pe_int)) (pss_cons (ps_for (passes_of rfl) rfl (pi_enum (by rfl) T.n_enumerate (pa_cons (pv 1) pa_nil)) (pg_tup (by rfl) (pgs_cons (pg_name (i := 7) sc_add_with.nd rfl (Or.inl rfl)) (pgs_cons (pg_name (i := 8) sc_add_with.nd rfl (Or.inl rfl)) pgs_nil))) (pss_cons (ps_if (pt_not (pt_val (pe_call (ok_is_slip T) (hr.mono (by decide)) (by rfl) T.m_is_slip T.F_is_slip.kp T.b_is_slip .nil pass0 (pa_cons (pv 0) (pa_cons (pv 6) (pa_cons (pv 8) pa_nil)))))) (pss_one (ps_raiseI rfl (takes_of rfl rfl rfl rfl) T.sx_InvalidSlips (ok_InvalidSlips___init__ T) (hr.mono (by decide)) (by rfl) T.m_InvalidSlips (pa_cons (pv 7) pa_nil))) (pss_nil)) (pss_cons (ps_asg (pv 8) (pg_tup (by rfl) (pgs_cons (pg_name (i := 10) sc_add_with.nd rfl (Or.inl rfl)) (pgs_cons (pg_name (i := 11) sc_add_with.nd rfl (Or.inl rfl)) pgs_nil)))) (pss_cons (ps_asg (pe_call (ok_do_columns T) (hr.mono (by decide)) (by rfl) T.m_do_columns T.F_do_columns.kp T.b_do_columns .nil pass0 (pa_cons (pv 2) (pa_cons (pe_slice (k_slL (K := K) rfl) (pv 3) (po_some (pv 6)) (po_some (pv 10))) (pa_cons (pv 5) pa_nil)))) (pg_tup (by rfl) (pgs_cons (pg_name (i := 9) sc_add_with.nd rfl (Or.inl rfl)) (pgs_cons (pg_name (i := 5) sc_add_with.nd rfl (Or.inl rfl)) pgs_nil)))) (pss_cons (ps_set (i := 12) sc_add_with.nd rfl (Or.inl rfl) (pe_call (ok_do_slip T) (hr.mono (by decide)) (by rfl) T.m_do_slip T.F_do_slip.kp T.b_do_slip .nil pass0 (pa_cons (pv 2) (pa_cons (pv 3) (pa_cons (pv 10) (pa_cons (pv 5) (pa_cons (pv 11) pa_nil))))))) (pss_cons (ps_if (pt_cmp (pc_isN (pv 12)) rfl) (pss_one (ps_raiseI rfl (takes_of rfl rfl rfl rfl) T.sx_InvalidSlips (ok_InvalidSlips___init__ T) (hr.mono (by decide)) (by rfl) T.m_InvalidSlips (pa_cons (pv 7) pa_nil))) (pss_nil)) (pss_cons (ps_asg (pv 12) (pg_tup (by rfl) (pgs_cons (pg_name (i := 13) sc_add_with.nd rfl (Or.inl rfl)) (pgs_cons (pg_name (i := 5) sc_add_with.nd rfl (Or.inl rfl)) (pgs_cons (pg_name (i := 6) sc_add_with.nd rfl (Or.inl rfl)) pgs_nil))))) (pss_one (ps_set (i := 4) sc_add_with.nd rfl (Or.inl rfl) (pe_op (k_cat (K := K) rfl) (pe_op (k_cat (K := K) rfl) (pv 4) (pv 9)) (pv 13))))))))))) (pss_cons (ps_asg (pe_call (ok_do_columns T) (hr.mono (by decide)) (by rfl) T.m_do_columns T.F_do_columns.kp T.b_do_columns .nil pass0 (pa_cons (pv 2) (pa_cons (pe_slice (k_slL (K := K) rfl) (pv 3) (po_some (pv 6)) po_none) (pa_cons (pv 5) pa_nil)))) (pg_tup (by rfl) (pgs_cons (pg_name (i := 9) sc_add_with.nd rfl (Or.inl rfl)) (pgs_cons (pg_name (i := 5) sc_add_with.nd rfl (Or.inl rfl)) pgs_nil)))) (pss_one (ps_ret (pe_make T.k_Written (ok_Written___init__ T) (hr.mono (by decide)) (by rfl) T.m_Written T.b_Written___init__ .nil pass0 (pa_cons (pv 2) (pa_cons (pe_op (k_cat (K := K) rfl) (pv 4) (pv 9)) (pa_cons (pv 5) pa_nil))))))))))))), ?_⟩
  rintro ⟨ms, P1, b, r, cs, its⟩ hp
  replace hp : (SR K T.c_Sheet P1 ms b r cs) ∧ (GoodSh b r cs ∧ its.length ≤ 900 ∧ (∀ d ∈ its, SIok d)) := hp
  obtain ⟨hS, hp⟩ := hp
  show S1 E _ [some (P1), some ((Lq K (its.map (siP K)))), none, none, none, none, none, none, none, none, none, none, none, none] ms { nx := fun _ μ => BackY (fun x Q μ => (fun (x : Mp × (Pr) × (Int) × (Int) × (List (List Int)) × (List SI)) => match x with | (ms, P1, b, r, cs, its) => okE (addI b r cs its 0 0 0)) x = true ∧ Q = (fun (x : Mp × (Pr) × (Int) × (Int) × (List (List Int)) × (List SI)) => match x with | (ms, P1, b, r, cs, its) => (WrP K T.c_Written b (valE (addI b r cs its 0 0 0)).1 (valE (addI b r cs its 0 0 0)).2)) x ∧ μ = (fun (x : Mp × (Pr) × (Int) × (Int) × (List (List Int)) × (List SI)) => match x with | (ms, P1, b, r, cs, its) => ms) x) (ms, P1, b, r, cs, its) (D K .none) μ, rt := BackY (fun x Q μ => (fun (x : Mp × (Pr) × (Int) × (Int) × (List (List Int)) × (List SI)) => match x with | (ms, P1, b, r, cs, its) => okE (addI b r cs its 0 0 0)) x = true ∧ Q = (fun (x : Mp × (Pr) × (Int) × (Int) × (List (List Int)) × (List SI)) => match x with | (ms, P1, b, r, cs, its) => (WrP K T.c_Written b (valE (addI b r cs its 0 0 0)).1 (valE (addI b r cs its 0 0 0)).2)) x ∧ μ = (fun (x : Mp × (Pr) × (Int) × (Int) × (List (List Int)) × (List SI)) => match x with | (ms, P1, b, r, cs, its) => ms) x) (ms, P1, b, r, cs, its), ex := BackX (fun x => fun cl d μ => (fun (x : Mp × (Pr) × (Int) × (Int) × (List (List Int)) × (List SI)) => match x with | (ms, P1, b, r, cs, its) => okE (addI b r cs its 0 0 0)) x = false ∧ ErI T.c_InvalidSlips ((fun (x : Mp × (Pr) × (Int) × (Int) × (List (List Int)) × (List SI)) => match x with | (ms, P1, b, r, cs, its) => ixE (addI b r cs its 0 0 0)) x) ((fun (x : Mp × (Pr) × (Int) × (Int) × (List (List Int)) × (List SI)) => match x with | (ms, P1, b, r, cs, its) => ms) x) cl d μ) (ms, P1, b, r, cs, its) }
  try simp only [cx_K, cx_KX]
  obtain ⟨g, hsl, hit⟩ := hp
  have hb : 2 ≤ b ∧ b ≤ 12 := ⟨g.b2, g.b12⟩
  have hlen := g.len
  generalize hW : addI b r cs its 0 0 0 = W
  have hwl : ∀ f, W = .ok f → f.1.length ≤ 20000 := fun f h => by
    rw [h] at hW
    have := addI_len (Nat.zero_le _) hW
    omega
  walk_at "let"
  walk_at "let"
  refine s_let (Q := D K (.list (([] : List Int).map .int))) (μ1 := ms) (EO.frz (o_lst (K := K) d_nil (by decide))) ?_
  walk_at "let"
  walk_at "let"
  refine s_seq (N := fun δ μ => ms = μ ∧ ∃ (F : List Int) (c : Int) (lo : Nat), Le δ [some P1, some (Lq K (its.map (siP K))), some (D K (.int b)), some (D K (.list (cs.map colD))), some (D K (.list (F.map .int))), some (D K (.int c)), some (D K (.int (lo : Int))), none, none, none, none, none, none, none] ∧ lo ≤ cs.length ∧ F.length ≤ 2 * lo ∧ W = preE F (addI b r cs [] its.length lo c)) ?_ ?_
  · refine s_for (fun i δ μ => ms = μ ∧ ∃ (F : List Int) (c : Int) (lo : Nat), Le δ [some P1, some (Lq K (its.map (siP K))), some (D K (.int b)), some (D K (.list (cs.map colD))), some (D K (.list (F.map .int))), some (D K (.int c)), some (D K (.int (lo : Int))), none, none, none, none, none, none, none] ∧ lo ≤ cs.length ∧ F.length ≤ 2 * lo ∧ W = preE F (addI b r cs (its.drop i) i lo c)) (i_enumQ (K := K) (Ps := its.map (siP K)) (e_var rfl)) ?_ ?_ ?_
    · exact ⟨rfl, [], 0, 0, by walk_at "le", Nat.zero_le _, Nat.zero_le _, by rw [List.drop_zero, hW, preE_nil]⟩
    · rintro i δ' _ hi ⟨rfl, F, c, lo, hle, hlo, hFl, hf⟩
      rw [List.length_map] at hi
      have hx : its[i]? = some its[i] := List.getElem?_eq_getElem hi
      have hok : SIok its[i] := hit _ (List.getElem_mem hi)
      rw [List.drop_eq_getElem_cons hi] at hf
      have hX : ((its.map (siP K))[i]?).getD (D K .none) = siP K its[i] := by rw [List.getElem?_map, hx]; rfl
      generalize its[i] = z at hx hok hf hX
      refine ⟨_, [7, 8], G1.le (by rw [hX]; exact g_tupP (vs := [7, 8]) (g_cons (g_name (by simp)) (g_cons (g_name (by simp)) g_nil)) rfl) hle, ?_⟩
      have hi1 : i < 1000 := by omega
      refine s_ifr (a := !(slipI b r cs.length lo z)) (μ1 := ms) (t_not (t_B (K := K) (by exact e_is_slip (by walk_at "ea") hS ⟨g, hok⟩))) (fun h => ?_) (fun h => ?_)
      · have h : slipI b r cs.length lo z = false := by simpa using h
        rw [addI_slipI z h] at hf
        refine s_raiseI (μ1 := ms) (i := (i : Int)) (by walk_at "ea") (by omega) (by omega) fun dd => ?_
        exact ⟨(dd, XI (ixE (addI b r cs its 0 0 0))) :: ms, ⟨by show okE (addI b r cs its 0 0 0) = false; rw [hW, hf]; rfl, dd, rfl, rfl, rfl⟩, by rw [hW, hf]; exact List.Sublist.refl _⟩
      have h : slipI b r cs.length lo z = true := by simpa using h
      cases z with
      | odd a => cases h
      | d d =>
      obtain ⟨a, x, rfl, ha1, ha2, hxm⟩ := isSlip_iff.mp h
      replace hle : True := trivial
      simp only [List.set_cons_succ, List.set_cons_zero]
      show S1 E _ [some P1, some (Lq K (its.map (siP K))), some (D K (.int b)), some (D K (.list (cs.map colD))), some (D K (.list (F.map .int))), some (D K (.int c)), some (D K (.int (lo : Int))), some (D K (.int (i : Int))), some (D K (slipD (a, x))), none, none, none, none, none] ms _
      have hsl2 := slipOf_eq ⟨ha1, ha2, hxm⟩
      have hi0 : 0 ≤ a := by omega
      refine s_unp2 (K := K) (μ1 := ms) (d := .int a) (e := deedD x) (by walk_at "ev") ?_
      have hl3 : ((cs.take a.toNat).drop ((lo : Int)).toNat).length ≤ 10000 := by simp; omega
      have hlo0 : (0 : Int) ≤ (lo : Int) := by omega
      refine s_unp2 (K := K) (μ1 := ms) (d := .list ((doCols b ((cs.take a.toNat).drop lo) c).1.map .int)) (e := .int (doCols b ((cs.take a.toNat).drop lo) c).2) (by exact e_do_columns (cs := (cs.take a.toNat).drop ((lo : Int)).toNat) (by walk_at "ea") ⟨hb, hl3⟩) ?_
      have hdc : (doCols b ((cs.take a.toNat).drop lo) c).1.length = a.toNat - lo := by rw [doCols_len]; simp; omega
      refine s_let (Q := D K (slipR a (doSlip b cs a.toNat (doCols b ((cs.take a.toNat).drop lo) c).2 x) x)) (μ1 := ms) (by exact e_do_slip (r := r) (by walk_at "ea") ⟨g, hxm, hi0, ha2⟩) ?_
      cases hw2 : doSlip b cs a.toNat (doCols b ((cs.take a.toNat).drop lo) c).2 x with
      | none =>
        rw [addI_not hsl2 hw2] at hf
        refine s_ifr (a := true) (μ1 := ms) (t_B (K := K) (e_isN (d := .none) (e_var rfl))) (fun _ => ?_) (fun h => by cases h)
        refine s_raiseI (μ1 := ms) (i := (i : Int)) (by walk_at "ea") (by omega) (by omega) fun dd => ?_
        exact ⟨(dd, XI (ixE (addI b r cs its 0 0 0))) :: ms, ⟨by show okE (addI b r cs its 0 0 0) = false; rw [hW, hf]; rfl, dd, rfl, rfl, rfl⟩, by rw [hW, hf]; exact List.Sublist.refl _⟩
      | some w2 =>
      rw [addI_cons hsl2 hw2, preE_preE] at hf
      have hw2l := doSlip_len hw2
      have hlo2 := addV_lo (r := r) ⟨ha1, ha2⟩ hw2
      refine s_ifr (a := false) (μ1 := ms) (t_B (K := K) (e_isN (d := slipR a (some w2) x) (e_var rfl))) (fun h => by cases h) (fun _ => ?_)
      refine s_unp3 (K := K) (μ1 := ms) (d := .list (w2.1.map .int)) (e := .int w2.2) (d3 := .int (if x = .swap then a + 2 else a + 1)) (by walk_at "ev") ?_
      have hq : (((if x = .swap then a.toNat + 2 else a.toNat + 1 : Nat)) : Int) = if x = .swap then a + 2 else a + 1 := by
        by_cases h : x = .swap
        · rw [if_pos h, if_pos h]
          omega
        · rw [if_neg h, if_neg h]
          omega
      rw [← hq]
      have hq2 : a.toNat + 1 ≤ (if x = .swap then a.toNat + 2 else a.toNat + 1) := by split <;> omega
      refine s_set (Q := D K (.list ((F ++ (doCols b ((cs.take a.toNat).drop lo) c).1 ++ w2.1).map .int))) (μ1 := ms) (EO.frz (o_catM (EO.frz (o_catM (by walk_at "ev") (by walk_at "ev") lr_D lr_D (by omega))) (by walk_at "ev") lr_D lr_D (by simp only [List.length_append]; omega))) ⟨rfl, F ++ (doCols b ((cs.take a.toNat).drop lo) c).1 ++ w2.1, w2.2, _, ?_, hlo2, ?_, ?_⟩
      · walk_at "le"
      · simp only [List.length_append]
        omega
      · rw [hf, List.append_assoc]
    · rintro δ' _ ⟨rfl, F, c, lo, hle, hlo, hFl, hf⟩
      rw [List.length_map, List.drop_length] at hf
      exact ⟨rfl, F, c, lo, hle, hlo, hFl, hf⟩
  · rintro δ' _ ⟨rfl, F, c, lo, hle, hlo, hFl, hf⟩
    refine S1.le ?_ hle
    have hl3 : (cs.drop ((lo : Int)).toNat).length ≤ 10000 := by simp; omega
    have hlo0 : (0 : Int) ≤ (lo : Int) := by omega
    refine s_unp2 (K := K) (μ1 := ms) (d := .list ((doCols b (cs.drop lo) c).1.map .int)) (e := .int (doCols b (cs.drop lo) c).2) (by exact e_do_columns (cs := cs.drop ((lo : Int)).toNat) (by walk_at "ea") ⟨hb, hl3⟩) ?_
    have hdl : (doCols b (cs.drop lo) c).1.length = cs.length - lo := by rw [doCols_len, List.length_drop]
    refine s_ret (Q := WrP K T.c_Written b (valE W).1 (valE W).2) (μ1 := ms) ?_ (back_T (by show okE (addI b r cs its 0 0 0) = true; rw [hW, hf]; rfl) (by rw [← hW]; exact Imp.refl _) (List.Sublist.refl _))
    rw [hf]
    exact e_mkWr (by walk_at "ev") (EO.frz (o_catM (by walk_at "ev") (by walk_at "ev") lr_D lr_D (by omega))) (by walk_at "ev") lr_D
theorem okG_add_with (T : Txt P K mg) : FnOk P w K mg base (L2.CX P w) 5 T.a_add_with T.fd_add_with ["sheet", "slips"] (spG_add_with K T.c_Sheet T.c_Written T.c_InvalidSlips) := spTI_calm (ok_add_with T)
theorem e_add_with {c_Sheet : Addr} {c_Written : Addr} {c_InvalidSlips : Addr} {δ : En} {μ μ2 : Mp} {E : XK} {P1 : Pr} {b : Int} {r : Int} {cs : List (List Int)} {its : List SI} {tA : TA} (h : EA tA δ μ [P1, (Lq K (its.map (siP K)))] μ2) (hS : SR K c_Sheet P1 μ2 b r cs) (hp : GoodSh b r cs ∧ its.length ≤ 900 ∧ (∀ d ∈ its, SIok d))  (hk : (okE (addI b r cs its 0 0 0)) = true) : E1 (tCall (spG_add_with K c_Sheet c_Written c_InvalidSlips) [] E tA) δ μ ((WrP K c_Written b (valE (addI b r cs its 0 0 0)).1 (valE (addI b r cs its 0 0 0)).2)) μ2 := e_callG (α := Mp × (Pr) × (Int) × (Int) × (List (List Int)) × (List SI)) (A := (fun (x : Mp × (Pr) × (Int) × (Int) × (List (List Int)) × (List SI)) => match x with | (ms, P1, b, r, cs, its) => [P1, (Lq K (its.map (siP K)))])) (m := (fun (x : Mp × (Pr) × (Int) × (Int) × (List (List Int)) × (List SI)) => match x with | (ms, P1, b, r, cs, its) => ms)) (pre := (fun (x : Mp × (Pr) × (Int) × (Int) × (List (List Int)) × (List SI)) => match x with | (ms, P1, b, r, cs, its) => (SR K c_Sheet P1 ms b r cs) ∧ (GoodSh b r cs ∧ its.length ≤ 900 ∧ (∀ d ∈ its, SIok d)))) (ok := (fun (x : Mp × (Pr) × (Int) × (Int) × (List (List Int)) × (List SI)) => match x with | (ms, P1, b, r, cs, its) => okE (addI b r cs its 0 0 0))) (B := (fun (x : Mp × (Pr) × (Int) × (Int) × (List (List Int)) × (List SI)) => match x with | (ms, P1, b, r, cs, its) => (WrP K c_Written b (valE (addI b r cs its 0 0 0)).1 (valE (addI b r cs its 0 0 0)).2))) (μ2, P1, b, r, cs, its) h ⟨hS, hp⟩ hk
theorem eS_add_with {c_Sheet : Addr} {c_Written : Addr} {c_InvalidSlips : Addr} {δ : En} {μ μ2 : Mp} {EE : L2.St → XK} {P1 : Pr} {b : Int} {r : Int} {cs : List (List Int)} {its : List SI} {tA : TA} (h : EA tA δ μ [P1, (Lq K (its.map (siP K)))] μ2) (hS : SR K c_Sheet P1 μ2 b r cs) (hp : GoodSh b r cs ∧ its.length ≤ 900 ∧ (∀ d ∈ its, SIok d))  (hk : (okE (addI b r cs its 0 0 0)) = true) : E1 (tCallS (sp_add_with K c_Sheet c_Written c_InvalidSlips) EE tA) δ μ ((WrP K c_Written b (valE (addI b r cs its 0 0 0)).1 (valE (addI b r cs its 0 0 0)).2)) μ2 := e_callTI (α := Mp × (Pr) × (Int) × (Int) × (List (List Int)) × (List SI)) (A := (fun (x : Mp × (Pr) × (Int) × (Int) × (List (List Int)) × (List SI)) => match x with | (ms, P1, b, r, cs, its) => [P1, (Lq K (its.map (siP K)))])) (m := (fun (x : Mp × (Pr) × (Int) × (Int) × (List (List Int)) × (List SI)) => match x with | (ms, P1, b, r, cs, its) => ms)) (pre := (fun (x : Mp × (Pr) × (Int) × (Int) × (List (List Int)) × (List SI)) => match x with | (ms, P1, b, r, cs, its) => (SR K c_Sheet P1 ms b r cs) ∧ (GoodSh b r cs ∧ its.length ≤ 900 ∧ (∀ d ∈ its, SIok d)))) (ok := (fun (x : Mp × (Pr) × (Int) × (Int) × (List (List Int)) × (List SI)) => match x with | (ms, P1, b, r, cs, its) => okE (addI b r cs its 0 0 0))) (B := (fun (x : Mp × (Pr) × (Int) × (Int) × (List (List Int)) × (List SI)) => match x with | (ms, P1, b, r, cs, its) => (WrP K c_Written b (valE (addI b r cs its 0 0 0)).1 (valE (addI b r cs its 0 0 0)).2))) (μ2, P1, b, r, cs, its) (ix := (fun (x : Mp × (Pr) × (Int) × (Int) × (List (List Int)) × (List SI)) => match x with | (ms, P1, b, r, cs, its) => ixE (addI b r cs its 0 0 0))) h ⟨hS, hp⟩ hk
theorem es_add_with {c_Sheet : Addr} {c_Written : Addr} {c_InvalidSlips : Addr} {δ : En} {μ μ2 : Mp} {EE : L2.St → XK} {P1 : Pr} {b : Int} {r : Int} {cs : List (List Int)} {its : List SI} {tA : TA} (h : EA tA δ μ [P1, (Lq K (its.map (siP K)))] μ2) (hS : SR K c_Sheet P1 μ2 b r cs) (hp : GoodSh b r cs ∧ its.length ≤ 900 ∧ (∀ d ∈ its, SIok d))  (hk : (okE (addI b r cs its 0 0 0)) = false) : ES EE (tCallS (sp_add_with K c_Sheet c_Written c_InvalidSlips) EE tA) δ μ (ErI c_InvalidSlips (ixE (addI b r cs its 0 0 0)) μ2) := es_callTI (α := Mp × (Pr) × (Int) × (Int) × (List (List Int)) × (List SI)) (A := (fun (x : Mp × (Pr) × (Int) × (Int) × (List (List Int)) × (List SI)) => match x with | (ms, P1, b, r, cs, its) => [P1, (Lq K (its.map (siP K)))])) (m := (fun (x : Mp × (Pr) × (Int) × (Int) × (List (List Int)) × (List SI)) => match x with | (ms, P1, b, r, cs, its) => ms)) (pre := (fun (x : Mp × (Pr) × (Int) × (Int) × (List (List Int)) × (List SI)) => match x with | (ms, P1, b, r, cs, its) => (SR K c_Sheet P1 ms b r cs) ∧ (GoodSh b r cs ∧ its.length ≤ 900 ∧ (∀ d ∈ its, SIok d)))) (ok := (fun (x : Mp × (Pr) × (Int) × (Int) × (List (List Int)) × (List SI)) => match x with | (ms, P1, b, r, cs, its) => okE (addI b r cs its 0 0 0))) (B := (fun (x : Mp × (Pr) × (Int) × (Int) × (List (List Int)) × (List SI)) => match x with | (ms, P1, b, r, cs, its) => (WrP K c_Written b (valE (addI b r cs its 0 0 0)).1 (valE (addI b r cs its 0 0 0)).2))) (μ2, P1, b, r, cs, its) (ix := (fun (x : Mp × (Pr) × (Int) × (Int) × (List (List Int)) × (List SI)) => match x with | (ms, P1, b, r, cs, its) => ixE (addI b r cs its 0 0 0))) h ⟨hS, hp⟩ hk
local macro_rules | `(tactic| walk_at "call") => `(tactic| first | ((with_reducible apply e_add_with); (· walk_at "ea"); (· walk_at "sr"); (· walk_at "sd"); (· walk_at "sd")) | ((with_reducible apply eS_add_with); (· walk_at "ea"); (· walk_at "sr"); (· walk_at "sd"); (· walk_at "sd")))
local macro_rules | `(tactic| walk_at "es") => `(tactic| ((with_reducible apply es_add_with); (· walk_at "ea"); (· walk_at "sr"); (· walk_at "sd"); (· walk_at "sd")))
def sp__law_refused (K : PySem.W.Frag) (c_Sheet : Addr) (c_Written : Addr) (c_InvalidSlips : Addr) : Sp := sp (α := Mp × (Pr) × (Int) × (Int) × (List (List Int)) × (List SI)) (fun (x : Mp × (Pr) × (Int) × (Int) × (List (List Int)) × (List SI)) => match x with | (ms, P1, b, r, cs, its) => [P1, (Lq K (its.map (siP K)))]) (fun (x : Mp × (Pr) × (Int) × (Int) × (List (List Int)) × (List SI)) => match x with | (ms, P1, b, r, cs, its) => ms) (fun (x : Mp × (Pr) × (Int) × (Int) × (List (List Int)) × (List SI)) => match x with | (ms, P1, b, r, cs, its) => (SR K c_Sheet P1 ms b r cs) ∧ (GoodSh b r cs ∧ its.length ≤ 900 ∧ (∀ d ∈ its, SIok d))) (fun x Q μ => Q = (fun (x : Mp × (Pr) × (Int) × (Int) × (List (List Int)) × (List SI)) => match x with | (ms, P1, b, r, cs, its) => D K (.list (refE (addI b r cs its 0 0 0)))) x ∧ μ = (fun (x : Mp × (Pr) × (Int) × (Int) × (List (List Int)) × (List SI)) => match x with | (ms, P1, b, r, cs, its) => ms) x)
theorem ok__law_refused (T : Txt P K mg) : FnOk P w K mg base CX0 6 T.a__law_refused T.fd__law_refused ["sheet", "slips"] (sp__law_refused K T.c_Sheet T.c_Written T.c_InvalidSlips) := by
  refine fn_Y T.F__law_refused sc__law_refused (fun _ => rfl) fun cdv A outer s H E hr => ⟨_, (pss_cons (ps_set (i := 2) sc__law_refused.nd rfl (Or.inl rfl) (pe_lst pa_nil)) (pss_cons (ps_try_as (i := 3) rfl rfl sc__law_refused.nd rfl rfl ⟨by rfl, by decide, .inl T.m_InvalidSlips⟩ takes0 (fun W pn xe tk _ => pss_one (ps_expr (pe_callS (ok_add_with T) (hr.mono (by decide)) (by rfl) T.m_add_with T.F_add_with.kp T.b_add_with (fun σ => passAt tk σ) (pa_cons (pv 0) (pa_cons (pv 1) pa_nil))))) (fun a oe cls d pn hz hf => pss_cons (ps_set (i := 4) sc__law_refused.nd rfl (Or.inl rfl) (pe_callB (k_isCTd (K := K) rfl hz hf) (by rfl) T.n_isinstance (by decide +kernel) (pa_cons (pv 3) (pa_cons (pe_tup (pa_cons (pe_glob (v := .ref T.c_InvalidSheet) (by rfl) T.m_InvalidSheet rfl) (pa_cons (pe_glob (v := .ref T.c_InvalidCommand) (by rfl) T.m_InvalidCommand rfl) (pa_cons (pe_glob (v := .ref T.c_InvalidKind) (by rfl) T.m_InvalidKind rfl) (pa_cons (pe_glob (v := .ref T.c_InvalidLot) (by rfl) T.m_InvalidLot rfl) (pa_cons (pe_glob (v := .ref T.c_InvalidColumn) (by rfl) T.m_InvalidColumn rfl) (pa_cons (pe_glob (v := .ref T.c_InvalidText) (by rfl) T.m_InvalidText rfl) pa_nil))))))) pa_nil)))) (pss_cons (ps_set (i := 4) sc__law_refused.nd rfl (Or.inl rfl) (pe_or (pv 4) (pe_one (pe_callB (k_isCTd (K := K) rfl hz hf) (by rfl) T.n_isinstance (by decide +kernel) (pa_cons (pv 3) (pa_cons (pe_tup (pa_cons (pe_glob (v := .ref T.c_NotAlike) (by rfl) T.m_NotAlike rfl) (pa_cons (pe_glob (v := .ref T.c_NotPossible) (by rfl) T.m_NotPossible rfl) (pa_cons (pe_glob (v := .ref T.c_NotReady) (by rfl) T.m_NotReady rfl) (pa_cons (pe_glob (v := .ref T.c_NothingToUndo) (by rfl) T.m_NothingToUndo rfl) (pa_cons (pe_glob (v := .ref T.c_TooMany) (by rfl) T.m_TooMany rfl) (pa_cons (pe_glob (v := .ref T.c_Waits) (by rfl) T.m_Waits rfl) pa_nil))))))) pa_nil)))))) (pss_one (ps_set (i := 2) sc__law_refused.nd rfl (Or.inl rfl) (pe_lst (pa_cons (pe_and (pe_callB (k_isCd (K := K) rfl hz hf) (by rfl) T.n_isinstance (by decide +kernel) (pa_cons (pv 3) (pa_cons (pe_glob (v := .ref T.c_SlipError) (by rfl) T.m_SlipError rfl) pa_nil))) (pe_one (pe_callB (k_isCd (K := K) rfl hz hf) (by rfl) T.n_isinstance (by decide +kernel) (pa_cons (pv 3) (pa_cons (pe_bltn (v := .ty "ValueError") (by rfl) T.n_ValueError (by decide +kernel) rfl) pa_nil))))) (pa_cons (pv 4) (pa_cons (pe_xf T.e_InvalidSlips.xf T.sup_InvalidSlips.no hz hf (pv 3)) pa_nil))))))))) (pss_one (ps_ret (pv 2))))), ?_⟩
  rintro ⟨ms, P1, b, r, cs, its⟩ hp
  replace hp : (SR K T.c_Sheet P1 ms b r cs) ∧ (GoodSh b r cs ∧ its.length ≤ 900 ∧ (∀ d ∈ its, SIok d)) := hp
  obtain ⟨hS, hp⟩ := hp
  show S1 E _ [some (P1), some ((Lq K (its.map (siP K)))), none, none, none] ms { nx := fun _ μ => BackY (fun x Q μ => Q = (fun (x : Mp × (Pr) × (Int) × (Int) × (List (List Int)) × (List SI)) => match x with | (ms, P1, b, r, cs, its) => D K (.list (refE (addI b r cs its 0 0 0)))) x ∧ μ = (fun (x : Mp × (Pr) × (Int) × (Int) × (List (List Int)) × (List SI)) => match x with | (ms, P1, b, r, cs, its) => ms) x) (ms, P1, b, r, cs, its) (D K .none) μ, rt := BackY (fun x Q μ => Q = (fun (x : Mp × (Pr) × (Int) × (Int) × (List (List Int)) × (List SI)) => match x with | (ms, P1, b, r, cs, its) => D K (.list (refE (addI b r cs its 0 0 0)))) x ∧ μ = (fun (x : Mp × (Pr) × (Int) × (Int) × (List (List Int)) × (List SI)) => match x with | (ms, P1, b, r, cs, its) => ms) x) (ms, P1, b, r, cs, its) }
  try simp only [cx_K, cx_KX]
  refine s_let (Q := D K (.list [])) (μ1 := ms) (by walk_at "ev") ?_
  have hP : E1 (tVar 1) [some P1, some (Lq K (its.map (siP K))), some (D K (.list [])), none, none] ms (Lq K (its.map (siP K))) ms := e_var rfl
  cases hW : addI b r cs its 0 0 0 with
  | ok f =>
    have hk : okE (addI b r cs its 0 0 0) = true := by rw [hW]; rfl
    refine s_seq (N := fun δ μ => Le δ [none, none, some (D K (.list [])), none, none] ∧ μ = ms) (s_tryN (K := K) (i := 3) (c := .ref T.c_InvalidSlips) (tw := fun W => tDrop (tCallS (sp_add_with K T.c_Sheet T.c_Written T.c_InvalidSlips) (WE W) (tCons (tVar 0) (tCons (tVar 1) tNil)))) (fun W => ?_)) ?_
    · exact ss_drop (μ1 := ms) (eS_add_with (K := K) (EE := WE W) (c_Sheet := T.c_Sheet) (c_Written := T.c_Written) (c_InvalidSlips := T.c_InvalidSlips) (a_cons (e_var rfl) (a_cons hP a_nil)) hS hp hk) ⟨by walk_at "le", rfl⟩
    · rintro δ' μ'' ⟨hle, rfl⟩
      refine S1.le ?_ hle
      refine s_ret (P := _) (μ1 := μ'') (by walk_at "ev") (back_R (imp_D ?_) (List.Sublist.refl _))
      show _ = PyData.list (refE (addI b r cs its 0 0 0))
      rw [hW]
      rfl
  | error k =>
    have hk : okE (addI b r cs its 0 0 0) = false := by rw [hW]; rfl
    refine s_seq (N := fun δ μ => Le δ [none, none, some (D K (.list [.bool true, .bool false, .int k])), none, none] ∧ ms.Sublist μ) (s_tryEI (K := K) (i := 3) (c := .ref T.c_InvalidSlips) (tw := fun W => tDrop (tCallS (sp_add_with K T.c_Sheet T.c_Written T.c_InvalidSlips) (WE W) (tCons (tVar 0) (tCons (tVar 1) tNil)))) (C := T.c_InvalidSlips) (ix := k) (μ1 := ms) (fun W => ?_) T.em_InvalidSlips_InvalidSlips (fun a dd => ?_)) ?_
    · refine ss_dropR ?_
      have := es_add_with (K := K) (EE := WE W) (c_Sheet := T.c_Sheet) (c_Written := T.c_Written) (c_InvalidSlips := T.c_InvalidSlips) (tA := tCons (tVar 0) (tCons (tVar 1) tNil)) (a_cons (e_var rfl) (a_cons hP a_nil)) hS hp hk
      rw [hW] at this
      exact this
    · refine s_let (Q := D K (.bool false)) (μ1 := (dd, XI k) :: ms) (e_isCTd (K := K) T.e_InvalidSlips (e_var rfl) (cs := [.ref T.c_InvalidSheet, .ref T.c_InvalidCommand, .ref T.c_InvalidKind, .ref T.c_InvalidLot, .ref T.c_InvalidColumn, .ref T.c_InvalidText]) (fun _ _ _ q => q) (by show 6 ≤ 1000; decide) (cls_paired [_, _, _, _, _, _]) T.qa_InvalidSlips_1) ?_
      refine s_let (Q := D K (.bool false)) (μ1 := (dd, XI k) :: ms) (e_or (a := false) (b := false) (e_var rfl) fun _ => e_isCTd (K := K) T.e_InvalidSlips (e_var rfl) (cs := [.ref T.c_NotAlike, .ref T.c_NotPossible, .ref T.c_NotReady, .ref T.c_NothingToUndo, .ref T.c_TooMany, .ref T.c_Waits]) (fun _ _ _ q => q) (by show 6 ≤ 1000; decide) (cls_paired [_, _, _, _, _, _]) T.qa_InvalidSlips_2) ?_
      refine s_set (Q := D K (.list [.bool true, .bool false, .int k])) (μ1 := (dd, XI k) :: ms) (EO.frz (o_lst (K := K) (ds := [.bool true, .bool false, .int k]) (d_cons (e_and (a := true) (b := true) (e_isCd (K := K) T.e_InvalidSlips (e_var rfl) own_rel T.q_InvalidSlips_SlipError) fun _ => e_isCd (K := K) T.e_InvalidSlips (e_var rfl) ty_rel T.q_InvalidSlips_ValueError) (d_cons (e_var rfl) (d_cons (e_xf (e_var rfl)) d_nil))) (by show 3 ≤ 100000; decide))) ⟨by walk_at "le", List.sublist_cons_self _ _⟩
    · rintro δ' μ'' ⟨hle, hs⟩
      refine S1.le ?_ hle
      refine s_ret (P := _) (μ1 := μ'') (by walk_at "ev") (back_R (imp_D ?_) hs)
      show _ = PyData.list (refE (addI b r cs its 0 0 0))
      rw [hW]
      rfl
theorem e__law_refused {c_Sheet : Addr} {c_Written : Addr} {c_InvalidSlips : Addr} {tA : TA} {δ : En} {μ ms : Mp} {E : XK} {P1 : Pr} {b : Int} {r : Int} {cs : List (List Int)} {its : List SI} (h : EA tA δ μ [P1, (Lq K (its.map (siP K)))] ms) (hS : SR K c_Sheet P1 ms b r cs) (hp : GoodSh b r cs ∧ its.length ≤ 900 ∧ (∀ d ∈ its, SIok d)) : E1 (tCall (sp__law_refused K c_Sheet c_Written c_InvalidSlips) [] E tA) δ μ (D K (.list (refE (addI b r cs its 0 0 0)))) ms := e_callR (ms, P1, b, r, cs, its) (by simpa using h) ⟨hS, hp⟩
local macro_rules | `(tactic| walk_at "call") => `(tactic| ((with_reducible apply e__law_refused); (· walk_at "ea"); (· walk_at "sr"); (· walk_at "sd")))
def sp__law_slips (K : PySem.W.Frag)  : Sp := spD (α := (List Deed)) (fun (ds : (List Deed)) => [D K (.list (ds.map deedD))]) (fun (ds : (List Deed)) => ds.length ≤ 10000) (fun (ds : (List Deed)) => D K (.list ((slipsOf ds).map slipD)))
theorem ok__law_slips (T : Txt P K mg) : FnOk P w K mg base CX0 1 T.a__law_slips T.fd__law_slips ["deeds"] (sp__law_slips K ) := by
  refine fn_Y T.F__law_slips sc__law_slips (fun _ => rfl) fun cdv A outer s H E hr => ⟨_, (pss_one (ps_ret (pe_lc (own := [("i", 1)]) (g := gName 1) rfl sc__law_slips.nd (pi_range1 (by rfl) T.n_range (pa_cons (pe_callB (k_len (K := K) rfl) (by rfl) T.n_len (by decide +kernel) (pa_cons (pv 0) pa_nil)) pa_nil)) (blkOk_by (N := ["deeds", "i"]) (sc := defScope s__law_slips) (by decide +kernel)) (fun _ _ _ _ _ => pg_name (i := 1) sc__law_slips.nd rfl (Or.inl rfl)) (fun _ _ _ _ _ => pts_one (pt_cmpR (k_neD (K := K) rfl hr.units) (pe_ix (k_ixL (K := K) rfl) (pv 0) (pv 1) (fun _ _ => rfl)) (pe_tup (pa_cons (pe_str) pa_nil)) (nomark _))) (fun _ _ _ _ _ => pe_tup (pa_cons (pv 1) (pa_cons (pe_ix (k_ixL (K := K) rfl) (pv 0) (pv 1) (fun _ _ => rfl)) pa_nil)))))), ?_⟩
  rintro ds hp
  replace hp : ds.length ≤ 10000 := hp
  show S1 E _ [some (D K (.list (ds.map deedD))), none] [] { nx := fun _ μ => BackY (fun x Q μ => Q = (fun (ds : (List Deed)) => D K (.list ((slipsOf ds).map slipD))) x ∧ μ = []) ds (D K .none) μ, rt := BackY (fun x Q μ => Q = (fun (ds : (List Deed)) => D K (.list ((slipsOf ds).map slipD))) x ∧ μ = []) ds }
  try simp only [cx_K, cx_KX]
  refine s_ret (Q := D K (.list ((slipsOf ds).map slipD))) (μ1 := []) ?_ (back_D (imp_D rfl))
  unfold slipsOf
  rw [List.map_map]
  refine EO.frz ?_
  have h2 : ((ds.map deedD).length : Int).toNat = ds.length := by simp
  rw [← h2]
  refine o_filtR (K := K) (out := slipD ∘ fun (i : Nat) => ((i : Int), dAt ds i)) (p := fun i => !decide (dAt ds i = .right)) (i := ((ds.map deedD).length : Int)) (by walk_at "ev") (by rw [List.length_map]; omega) (fun x hx => ?_) (fun x hx _ => ?_)
  · have hx2 : 0 ≤ (x : Int) ∧ (x : Int) < ds.length := by omega
    refine t_test (K := K) (e_neD (K := K) (d := deedD (dAt ds x)) (e := deedD .right) (by exact e_ixLD (by walk_at "ev") (by walk_at "ev") lr_D hx2) (e_tup (d_cons e_cS d_nil) (by decide)) dr_D dr_D (sh_deed (n := 0) _).ok (sh_deed (n := 0) _).ok (eqv_deed _ _))
  · have hx2 : 0 ≤ (x : Int) ∧ (x : Int) < ds.length := by omega
    exact e_tup (d_cons (by walk_at "ev") (d_cons (by exact e_ixLD (by walk_at "ev") (by walk_at "ev") lr_D hx2) d_nil)) (by show 2 ≤ 1000; decide)
theorem e__law_slips  {δ : En} {μ μ' : Mp} {E : XK} {ds : List Deed} {tA : TA} (h : EA tA δ μ [D K (.list (ds.map deedD))] μ') (hp : ds.length ≤ 10000) : E1 (tCall (sp__law_slips K ) [] E tA) δ μ (D K (.list ((slipsOf ds).map slipD))) μ' := e_callD ds h hp
local macro_rules | `(tactic| walk_at "call") => `(tactic| ((with_reducible apply e__law_slips); (· walk_at "ea"); (· walk_at "sd")))
theorem ok_Written_base (T : Txt P K mg) : FnOk P w K mg base CX0 1 T.a_Written_base T.fd_Written_base ["self"] (spec (wrPre K T.c_Written) fun x M => isV (.int x.2.1) M) := by
  refine fn_sv T.F_Written_base sc_Written_base (fun x G M vs h => by obtain ⟨rfl, _⟩ := h; rfl) fun cdv A outer s H E hr => ⟨_, (pss_one (ps_ret (k_fld (K := K) rfl (pv 0) rfl))), ?_⟩
  rintro ⟨p, b, figs, last⟩ G M vs ⟨rfl, dx, l, xs, h1, h2, h3⟩
  exact sv_ret (ev_fld (ev_var rfl) (.G h1) T.cl_Written T.na_Written__base wrF_b) fun v' G' M' e r => r
theorem ok_Written_figures (T : Txt P K mg) : FnOk P w K mg base CX0 1 T.a_Written_figures T.fd_Written_figures ["self"] (spec (wrPre K T.c_Written) fun x M => own K (x.2.2.1.map .int) M) := by
  refine fn_sv T.F_Written_figures sc_Written_figures (fun x G M vs h => by obtain ⟨rfl, _⟩ := h; rfl) fun cdv A outer s H E hr => ⟨_, (pss_one (ps_ret (pe_callTy (k_list (K := K) rfl) (by rfl) T.n_list (by decide +kernel) (pa_cons (k_fld (K := K) rfl (pv 0) rfl) pa_nil)))), ?_⟩
  rintro ⟨p, b, figs, last⟩ G M vs ⟨rfl, dx, l, xs, h1, h2, h3⟩
  exact sv_ret (ev_listA (K := K) (ev_fld (ev_var rfl) (.G h1) T.cl_Written T.na_Written__figures wrF_f) (.G h2) h3) fun v' G' M' e r => r
theorem ok_Written_last (T : Txt P K mg) : FnOk P w K mg base CX0 1 T.a_Written_last T.fd_Written_last ["self"] (spec (wrPre K T.c_Written) fun x M => isV (.int x.2.2.2) M) := by
  refine fn_sv T.F_Written_last sc_Written_last (fun x G M vs h => by obtain ⟨rfl, _⟩ := h; rfl) fun cdv A outer s H E hr => ⟨_, (pss_one (ps_ret (k_fld (K := K) rfl (pv 0) rfl))), ?_⟩
  rintro ⟨p, b, figs, last⟩ G M vs ⟨rfl, dx, l, xs, h1, h2, h3⟩
  exact sv_ret (ev_fld (ev_var rfl) (.G h1) T.cl_Written T.na_Written__last wrF_l) fun v' G' M' e r => r
def sp__law_written_right (K : PySem.W.Frag) (c_Written : Addr) : Sp := spD (α := (Int) × (Int) × (List Int)) (fun (x : (Int) × (Int) × (List Int)) => match x with | (b, last, figs) => [(WrP K c_Written b figs last), D K (.int b), D K (.list (figs.map .int)), D K (.int last)]) (fun (x : (Int) × (Int) × (List Int)) => match x with | (b, last, figs) => figs.length ≤ 100000) (fun (x : (Int) × (Int) × (List Int)) => match x with | (b, last, figs) => D K (.bool true))
theorem ok__law_written_right (T : Txt P K mg) : FnOk P w K mg base CX0 4 T.a__law_written_right T.fd__law_written_right ["found", "base", "figures", "last"] (sp__law_written_right K T.c_Written) := by
  refine fn_Y T.F__law_written_right sc__law_written_right (fun _ => rfl) fun cdv A outer s H E hr => ⟨_, (pss_cons (ps_if (PW.pt (pw_or (pt_not (pt_val (pe_call (ok__law_is_integer T) (hr.mono (by decide)) (by rfl) T.m__law_is_integer T.F__law_is_integer.kp T.b__law_is_integer .nil pass0 (pa_cons (pe_prop (pv 0) T.cl_Written T.p_Written_base (ok_Written_base T) (hr.mono (by decide)) T.b_Written_base .nil pass0 rfl) pa_nil)))) (pw_or (pt_cmpR op_ne (pe_prop (pv 0) T.cl_Written T.p_Written_base (ok_Written_base T) (hr.mono (by decide)) T.b_Written_base .nil pass0 rfl) (pv 1) (nomark _)) (pw_or1 (pt_not (pt_val (pe_call (ok__law_is_integer T) (hr.mono (by decide)) (by rfl) T.m__law_is_integer T.F__law_is_integer.kp T.b__law_is_integer .nil pass0 (pa_cons (pe_prop (pv 0) T.cl_Written T.p_Written_last (ok_Written_last T) (hr.mono (by decide)) T.b_Written_last .nil pass0 rfl) pa_nil)))))))) (pss_one (ps_ret (pe_bl))) (pss_nil)) (pss_cons (ps_set (i := 4) sc__law_written_right.nd rfl (Or.inl rfl) (pe_prop (pv 0) T.cl_Written T.p_Written_figures (ok_Written_figures T) (hr.mono (by decide)) T.b_Written_figures .nil pass0 rfl)) (pss_cons (ps_if (PW.pt (pw_or (pt_not (pt_val (pe_callB (k_isi (K := K) rfl) (by rfl) T.n_isinstance (by decide +kernel) (pa_cons (pv 4) (pa_cons (pe_bltn (v := .ty "list") (by rfl) T.n_list (by decide +kernel) rfl) pa_nil))))) (pw_or1 (pt_not (pt_val (pe_callB (k_all (K := K) rfl rfl) (by rfl) T.n_all (by decide +kernel) (pa_cons (pe_lc (own := [("figure", 5)]) (g := gName 5) (tt := tYes) rfl sc__law_written_right.nd (pi_list (pv 4)) (blkOk_by (N := ["found", "base", "figures", "last", "told", "figure"]) (sc := defScope s__law_written_right) (by decide +kernel)) (fun _ _ _ _ _ => pg_name (i := 5) sc__law_written_right.nd rfl (Or.inl rfl)) (fun _ _ _ _ _ => pts_nil) (fun _ _ _ _ _ => pe_call (ok__law_is_integer T) (hr.mono (by decide)) (by rfl) T.m__law_is_integer T.F__law_is_integer.kp T.b__law_is_integer .nil pass0 (pa_cons (pv 5) pa_nil))) pa_nil))))))) (pss_one (ps_ret (pe_bl))) (pss_nil)) (pss_one (ps_ret (pe_and (pe_cmpR (k_eqD (K := K) rfl hr.units) (pv 4) (pv 2) (nomark _)) (pe_one (pe_cmpR op_eq (pe_prop (pv 0) T.cl_Written T.p_Written_last (ok_Written_last T) (hr.mono (by decide)) T.b_Written_last .nil pass0 rfl) (pv 3) (nomark _))))))))), ?_⟩
  rintro ⟨b, last, figs⟩ hp
  replace hp : figs.length ≤ 100000 := hp
  show S1 E _ [some ((WrP K T.c_Written b figs last)), some (D K (.int b)), some (D K (.list (figs.map .int))), some (D K (.int last)), none, none] [] { nx := fun _ μ => BackY (fun x Q μ => Q = (fun (x : (Int) × (Int) × (List Int)) => match x with | (b, last, figs) => D K (.bool true)) x ∧ μ = []) (b, last, figs) (D K .none) μ, rt := BackY (fun x Q μ => Q = (fun (x : (Int) × (Int) × (List Int)) => match x with | (b, last, figs) => D K (.bool true)) x ∧ μ = []) (b, last, figs) }
  try simp only [cx_K, cx_KX]
  refine s_ifr (μ1 := []) (by walk_at "tv") (fun h => ?_) (fun _ => ?_)
  · exfalso
    revert h
    simp [isInt]
  refine s_let (Q := D K (.list (figs.map .int))) (μ1 := []) (by walk_at "ev") ?_
  have h2 : figs.all (fun f : Int => isInt (.int f)) = true := List.all_eq_true.mpr fun _ _ => rfl
  refine s_ifr (a := false) (μ1 := []) ?_ (fun h => by cases h) (fun _ => ?_)
  · refine t_or (a := false) (b := false) (t_not (a := true) (t_B (K := K) (e_isi (K := K) (d := .list (figs.map .int)) (by walk_at "ev") (.inr (.inr (.inr (.inl rfl))))))) fun _ => t_not (a := true) (t_B (K := K) ?_)
    rw [← h2]
    refine e_allO (K := K) (f := fun f : Int => isInt (.int f)) (o_mapL (K := K) (enc := PyData.int) (xs := figs) (by walk_at "ev") hp fun x hx => ?_)
    exact e__law_is_integer (by walk_at "ea") trivial
  walk_at "retD"
  simp
theorem e__law_written_right {c_Written : Addr} {δ : En} {μ μ' : Mp} {E : XK} {b : Int} {last : Int} {figs : List Int} {tA : TA} (h : EA tA δ μ [(WrP K c_Written b figs last), D K (.int b), D K (.list (figs.map .int)), D K (.int last)] μ') (hp : figs.length ≤ 100000) : E1 (tCall (sp__law_written_right K c_Written) [] E tA) δ μ (D K (.bool true)) μ' := e_callD (b, last, figs) h hp
local macro_rules | `(tactic| walk_at "call") => `(tactic| ((with_reducible apply e__law_written_right); (· walk_at "ea"); (· walk_at "sd")))
theorem ok_law (T : Txt P K mg) : FnOk P w K mg base CX0 7 T.a_law T.fd_law ["script"] (spec (lawPre K) lawPost) := by
  refine law_Y T.F_law sc_law rfl fun cdv A outer s H E hr => ⟨_, (pss_cons (ps_for PassesOwn.never rfl (pi_list (pe_call (ok__law_cells T) (hr.mono (by decide)) (by rfl) T.m__law_cells T.F__law_cells.kp T.b__law_cells .nil pass0 (pa_cons (pv 0) pa_nil))) (pg_name (i := 1) sc_law.nd rfl (Or.inl rfl)) (pss_cons (ps_set (i := 2) sc_law.nd rfl (Or.inl rfl) (pe_call (ok__law_deck T) (hr.mono (by decide)) (by rfl) T.m__law_deck T.F__law_deck.kp T.b__law_deck .nil pass0 (pa_cons (pv 1) pa_nil))) (pss_cons (ps_set (i := 3) sc_law.nd rfl (Or.inl rfl) (pe_call (ok__law_draw T) (hr.mono (by decide)) (by rfl) T.m__law_draw T.F__law_draw.kp T.b__law_draw .nil pass0 (pa_cons (pv 2) (pa_cons (pe_int) pa_nil)))) (pss_cons (ps_set (i := 4) sc_law.nd rfl (Or.inl rfl) (pe_op op_add (pe_int) (pe_call (ok__law_draw T) (hr.mono (by decide)) (by rfl) T.m__law_draw T.F__law_draw.kp T.b__law_draw .nil pass0 (pa_cons (pv 2) (pa_cons (pe_int) pa_nil))))) (pss_cons (ps_set (i := 5) sc_law.nd rfl (Or.inl rfl) (pe_op op_add (pe_int) (pe_call (ok__law_draw T) (hr.mono (by decide)) (by rfl) T.m__law_draw T.F__law_draw.kp T.b__law_draw .nil pass0 (pa_cons (pv 2) (pa_cons (pe_int) pa_nil))))) (pss_cons (ps_set (i := 6) sc_law.nd rfl (Or.inl rfl) (pe_call (ok__law_columns T) (hr.mono (by decide)) (by rfl) T.m__law_columns T.F__law_columns.kp T.b__law_columns .nil pass0 (pa_cons (pv 2) (pa_cons (pv 4) (pa_cons (pv 5) (pa_cons (pe_int) pa_nil)))))) (pss_cons (ps_set (i := 7) sc_law.nd rfl (Or.inl rfl) (pe_call (ok__law_plan T) (hr.mono (by decide)) (by rfl) T.m__law_plan T.F__law_plan.kp T.b__law_plan .nil pass0 (pa_cons (pv 2) (pa_cons (pv 4) (pa_cons (pv 5) (pa_cons (pv 6) (pa_cons (pe_op op_add (pe_int) (pe_call (ok__law_draw T) (hr.mono (by decide)) (by rfl) T.m__law_draw T.F__law_draw.kp T.b__law_draw .nil pass0 (pa_cons (pv 2) (pa_cons (pe_int) pa_nil)))) pa_nil))))))) (pss_cons (ps_set (i := 8) sc_law.nd rfl (Or.inl rfl) (pe_call (ok__law_slips T) (hr.mono (by decide)) (by rfl) T.m__law_slips T.F__law_slips.kp T.b__law_slips .nil pass0 (pa_cons (pv 7) pa_nil))) (pss_cons (ps_set (i := 9) sc_law.nd rfl (Or.inl rfl) (pe_call (ok__law_draw T) (hr.mono (by decide)) (by rfl) T.m__law_draw T.F__law_draw.kp T.b__law_draw .nil pass0 (pa_cons (pv 2) (pa_cons (pe_op op_add (pe_callB (k_len (K := K) rfl) (by rfl) T.n_len (by decide +kernel) (pa_cons (pv 8) pa_nil)) (pe_int)) pa_nil)))) (pss_cons (ps_set (i := 10) sc_law.nd rfl (Or.inl rfl) (pe_call (ok__law_low T) (hr.mono (by decide)) (by rfl) T.m__law_low T.F__law_low.kp T.b__law_low .nil pass0 (pa_cons (pe_slice (k_slL (K := K) rfl) (pv 8) po_none (po_some (pv 9))) pa_nil))) (pss_cons (ps_set (i := 11) sc_law.nd rfl (Or.inl rfl) (pe_call (ok__law_bad_item T) (hr.mono (by decide)) (by rfl) T.m__law_bad_item T.F__law_bad_item.kp T.b__law_bad_item .nil pass0 (pa_cons (pv 2) (pa_cons (pv 4) (pa_cons (pv 5) (pa_cons (pv 6) (pa_cons (pv 10) pa_nil))))))) (pss_cons (ps_if (pt_cmpR op_eq (pv 3) (pe_int) (nomark _)) (pss_one (ps_set (i := 11) sc_law.nd rfl (Or.inl rfl) (pe_tup (pa_cons (pe_op op_add (pv 10) (pe_call (ok__law_draw T) (hr.mono (by decide)) (by rfl) T.m__law_draw T.F__law_draw.kp T.b__law_draw .nil pass0 (pa_cons (pv 2) (pa_cons (pe_callB (k_max2 rfl) (by rfl) T.n_max (by decide +kernel) (pa_cons (pe_int) (pa_cons (pe_op op_sub (pe_callB (k_len (K := K) rfl) (by rfl) T.n_len (by decide +kernel) (pa_cons (pv 6) pa_nil)) (pv 10)) pa_nil))) pa_nil)))) (pa_cons (pe_call (ok__law_bad_deed T) (hr.mono (by decide)) (by rfl) T.m__law_bad_deed T.F__law_bad_deed.kp T.b__law_bad_deed .nil pass0 (pa_cons (pv 2) (pa_cons (pv 4) (pa_cons (pv 5) pa_nil)))) pa_nil))))) (pss_nil)) (pss_cons (ps_if (pt_cmpR op_eq (pv 3) (pe_int) (nomark _)) (pss_one (ps_set (i := 11) sc_law.nd rfl (Or.inl rfl) (pe_call (ok__law_not_possible T) (hr.mono (by decide)) (by rfl) T.m__law_not_possible T.F__law_not_possible.kp T.b__law_not_possible .nil pass0 (pa_cons (pv 2) (pa_cons (pv 4) (pa_cons (pv 5) (pa_cons (pv 6) (pa_cons (pv 7) (pa_cons (pv 10) pa_nil))))))))) (pss_nil)) (pss_cons (ps_set (i := 12) sc_law.nd rfl (Or.inl rfl) (pe_make T.k_Sheet (okG_Sheet___init__ T) (hr.mono (by decide)) (by rfl) T.m_Sheet T.b_Sheet___init__ .nil passL (pa_cons (pv 4) (pa_cons (pv 5) (pa_cons (pv 6) pa_nil))))) (pss_cons (ps_set (i := 13) sc_law.nd rfl (Or.inl rfl) (pe_call (ok__law_add T) (hr.mono (by decide)) (by rfl) T.m__law_add T.F__law_add.kp T.b__law_add .nil pass0 (pa_cons (pv 4) (pa_cons (pv 6) (pa_cons (pv 7) pa_nil))))) (pss_cons (ps_if (pt_not (pt_val (pe_call (ok__law_written_right T) (hr.mono (by decide)) (by rfl) T.m__law_written_right T.F__law_written_right.kp T.b__law_written_right .nil pass0 (pa_cons (pe_call (okG_add_with T) (hr.mono (by decide)) (by rfl) T.m_add_with T.F_add_with.kp T.b_add_with .nil passL (pa_cons (pv 12) (pa_cons (pe_callTy (k_list (K := K) rfl) (by rfl) T.n_list (by decide +kernel) (pa_cons (pv 8) pa_nil)) pa_nil))) (pa_cons (pv 4) (pa_cons (pe_ix (k_ixT (K := K) rfl) (pv 13) (pe_int) (fun _ _ => rfl)) (pa_cons (pe_ix (k_ixT (K := K) rfl) (pv 13) (pe_int) (fun _ _ => rfl)) pa_nil))))))) (pss_one (ps_ret (pe_bl))) (pss_nil)) (pss_cons (ps_set (i := 14) sc_law.nd rfl (Or.inl rfl) (pe_op (k_cat (K := K) rfl) (pe_op (k_cat (K := K) rfl) (pe_slice (k_slL (K := K) rfl) (pv 8) po_none (po_some (pv 9))) (pe_lst (pa_cons (pv 11) pa_nil))) (pe_slice (k_slL (K := K) rfl) (pv 8) (po_some (pv 9)) po_none))) (pss_cons (ps_set (i := 15) sc_law.nd rfl (Or.inl rfl) (pe_call (ok__law_refused T) (hr.mono (by decide)) (by rfl) T.m__law_refused T.F__law_refused.kp T.b__law_refused .nil pass0 (pa_cons (pv 12) (pa_cons (pv 14) pa_nil)))) (pss_cons (ps_if (PW.pt (pw_or (pt_cmpR (k_neD (K := K) rfl hr.units) (pv 15) (pe_lst (pa_cons (pe_bl) (pa_cons (pe_bl) (pa_cons (pv 9) pa_nil)))) (nomark _)) (pw_or (pt_not (pt_val (pe_call (ok__law_is_integer T) (hr.mono (by decide)) (by rfl) T.m__law_is_integer T.F__law_is_integer.kp T.b__law_is_integer .nil pass0 (pa_cons (pe_ix (k_ixL (K := K) rfl) (pv 15) (pe_int) (fun _ _ => rfl)) pa_nil)))) (pw_or1 (pt_cmpR (k_neD (K := K) rfl hr.units) (pe_prop (pv 12) T.cl_Sheet T.p_Sheet_columns (ok_Sheet_columns T) (hr.mono (by decide)) T.b_Sheet_columns .nil pass0 rfl) (pv 6) (nomark _)))))) (pss_one (ps_ret (pe_bl))) (pss_nil)) (pss_cons (ps_if (PW.pt (pw_or (pt_cmpR (k_neD (K := K) rfl hr.units) (pe_slice (k_slL (K := K) rfl) (pv 14) po_none (po_some (pv 9))) (pe_slice (k_slL (K := K) rfl) (pv 8) po_none (po_some (pv 9))) (nomark _)) (pw_or1 (pt_cmpR (k_neD (K := K) rfl hr.units) (pe_slice (k_slL (K := K) rfl) (pv 14) (po_some (pe_op op_add (pv 9) (pe_int))) po_none) (pe_slice (k_slL (K := K) rfl) (pv 8) (po_some (pv 9)) po_none) (nomark _))))) (pss_one (ps_ret (pe_bl))) (pss_nil)) (pss_one (ps_if (pt_not (pt_val (pe_call (ok__law_written_right T) (hr.mono (by decide)) (by rfl) T.m__law_written_right T.F__law_written_right.kp T.b__law_written_right .nil pass0 (pa_cons (pe_call (okG_add_with T) (hr.mono (by decide)) (by rfl) T.m_add_with T.F_add_with.kp T.b_add_with .nil passL (pa_cons (pv 12) (pa_cons (pe_callTy (k_list (K := K) rfl) (by rfl) T.n_list (by decide +kernel) (pa_cons (pv 8) pa_nil)) pa_nil))) (pa_cons (pv 4) (pa_cons (pe_ix (k_ixT (K := K) rfl) (pv 13) (pe_int) (fun _ _ => rfl)) (pa_cons (pe_ix (k_ixT (K := K) rfl) (pv 13) (pe_int) (fun _ _ => rfl)) pa_nil))))))) (pss_one (ps_ret (pe_bl))) (pss_nil))))))))))))))))))))))) (pss_one (ps_ret (pe_bl)))), ?_⟩
  intro ns hns
  show S1 E _ [some (D K (.list (ns.map .int))), none, none, none, none, none, none, none, none, none, none, none, none, none, none, none] [] { nx := fun _ _ => False, rt := fun Q _ => Q = D K (.bool true) }
  try simp only [cx_K, cx_KX]
  refine s_seq (N := fun _ _ => True) (s_for (fun i δ μ => Le δ [some (D K (.list (ns.map .int))), none, none, none, none, none, none, none, none, none, none, none, none, none, none, none]) (i_list (μ' := []) (by exact e_cells (by walk_at "ea") hns)) ?_ ?_ ?_) ?_
  · walk_at "le"
  · rintro i δ' μ' hi hle
    rw [List.length_map] at hi
    refine ⟨_, [1], G1.le (by rw [getD_map (x := (cellsOf ns)[i]) (List.getElem?_eq_getElem hi)]; exact g_name) hle, ?_⟩
    refine s_less (μ' := []) (List.nil_sublist _) ?_
    generalize (cellsOf ns)[i] = c
    refine s_letY (y_deck (by walk_at "ea")) ?_
    rintro _ _ ⟨dk, rfl, rfl⟩
    generalize deckOf c = Dk
    have w0 : 0 ≤ dv Dk 3 := dv_lo (by decide)
    have w1 : dv Dk 3 < 3 := dv_hi (by decide)
    walk_at "let"
    generalize dv Dk 3 = way
    clear w0 w1
    generalize dn Dk 3 = Dk
    have b0 : 0 ≤ dv Dk 11 := dv_lo (by decide)
    have b1 : dv Dk 11 < 11 := dv_hi (by decide)
    walk_at "let"
    generalize hb : (2 : Int) + dv Dk 11 = b
    generalize dn Dk 11 = Dk
    have r0 : 0 ≤ dv Dk 4 := dv_lo (by decide)
    have r1 : dv Dk 4 < 4 := dv_hi (by decide)
    walk_at "let"
    generalize hr' : (1 : Int) + dv Dk 4 = r
    generalize dn Dk 4 = Dk
    have hb2 : 2 ≤ b ∧ b ≤ 12 := by omega
    have hr4 : 1 ≤ r ∧ r ≤ 4 := by omega
    clear hb hr' b0 b1 r0 r1
    walk_at "Let"
    have hgood := colsOf_good (D := Dk) (b := b) (r := r) (most := 20) (by omega) (by omega)
    have hlen := colsOf_len (D := Dk) (b := b) (r := r) (most := 20) (by decide)
    generalize colsEnd Dk b r 20 = Dk2
    generalize colsOf Dk b r 20 = cs at hgood hlen ⊢
    have hl60 : cs.length ≤ 60 := by omega
    have g : GoodSh b r cs := ⟨hb2.1, hb2.2, hr4.1, hr4.2, by omega, hgood⟩
    clear hgood hlen
    have n0 : 0 ≤ dv Dk2 4 := dv_lo (by decide)
    have n1 : dv Dk2 4 < 4 := dv_hi (by decide)
    simp only [List.set_cons_succ, List.set_cons_zero]
    have hpre : GoodSh b r cs ∧ (0 < (1 : Int) + dv Dk2 4 ∧ (1 : Int) + dv Dk2 4 < 2 ^ 200) := ⟨g, by omega⟩
    walk_at "Let"
    generalize (1 : Int) + dv Dk2 4 = n at hpre ⊢
    generalize dn Dk2 4 = Dk3
    obtain ⟨F, ca, hF, hA⟩ := plan_add (n := n) (D := Dk3) g
    obtain ⟨hpl, _, hpd⟩ := planS_ok (n := n) (D := Dk3) g cs.length (Nat.le_refl _)
    have hadj := planS_adj (b := b) (r := r) (n := n) (cs := cs) (D := Dk3)
    generalize (planS b r n cs Dk3 cs.length).2.2 = Dk4
    generalize (planS b r n cs Dk3 cs.length).1 = ds at hF hA hpl hpd hadj ⊢
    have hds : ds.length ≤ 10000 := by omega
    have hds3 : ds.length ≤ 1000 := by omega
    have hdd : ∀ i, i < cs.length → DeedOk b r (dAt ds i) := fun i hi => hpd _ (dAt_mem (by omega))
    walk_at "Let"
    have hso : (slipsOf ds).length ≤ 60 := by
      have := slipsOf_len ds
      omega
    have hs0 : ∀ s ∈ slipsOf ds, 0 ≤ s.1 := fun s hs => by
      unfold slipsOf at hs
      obtain ⟨i, hi, rfl⟩ := List.mem_map.mp hs
      exact Int.natCast_nonneg i
    have hgo := st_go (b := b) (r := r) (n := cs.length) rfl hdd hadj hF cs.length 0 0 [] 0 (by omega) (Nat.le_refl _) (fun j h1 h2 => by omega) rfl
    rw [← show slipsOf ds = slipsFrom ds 0 cs.length by rw [slipsOf_eq, hpl]] at hgo
    generalize slipsOf ds = sl at hA hso hs0 hgo ⊢
    simp only [List.set_cons_succ, List.set_cons_zero]
    have hsm : ((sl.map slipD).length : Int) = (sl.length : Int) := by rw [List.length_map]
    have hq1 : 0 < (sl.length : Int) + 1 ∧ (sl.length : Int) + 1 < 2 ^ 200 := by omega
    have q0 : 0 ≤ dv Dk4 ((sl.length : Int) + 1) := dv_lo hq1.1
    have q1 : dv Dk4 ((sl.length : Int) + 1) < (sl.length : Int) + 1 := dv_hi hq1.1
    refine s_let (Q := D K (.int (dv Dk4 ((sl.length : Int) + 1)))) (μ1 := [(dk, DKo (dn Dk4 ((sl.length : Int) + 1)))]) (by exact e_draw (Dk := Dk4) (rest := []) (a_cons (e_var rfl) (a_cons (by rw [← hsm]; exact e_add (e_len (e_var rfl) lr_D) e_cI) a_nil)) hq1) ?_
    obtain ⟨q, hq⟩ : ∃ q : Nat, dv Dk4 ((sl.length : Int) + 1) = (q : Int) := ⟨(dv Dk4 ((sl.length : Int) + 1)).toNat, by omega⟩
    rw [hq] at q0 q1 ⊢
    generalize dn Dk4 ((sl.length : Int) + 1) = Dk5
    simp only [List.set_cons_succ, List.set_cons_zero]
    obtain ⟨lo, c', F2, hlo, _, hln, hlw, hadd⟩ := hgo q
    have hcut : ∀ {te : TE} {tb : TE} {δ : En} {μ : Mp}, E1 te δ μ (D K (.list (sl.map slipD))) μ → E1 tb δ μ (D K (.int (q : Int))) μ → E1 (tSl (rSlL K) te tNoPart (tPart tb)) δ μ (D K (.list ((sl.take q).map slipD))) μ := fun h1 h2 => EO.frz (by have := o_cutH (K := K) (enc := slipD) (xs := sl) (hi := (q : Int)) h1 h2 lr_D q0; rw [Int.toNat_natCast] at this; exact this)
    have hcutL : ∀ {te : TE} {tb : TE} {δ : En} {μ : Mp}, E1 te δ μ (D K (.list (sl.map slipD))) μ → E1 tb δ μ (D K (.int (q : Int))) μ → E1 (tSl (rSlL K) te (tPart tb) tNoPart) δ μ (D K (.list ((sl.drop q).map slipD))) μ := fun h1 h2 => EO.frz (by have := o_cutL (K := K) (enc := slipD) (xs := sl) (lo := (q : Int)) h1 h2 lr_D q0; rw [Int.toNat_natCast] at this; exact this)
    refine s_let (Q := D K (.int (lo : Int))) (μ1 := [(dk, DKo Dk5)]) ?_ ?_
    · rw [hlw]
      exact e__law_low (a_cons (hcut (e_var rfl) (e_var rfl)) a_nil) fun s hs => hs0 s (List.mem_of_mem_take hs)
    simp only [List.set_cons_succ, List.set_cons_zero]
    have hI : cs.length ≤ 1000 ∧ lo ≤ 1000 := by omega
    have hlm : ((cs.map colD).length : Int) = (cs.length : Int) := by rw [List.length_map]
    refine s_letY (y__law_bad_item (rest := []) (by walk_at "ea") hI) ?_
    rintro _ _ ⟨d0, D1, rfl, hbad, rfl⟩
    simp only [List.set_cons_succ, List.set_cons_zero]
    have hz : NotP b r cs lo c' (.d d0) := notP_bad hbad
    show S1 E _ [some (D K (.list (ns.map .int))), some (D K (.int c)), some (Av dk), some (D K (.int way)), some (D K (.int b)), some (D K (.int r)), some (D K (.list (cs.map colD))), some (D K (.list (ds.map deedD))), some (D K (.list (sl.map slipD))), some (D K (.int (q : Int))), some (D K (.int (lo : Int))), some (siP K (.d d0)), none, none, none, none] _ _
    generalize SI.d d0 = z at hz ⊢
    refine s_ifj (a := decide (way = 1)) (μ1 := [(dk, DKo D1)]) (N := fun δ μ => ∃ (z : SI) (D2 : Deck), NotP b r cs lo c' z ∧ μ = [(dk, DKo D2)] ∧ Le δ [some (D K (.list (ns.map .int))), none, some (Av dk), some (D K (.int way)), some (D K (.int b)), some (D K (.int r)), some (D K (.list (cs.map colD))), some (D K (.list (ds.map deedD))), some (D K (.list (sl.map slipD))), some (D K (.int (q : Int))), some (D K (.int (lo : Int))), some (siP K z), none, none, none, none]) (t_test (e_eqI (e_var rfl) e_cI)) (fun h => ?_) (fun _ => s_next ⟨z, D1, hz, rfl, by walk_at "le"⟩) ?_
    · have hm : 0 < (if (cs.length : Int) - (lo : Int) > 1 then (cs.length : Int) - (lo : Int) else 1) ∧ (if (cs.length : Int) - (lo : Int) > 1 then (cs.length : Int) - (lo : Int) else 1) < 2 ^ 200 := by split <;> omega
      refine s_setY (y_tupX (X := fun Ps μ2 => ∃ (a : Int) (x : Option PyData) (D3 : Deck), Ps = [D K (.int a), itP K x] ∧ BadX b r x ∧ μ2 = [(dk, DKo D3)]) (ax_1 (P := D K (.int ((lo : Int) + dv D1 (if (cs.length : Int) - (lo : Int) > 1 then (cs.length : Int) - (lo : Int) else 1)))) (μ1 := [(dk, DKo (dn D1 (if (cs.length : Int) - (lo : Int) > 1 then (cs.length : Int) - (lo : Int) else 1)))]) (e_add (e_var rfl) (by exact e_draw (Dk := D1) (rest := []) (a_cons (e_var rfl) (a_cons (e_max2 e_cI (by rw [← hlm]; exact e_sub (e_len (e_var rfl) lr_D) (e_var rfl))) a_nil)) hm)) (ax_Y (y__law_bad_deed (rest := []) (by walk_at "ea")) ?_)) ?_) ?_
      · rintro _ _ ⟨x, D3, rfl, hx, rfl⟩
        exact ax_nil ⟨_, x, D3, rfl, hx, rfl⟩
      · rintro _ _ ⟨_, _, _, rfl, _, _⟩
        show 2 ≤ 1000
        decide
      · rintro _ _ ⟨_, ⟨a, x, D3, rfl, hx, rfl⟩, rfl⟩
        simp only [List.set_cons_succ, List.set_cons_zero]
        refine ⟨mkSI a x, D3, notP_mk hx, rfl, ?_⟩
        exact .same (.drop (.same (.same (.same (.same (.same (.same (.same (.same (.same (.imp imp_mkSI (.refl _))))))))))))
    clear hz hbad
    rintro δ' _ ⟨z, D2, hz, rfl, hle⟩
    refine S1.le ?_ hle
    clear hle
    refine s_ifj (a := decide (way = 2)) (μ1 := [(dk, DKo D2)]) (N := fun δ μ => ∃ (z : SI) (D2 : Deck), NotP b r cs lo c' z ∧ μ = [(dk, DKo D2)] ∧ Le δ [some (D K (.list (ns.map .int))), none, some (Av dk), some (D K (.int way)), some (D K (.int b)), some (D K (.int r)), some (D K (.list (cs.map colD))), some (D K (.list (ds.map deedD))), some (D K (.list (sl.map slipD))), some (D K (.int (q : Int))), some (D K (.int (lo : Int))), some (siP K z), none, none, none, none]) (t_test (e_eqI (e_var rfl) e_cI)) (fun h => ?_) (fun _ => s_next ⟨z, D2, hz, rfl, by walk_at "le"⟩) ?_
    · refine s_setY (y__law_not_possible (rest := []) (cs := cs) (ds := ds) (lo := lo) (F2 := F2) (c := c') (by walk_at "ea") ⟨g, hln, by omega, hdd, hlo, hds3⟩) ?_
      rintro _ _ ⟨d, D3, rfl, hz2, rfl⟩
      simp only [List.set_cons_succ, List.set_cons_zero]
      exact ⟨.d d, D3, hz2, rfl, .same (.same (.same (.same (.same (.same (.same (.same (.same (.same (.same (.same (.refl _))))))))))))⟩
    clear hz
    rintro δ' _ ⟨z, D3, hz, rfl, hle⟩
    refine S1.le ?_ hle
    clear hle
    refine s_letY (y_mkSh (by walk_at "ev") (by walk_at "ev") (by walk_at "ev") lr_D g) ?_
    rintro _ _ ⟨l, rfl, rfl⟩
    simp only [List.cons_append, List.nil_append]
    simp only [List.set_cons_succ, List.set_cons_zero]
    have hpre2 : GoodSh b r cs ∧ cs.length ≤ ds.length ∧ (∀ i, i < cs.length → DeedOk b r (dAt ds i)) := ⟨g, by omega, hdd⟩
    walk_at "Let"
    rw [hF]
    simp only [List.set_cons_succ, List.set_cons_zero]
    have hok : addI b r cs (sl.map slI) 0 0 0 = .ok (F, ca) := addI_addV hA
    have hFl : F.length ≤ 2 * (cs.length - 0) := addV_len (Nat.zero_le _) hA
    have hF5 : F.length ≤ 100000 := by omega
    have hsi : ∀ {xs : List (Int × Deed)}, ∀ d ∈ xs.map slI, SIok d := fun d hd => by
      obtain ⟨s, _, rfl⟩ := List.mem_map.mp hd
      exact itemOk_slip s
    have hpA : GoodSh b r cs ∧ (sl.map slI).length ≤ 900 ∧ (∀ d ∈ sl.map slI, SIok d) := ⟨g, by rw [List.length_map]; omega, hsi⟩
    refine s_ifr (a := !true) (μ1 := [(dk, DKo D3), (l, OL K (cs.map colD))]) (t_not (t_B (K := K) ?_)) (fun h => by cases h) (fun _ => ?_)
    · refine e__law_written_right (b := b) (last := ca) (figs := F) (a_cons (μ1 := [(dk, DKo D3), (l, OL K (cs.map colD))]) ?_ (by walk_at "ea")) hF5
      refine E1.cast (P := WrP K T.c_Written b (valE (addI b r cs (sl.map slI) 0 0 0)).1 (valE (addI b r cs (sl.map slI) 0 0 0)).2) ?_ (by rw [hok]; rfl)
      exact e_add_with (its := sl.map slI) (a_cons (e_var rfl) (a_cons (E1.cast (e_listQ ((e_var (P := D K (.list (sl.map slipD))) rfl).imp lq_D)) (by rw [si_sl])) a_nil)) (sr_O 1 rfl) hpA (by rw [hok]; rfl)
    have hql : (sl.take q).length = q := by rw [List.length_take]; omega
    obtain ⟨F3, hres⟩ := hadd ([z] ++ (sl.drop q).map slI) 0
    rw [hql, Nat.zero_add] at hres
    replace hres := hres.trans (congrArg (preE F3) (hz.1 ((sl.drop q).map slI) q))
    have hpI : GoodSh b r cs ∧ ((sl.take q).map slI ++ ([z] ++ (sl.drop q).map slI)).length ≤ 900 ∧ (∀ d ∈ (sl.take q).map slI ++ ([z] ++ (sl.drop q).map slI), SIok d) := by
      refine ⟨g, by simp only [List.length_append, List.length_map, List.length_take, List.length_drop, List.length_cons, List.length_nil]; omega, fun d hd => ?_⟩
      rcases List.mem_append.mp hd with hd | hd
      · exact hsi d hd
      · rcases List.mem_append.mp hd with hd | hd
        · obtain rfl := List.mem_singleton.mp hd
          exact hz.2
        · exact hsi d hd
    have e1 : (((sl.take q).map slI ++ ([z] ++ (sl.drop q).map slI)).map (siP K)) = (((sl.take q).map slipD).map (D K) ++ [siP K z]) ++ ((sl.drop q).map slipD).map (D K) := by
      rw [si_sl, si_sl, List.map_append, List.map_append, List.append_assoc]
      rfl
    have e2 : cutG (((sl.take q).map slI ++ ([z] ++ (sl.drop q).map slI)).map (siP K)) none (some (q : Int)) = ((sl.take q).map slipD).map (D K) := by
      rw [cutG_hi _ q0, Int.toNat_natCast, e1, List.append_assoc]
      exact List.take_left' (by rw [List.length_map, List.length_map, hql])
    have e3 : cutG (((sl.take q).map slI ++ ([z] ++ (sl.drop q).map slI)).map (siP K)) (some ((q : Int) + 1)) none = ((sl.drop q).map slipD).map (D K) := by
      rw [cutG_lo _ (by omega), e1]
      exact List.drop_left' (by rw [List.length_append, List.length_map, List.length_map, hql]; show q + 1 = _; omega)
    refine s_let (Q := Lq K (((sl.take q).map slI ++ ([z] ++ (sl.drop q).map slI)).map (siP K))) (μ1 := [(dk, DKo D3), (l, OL K (cs.map colD))]) ?_ ?_
    · rw [e1]
      exact e_catQ (e_catQ ((hcut (e_var rfl) (e_var rfl)).imp lq_D) (e_lstQ (a_cons (e_var rfl) a_nil) (by show 1 ≤ 1000; decide)) (by simp only [List.length_map, hql, List.length_cons, List.length_nil]; omega)) ((hcutL (e_var rfl) (e_var rfl)).imp lq_D) (by simp only [List.length_append, List.length_map, hql, List.length_cons, List.length_nil, List.length_drop]; omega)
    clear e1
    generalize (sl.take q).map slI ++ ([z] ++ (sl.drop q).map slI) = its at hres hpI e2 e3 ⊢
    simp only [List.set_cons_succ, List.set_cons_zero]
    refine s_let (Q := D K (.list [.bool true, .bool false, .int (q : Int)])) (μ1 := [(dk, DKo D3), (l, OL K (cs.map colD))]) ?_ ?_
    · refine E1.cast (P := D K (.list (refE (addI b r cs its 0 0 0)))) ?_ (by rw [hres]; rfl)
      exact e__law_refused (its := its) (a_cons (e_var rfl) (a_cons (e_var rfl) a_nil)) (sr_O 1 rfl) hpI
    simp only [List.set_cons_succ, List.set_cons_zero]
    have hsh : SeqAt.shaped (.list [.bool true, .bool false, .int (q : Int)]) = true := (sh_lst (n := 0) fun x hx => by
      simp only [List.mem_cons, List.not_mem_nil, or_false] at hx
      rcases hx with rfl | rfl | rfl
      · exact sh_bl _
      · exact sh_bl _
      · exact sh_int _).ok
    refine s_ifr (a := !true || (!true || !true)) (μ1 := [(dk, DKo D3), (l, OL K (cs.map colD))]) (t_or (t_test (e_neD (K := K) (d := .list [.bool true, .bool false, .int (q : Int)]) (e := .list [.bool true, .bool false, .int (q : Int)]) (e_var rfl) (EO.frz (o_lst (K := K) (d_cons e_cB (d_cons e_cB (d_cons (e_var rfl) d_nil))) (by show 3 ≤ 100000; decide))) dr_D dr_D hsh hsh (eqv_same hsh))) fun _ => ?_) (fun h => by cases h) (fun _ => ?_)
    · refine t_or (a := !true) (b := !true) (t_not (a := true) (t_B (K := K) ?_)) fun _ => ?_
      · refine e__law_is_integer (d := .int (q : Int)) (a_cons (μ1 := [(dk, DKo D3), (l, OL K (cs.map colD))]) ?_ a_nil) trivial
        exact e_ixL (K := K) (i := 2) (ds := [.bool true, .bool false, .int (q : Int)]) (e_var rfl) e_cI lr_D rfl
      have hcc : (PyData.eqv (.list (cs.map colD)) (.list (cs.map colD))) = true := eqv_same (sh_cols (n := 0) cs).ok
      walk_at "tv"
    refine s_ifr (a := !true || !true) (μ1 := [(dk, DKo D3), (l, OL K (cs.map colD))]) (t_or (t_test (e_neD (K := K) (d := .list ((sl.take q).map slipD)) (e := .list ((sl.take q).map slipD)) ((E1.cast (e_slQ (e_var rfl) y_none (y_some (K := K) (e_var rfl))) (by rw [e2])).imp d_lq) (hcut (e_var rfl) (e_var rfl)) dr_D dr_D (shd_slips _) (shd_slips _) (eqv_same (shd_slips _)))) fun _ => t_test (e_neD (K := K) (d := .list ((sl.drop q).map slipD)) (e := .list ((sl.drop q).map slipD)) ((E1.cast (e_slQ (e_var rfl) (y_some (K := K) (e_add (e_var rfl) e_cI)) y_none) (by rw [e3])).imp d_lq) (hcutL (e_var rfl) (e_var rfl)) dr_D dr_D (shd_slips _) (shd_slips _) (eqv_same (shd_slips _)))) (fun h => by cases h) (fun _ => ?_)
    refine s_if (a := !true) (μ1 := [(dk, DKo D3), (l, OL K (cs.map colD))]) (t_not (t_B (K := K) ?_)) (fun h => by cases h) (fun _ => s_next (by walk_at "le"))
    refine e__law_written_right (b := b) (last := ca) (figs := F) (a_cons (μ1 := [(dk, DKo D3), (l, OL K (cs.map colD))]) ?_ (by walk_at "ea")) hF5
    refine E1.cast (P := WrP K T.c_Written b (valE (addI b r cs (sl.map slI) 0 0 0)).1 (valE (addI b r cs (sl.map slI) 0 0 0)).2) ?_ (by rw [hok]; rfl)
    exact e_add_with (its := sl.map slI) (a_cons (e_var rfl) (a_cons (E1.cast (e_listQ ((e_var (P := D K (.list (sl.map slipD))) rfl).imp lq_D)) (by rw [si_sl])) a_nil)) (sr_O 1 rfl) hpA (by rw [hok]; rfl)
  · rintro _ _ _
    trivial
  · rintro δ' μ' _
    exact s_ret (e_cB (K := K)) rfl
end
def txt_mk {P : Program} {K : PySem.W.Frag} {h : Heap} {mg : Str → Option Value} (X : K.In h) (G : h.Ns mainGlobals mg) {c_Sheet : Addr} {c_Written : Addr} {c_SlipError : Addr} {c_InvalidSheet : Addr} {c_InvalidColumn : Addr} {c_InvalidKind : Addr} {c_InvalidLot : Addr} {c_NotAlike : Addr} {c_NotPossible : Addr} {c_TooMany : Addr} {c_Waits : Addr} {c_InvalidText : Addr} {c_InvalidCommand : Addr} {c_NothingToUndo : Addr} {c_NotReady : Addr} {c_InvalidSlips : Addr} {a_is_whole : Addr} {oc_is_whole kV_is_whole dc_is_whole pm_is_whole cd_is_whole ct_is_whole : Value} {od_is_whole an_is_whole : Option Addr} {sl_is_whole : Array (Option Value)} {a_is_column : Addr} {oc_is_column kV_is_column dc_is_column pm_is_column cd_is_column ct_is_column : Value} {od_is_column an_is_column : Option Addr} {sl_is_column : Array (Option Value)} {a__are_columns : Addr} {oc__are_columns kV__are_columns dc__are_columns pm__are_columns cd__are_columns ct__are_columns : Value} {od__are_columns an__are_columns : Option Addr} {sl__are_columns : Array (Option Value)} {a_is_base : Addr} {oc_is_base kV_is_base dc_is_base pm_is_base cd_is_base ct_is_base : Value} {od_is_base an_is_base : Option Addr} {sl_is_base : Array (Option Value)} {a_is_rows : Addr} {oc_is_rows kV_is_rows dc_is_rows pm_is_rows cd_is_rows ct_is_rows : Value} {od_is_rows an_is_rows : Option Addr} {sl_is_rows : Array (Option Value)} {a_Sheet___init__ : Addr} {oc_Sheet___init__ kV_Sheet___init__ dc_Sheet___init__ pm_Sheet___init__ cd_Sheet___init__ ct_Sheet___init__ : Value} {od_Sheet___init__ an_Sheet___init__ : Option Addr} {sl_Sheet___init__ : Array (Option Value)} {a_Sheet_columns : Addr} {oc_Sheet_columns kV_Sheet_columns dc_Sheet_columns pm_Sheet_columns cd_Sheet_columns ct_Sheet_columns : Value} {od_Sheet_columns an_Sheet_columns : Option Addr} {sl_Sheet_columns : Array (Option Value)} {pa_Sheet_columns : Addr} {re_Sheet_columns : List Value} {a__law_taken : Addr} {oc__law_taken kV__law_taken dc__law_taken pm__law_taken cd__law_taken ct__law_taken : Value} {od__law_taken an__law_taken : Option Addr} {sl__law_taken : Array (Option Value)} {a__law_step : Addr} {oc__law_step kV__law_step dc__law_step pm__law_step cd__law_step ct__law_step : Value} {od__law_step an__law_step : Option Addr} {sl__law_step : Array (Option Value)} {a__law_add : Addr} {oc__law_add kV__law_add dc__law_add pm__law_add cd__law_add ct__law_add : Value} {od__law_add an__law_add : Option Addr} {sl__law_add : Array (Option Value)} {a__law_draw : Addr} {oc__law_draw kV__law_draw dc__law_draw pm__law_draw cd__law_draw ct__law_draw : Value} {od__law_draw an__law_draw : Option Addr} {sl__law_draw : Array (Option Value)} {a__law_bad_deed : Addr} {oc__law_bad_deed kV__law_bad_deed dc__law_bad_deed pm__law_bad_deed cd__law_bad_deed ct__law_bad_deed : Value} {od__law_bad_deed an__law_bad_deed : Option Addr} {sl__law_bad_deed : Array (Option Value)} {a__law_bad_item : Addr} {oc__law_bad_item kV__law_bad_item dc__law_bad_item pm__law_bad_item cd__law_bad_item ct__law_bad_item : Value} {od__law_bad_item an__law_bad_item : Option Addr} {sl__law_bad_item : Array (Option Value)} {a__law_cells : Addr} {oc__law_cells kV__law_cells dc__law_cells pm__law_cells cd__law_cells ct__law_cells : Value} {od__law_cells an__law_cells : Option Addr} {sl__law_cells : Array (Option Value)} {a__law_column : Addr} {oc__law_column kV__law_column dc__law_column pm__law_column cd__law_column ct__law_column : Value} {od__law_column an__law_column : Option Addr} {sl__law_column : Array (Option Value)} {a__law_columns : Addr} {oc__law_columns kV__law_columns dc__law_columns pm__law_columns cd__law_columns ct__law_columns : Value} {od__law_columns an__law_columns : Option Addr} {sl__law_columns : Array (Option Value)} {a__law_deck : Addr} {oc__law_deck kV__law_deck dc__law_deck pm__law_deck cd__law_deck ct__law_deck : Value} {od__law_deck an__law_deck : Option Addr} {sl__law_deck : Array (Option Value)} {a__law_is_integer : Addr} {oc__law_is_integer kV__law_is_integer dc__law_is_integer pm__law_is_integer cd__law_is_integer ct__law_is_integer : Value} {od__law_is_integer an__law_is_integer : Option Addr} {sl__law_is_integer : Array (Option Value)} {a__law_low : Addr} {oc__law_low kV__law_low dc__law_low pm__law_low cd__law_low ct__law_low : Value} {od__law_low an__law_low : Option Addr} {sl__law_low : Array (Option Value)} {a__law_without_carry : Addr} {oc__law_without_carry kV__law_without_carry dc__law_without_carry pm__law_without_carry cd__law_without_carry ct__law_without_carry : Value} {od__law_without_carry an__law_without_carry : Option Addr} {sl__law_without_carry : Array (Option Value)} {a__law_not_possible : Addr} {oc__law_not_possible kV__law_not_possible dc__law_not_possible pm__law_not_possible cd__law_not_possible ct__law_not_possible : Value} {od__law_not_possible an__law_not_possible : Option Addr} {sl__law_not_possible : Array (Option Value)} {a__law_deed : Addr} {oc__law_deed kV__law_deed dc__law_deed pm__law_deed cd__law_deed ct__law_deed : Value} {od__law_deed an__law_deed : Option Addr} {sl__law_deed : Array (Option Value)} {a__law_plan : Addr} {oc__law_plan kV__law_plan dc__law_plan pm__law_plan cd__law_plan ct__law_plan : Value} {od__law_plan an__law_plan : Option Addr} {sl__law_plan : Array (Option Value)} {a_InvalidSlips___init__ cda_InvalidSlips___init__ cc_InvalidSlips___init__ N_InvalidSlips___init__ : Addr} {oc_InvalidSlips___init__ kV_InvalidSlips___init__ dc_InvalidSlips___init__ pm_InvalidSlips___init__ ct_InvalidSlips___init__ ccl_InvalidSlips___init__ cl_InvalidSlips___init__ : Value} {od_InvalidSlips___init__ an_InvalidSlips___init__ cdd_InvalidSlips___init__ cld_InvalidSlips___init__ dd_InvalidSlips___init__ : Option Addr} {sl_InvalidSlips___init__ ccs_InvalidSlips___init__ csl_InvalidSlips___init__ : Array (Option Value)} {vs_InvalidSlips___init__ : Array Value} {fi_InvalidSlips___init__ nm_InvalidSlips___init__ q_InvalidSlips___init__ : Str} {tf_InvalidSlips___init__ : Tok} {bs_InvalidSlips___init__ bm_InvalidSlips___init__ sub_InvalidSlips___init__ : List Value} {sn_InvalidSlips___init__ : List Str} {ab_InvalidSlips___init__ : Bool} {col_InvalidSlips___init__ : Option Bool} {k0_InvalidSlips___init__ k1_InvalidSlips___init__ k2_InvalidSlips___init__ k3_InvalidSlips___init__ k5_InvalidSlips___init__ : Option Value} {a_Sheet_base : Addr} {oc_Sheet_base kV_Sheet_base dc_Sheet_base pm_Sheet_base cd_Sheet_base ct_Sheet_base : Value} {od_Sheet_base an_Sheet_base : Option Addr} {sl_Sheet_base : Array (Option Value)} {pa_Sheet_base : Addr} {re_Sheet_base : List Value} {a_Written___init__ : Addr} {oc_Written___init__ kV_Written___init__ dc_Written___init__ pm_Written___init__ cd_Written___init__ ct_Written___init__ : Value} {od_Written___init__ an_Written___init__ : Option Addr} {sl_Written___init__ : Array (Option Value)} {a_do_sum : Addr} {oc_do_sum kV_do_sum dc_do_sum pm_do_sum cd_do_sum ct_do_sum : Value} {od_do_sum an_do_sum : Option Addr} {sl_do_sum : Array (Option Value)} {a_do_columns : Addr} {oc_do_columns kV_do_columns dc_do_columns pm_do_columns cd_do_columns ct_do_columns : Value} {od_do_columns an_do_columns : Option Addr} {sl_do_columns : Array (Option Value)} {a_sum_taken : Addr} {oc_sum_taken kV_sum_taken dc_sum_taken pm_sum_taken cd_sum_taken ct_sum_taken : Value} {od_sum_taken an_sum_taken : Option Addr} {sl_sum_taken : Array (Option Value)} {a_do_slip : Addr} {oc_do_slip kV_do_slip dc_do_slip pm_do_slip cd_do_slip ct_do_slip : Value} {od_do_slip an_do_slip : Option Addr} {sl_do_slip : Array (Option Value)} {a_Sheet___len__ : Addr} {oc_Sheet___len__ kV_Sheet___len__ dc_Sheet___len__ pm_Sheet___len__ cd_Sheet___len__ ct_Sheet___len__ : Value} {od_Sheet___len__ an_Sheet___len__ : Option Addr} {sl_Sheet___len__ : Array (Option Value)} {a_Sheet_rows : Addr} {oc_Sheet_rows kV_Sheet_rows dc_Sheet_rows pm_Sheet_rows cd_Sheet_rows ct_Sheet_rows : Value} {od_Sheet_rows an_Sheet_rows : Option Addr} {sl_Sheet_rows : Array (Option Value)} {pa_Sheet_rows : Addr} {re_Sheet_rows : List Value} {a__is_plain : Addr} {oc__is_plain kV__is_plain dc__is_plain pm__is_plain cd__is_plain ct__is_plain : Value} {od__is_plain an__is_plain : Option Addr} {sl__is_plain : Array (Option Value)} {a_deeds_of : Addr} {oc_deeds_of kV_deeds_of dc_deeds_of pm_deeds_of cd_deeds_of ct_deeds_of : Value} {od_deeds_of an_deeds_of : Option Addr} {sl_deeds_of : Array (Option Value)} {a_is_deed : Addr} {oc_is_deed kV_is_deed dc_is_deed pm_is_deed cd_is_deed ct_is_deed : Value} {od_is_deed an_is_deed : Option Addr} {sl_is_deed : Array (Option Value)} {a_is_slip : Addr} {oc_is_slip kV_is_slip dc_is_slip pm_is_slip cd_is_slip ct_is_slip : Value} {od_is_slip an_is_slip : Option Addr} {sl_is_slip : Array (Option Value)} {a_add_with : Addr} {oc_add_with kV_add_with dc_add_with pm_add_with cd_add_with ct_add_with : Value} {od_add_with an_add_with : Option Addr} {sl_add_with : Array (Option Value)} {a__law_refused : Addr} {oc__law_refused kV__law_refused dc__law_refused pm__law_refused cd__law_refused ct__law_refused : Value} {od__law_refused an__law_refused : Option Addr} {sl__law_refused : Array (Option Value)} {a__law_slips : Addr} {oc__law_slips kV__law_slips dc__law_slips pm__law_slips cd__law_slips ct__law_slips : Value} {od__law_slips an__law_slips : Option Addr} {sl__law_slips : Array (Option Value)} {a_Written_base : Addr} {oc_Written_base kV_Written_base dc_Written_base pm_Written_base cd_Written_base ct_Written_base : Value} {od_Written_base an_Written_base : Option Addr} {sl_Written_base : Array (Option Value)} {pa_Written_base : Addr} {re_Written_base : List Value} {a_Written_figures : Addr} {oc_Written_figures kV_Written_figures dc_Written_figures pm_Written_figures cd_Written_figures ct_Written_figures : Value} {od_Written_figures an_Written_figures : Option Addr} {sl_Written_figures : Array (Option Value)} {pa_Written_figures : Addr} {re_Written_figures : List Value} {a_Written_last : Addr} {oc_Written_last kV_Written_last dc_Written_last pm_Written_last cd_Written_last ct_Written_last : Value} {od_Written_last an_Written_last : Option Addr} {sl_Written_last : Array (Option Value)} {pa_Written_last : Addr} {re_Written_last : List Value} {a__law_written_right : Addr} {oc__law_written_right kV__law_written_right dc__law_written_right pm__law_written_right cd__law_written_right ct__law_written_right : Value} {od__law_written_right an__law_written_right : Option Addr} {sl__law_written_right : Array (Option Value)} {a_law : Addr} {oc_law kV_law dc_law pm_law cd_law ct_law : Value} {od_law an_law : Option Addr} {sl_law : Array (Option Value)} {tk_MOST_BASE : Tok} {tk_MOST_ROWS : Tok}
    (ac_Sheet : PySem.W.nsIn K mainGlobals "Sheet" = some (some (.ref c_Sheet)))
    (ac_Written : PySem.W.nsIn K mainGlobals "Written" = some (some (.ref c_Written)))
    (ac_SlipError : PySem.W.nsIn K mainGlobals "SlipError" = some (some (.ref c_SlipError)))
    (ac_InvalidSheet : PySem.W.nsIn K mainGlobals "InvalidSheet" = some (some (.ref c_InvalidSheet)))
    (ac_InvalidColumn : PySem.W.nsIn K mainGlobals "InvalidColumn" = some (some (.ref c_InvalidColumn)))
    (ac_InvalidKind : PySem.W.nsIn K mainGlobals "InvalidKind" = some (some (.ref c_InvalidKind)))
    (ac_InvalidLot : PySem.W.nsIn K mainGlobals "InvalidLot" = some (some (.ref c_InvalidLot)))
    (ac_NotAlike : PySem.W.nsIn K mainGlobals "NotAlike" = some (some (.ref c_NotAlike)))
    (ac_NotPossible : PySem.W.nsIn K mainGlobals "NotPossible" = some (some (.ref c_NotPossible)))
    (ac_TooMany : PySem.W.nsIn K mainGlobals "TooMany" = some (some (.ref c_TooMany)))
    (ac_Waits : PySem.W.nsIn K mainGlobals "Waits" = some (some (.ref c_Waits)))
    (ac_InvalidText : PySem.W.nsIn K mainGlobals "InvalidText" = some (some (.ref c_InvalidText)))
    (ac_InvalidCommand : PySem.W.nsIn K mainGlobals "InvalidCommand" = some (some (.ref c_InvalidCommand)))
    (ac_NothingToUndo : PySem.W.nsIn K mainGlobals "NothingToUndo" = some (some (.ref c_NothingToUndo)))
    (ac_NotReady : PySem.W.nsIn K mainGlobals "NotReady" = some (some (.ref c_NotReady)))
    (ac_InvalidSlips : PySem.W.nsIn K mainGlobals "InvalidSlips" = some (some (.ref c_InvalidSlips)))
    (af_is_whole : PySem.W.nsIn K mainGlobals "is_whole" = some (some (.ref a_is_whole)))
    (lf_is_whole : K.lookup a_is_whole = some ⟨oc_is_whole, od_is_whole, .func (PySem.W.fnOf "is_whole" "is_whole" (defArgs s_is_whole) (defBody s_is_whole) (defScope s_is_whole) .none kV_is_whole dc_is_whole pm_is_whole an_is_whole cd_is_whole ct_is_whole), sl_is_whole⟩)
    (cf_is_whole : PySem.W.codeIn K cd_is_whole "is_whole" = true)
    (kf_is_whole : PySem.W.keepIn K (.ref a_is_whole) = true)
    (af_is_column : PySem.W.nsIn K mainGlobals "is_column" = some (some (.ref a_is_column)))
    (lf_is_column : K.lookup a_is_column = some ⟨oc_is_column, od_is_column, .func (PySem.W.fnOf "is_column" "is_column" (defArgs s_is_column) (defBody s_is_column) (defScope s_is_column) .none kV_is_column dc_is_column pm_is_column an_is_column cd_is_column ct_is_column), sl_is_column⟩)
    (cf_is_column : PySem.W.codeIn K cd_is_column "is_column" = true)
    (kf_is_column : PySem.W.keepIn K (.ref a_is_column) = true)
    (af__are_columns : PySem.W.nsIn K mainGlobals "_are_columns" = some (some (.ref a__are_columns)))
    (lf__are_columns : K.lookup a__are_columns = some ⟨oc__are_columns, od__are_columns, .func (PySem.W.fnOf "_are_columns" "_are_columns" (defArgs s__are_columns) (defBody s__are_columns) (defScope s__are_columns) .none kV__are_columns dc__are_columns pm__are_columns an__are_columns cd__are_columns ct__are_columns), sl__are_columns⟩)
    (cf__are_columns : PySem.W.codeIn K cd__are_columns "_are_columns" = true)
    (kf__are_columns : PySem.W.keepIn K (.ref a__are_columns) = true)
    (af_is_base : PySem.W.nsIn K mainGlobals "is_base" = some (some (.ref a_is_base)))
    (lf_is_base : K.lookup a_is_base = some ⟨oc_is_base, od_is_base, .func (PySem.W.fnOf "is_base" "is_base" (defArgs s_is_base) (defBody s_is_base) (defScope s_is_base) .none kV_is_base dc_is_base pm_is_base an_is_base cd_is_base ct_is_base), sl_is_base⟩)
    (cf_is_base : PySem.W.codeIn K cd_is_base "is_base" = true)
    (kf_is_base : PySem.W.keepIn K (.ref a_is_base) = true)
    (af_is_rows : PySem.W.nsIn K mainGlobals "is_rows" = some (some (.ref a_is_rows)))
    (lf_is_rows : K.lookup a_is_rows = some ⟨oc_is_rows, od_is_rows, .func (PySem.W.fnOf "is_rows" "is_rows" (defArgs s_is_rows) (defBody s_is_rows) (defScope s_is_rows) .none kV_is_rows dc_is_rows pm_is_rows an_is_rows cd_is_rows ct_is_rows), sl_is_rows⟩)
    (cf_is_rows : PySem.W.codeIn K cd_is_rows "is_rows" = true)
    (kf_is_rows : PySem.W.keepIn K (.ref a_is_rows) = true)
    (af_Sheet___init__ : PySem.W.findIn K (.ref c_Sheet) "__init__" = some (some (.ref a_Sheet___init__)))
    (if_Sheet___init__ : PySem.W.isFn K (.ref a_Sheet___init__) = true)
    (lf_Sheet___init__ : K.lookup a_Sheet___init__ = some ⟨oc_Sheet___init__, od_Sheet___init__, .func (PySem.W.fnOf "__init__" "Sheet.__init__" (defArgs s_Sheet___init__) (defBody s_Sheet___init__) (defScope s_Sheet___init__) .none kV_Sheet___init__ dc_Sheet___init__ pm_Sheet___init__ an_Sheet___init__ cd_Sheet___init__ ct_Sheet___init__), sl_Sheet___init__⟩)
    (cf_Sheet___init__ : PySem.W.codeIn K cd_Sheet___init__ "Sheet.__init__" = true)
    (kf_Sheet___init__ : PySem.W.keepIn K (.ref a_Sheet___init__) = true)
    (pf_Sheet_columns : PySem.W.findIn K (.ref c_Sheet) "columns" = some (some (.ref pa_Sheet_columns)))
    (pg_Sheet_columns : PySem.W.specialIn K (.ref pa_Sheet_columns) "__get__" = some (some (.builtin "property.__get__")))
    (pt_Sheet_columns : PySem.W.takesIn K (.ref pa_Sheet_columns) = some true)
    (pr_Sheet_columns : PySem.W.recIn K pa_Sheet_columns "property" = some (.ref a_Sheet_columns :: re_Sheet_columns))
    (lf_Sheet_columns : K.lookup a_Sheet_columns = some ⟨oc_Sheet_columns, od_Sheet_columns, .func (PySem.W.fnOf "columns" "Sheet.columns" (defArgs s_Sheet_columns) (defBody s_Sheet_columns) (defScope s_Sheet_columns) .none kV_Sheet_columns dc_Sheet_columns pm_Sheet_columns an_Sheet_columns cd_Sheet_columns ct_Sheet_columns), sl_Sheet_columns⟩)
    (cf_Sheet_columns : PySem.W.codeIn K cd_Sheet_columns "Sheet.columns" = true)
    (kf_Sheet_columns : PySem.W.keepIn K (.ref a_Sheet_columns) = true)
    (af__law_taken : PySem.W.nsIn K mainGlobals "_law_taken" = some (some (.ref a__law_taken)))
    (lf__law_taken : K.lookup a__law_taken = some ⟨oc__law_taken, od__law_taken, .func (PySem.W.fnOf "_law_taken" "_law_taken" (defArgs s__law_taken) (defBody s__law_taken) (defScope s__law_taken) .none kV__law_taken dc__law_taken pm__law_taken an__law_taken cd__law_taken ct__law_taken), sl__law_taken⟩)
    (cf__law_taken : PySem.W.codeIn K cd__law_taken "_law_taken" = true)
    (kf__law_taken : PySem.W.keepIn K (.ref a__law_taken) = true)
    (af__law_step : PySem.W.nsIn K mainGlobals "_law_step" = some (some (.ref a__law_step)))
    (lf__law_step : K.lookup a__law_step = some ⟨oc__law_step, od__law_step, .func (PySem.W.fnOf "_law_step" "_law_step" (defArgs s__law_step) (defBody s__law_step) (defScope s__law_step) .none kV__law_step dc__law_step pm__law_step an__law_step cd__law_step ct__law_step), sl__law_step⟩)
    (cf__law_step : PySem.W.codeIn K cd__law_step "_law_step" = true)
    (kf__law_step : PySem.W.keepIn K (.ref a__law_step) = true)
    (af__law_add : PySem.W.nsIn K mainGlobals "_law_add" = some (some (.ref a__law_add)))
    (lf__law_add : K.lookup a__law_add = some ⟨oc__law_add, od__law_add, .func (PySem.W.fnOf "_law_add" "_law_add" (defArgs s__law_add) (defBody s__law_add) (defScope s__law_add) .none kV__law_add dc__law_add pm__law_add an__law_add cd__law_add ct__law_add), sl__law_add⟩)
    (cf__law_add : PySem.W.codeIn K cd__law_add "_law_add" = true)
    (kf__law_add : PySem.W.keepIn K (.ref a__law_add) = true)
    (af__law_draw : PySem.W.nsIn K mainGlobals "_law_draw" = some (some (.ref a__law_draw)))
    (lf__law_draw : K.lookup a__law_draw = some ⟨oc__law_draw, od__law_draw, .func (PySem.W.fnOf "_law_draw" "_law_draw" (defArgs s__law_draw) (defBody s__law_draw) (defScope s__law_draw) .none kV__law_draw dc__law_draw pm__law_draw an__law_draw cd__law_draw ct__law_draw), sl__law_draw⟩)
    (cf__law_draw : PySem.W.codeIn K cd__law_draw "_law_draw" = true)
    (kf__law_draw : PySem.W.keepIn K (.ref a__law_draw) = true)
    (af__law_bad_deed : PySem.W.nsIn K mainGlobals "_law_bad_deed" = some (some (.ref a__law_bad_deed)))
    (lf__law_bad_deed : K.lookup a__law_bad_deed = some ⟨oc__law_bad_deed, od__law_bad_deed, .func (PySem.W.fnOf "_law_bad_deed" "_law_bad_deed" (defArgs s__law_bad_deed) (defBody s__law_bad_deed) (defScope s__law_bad_deed) .none kV__law_bad_deed dc__law_bad_deed pm__law_bad_deed an__law_bad_deed cd__law_bad_deed ct__law_bad_deed), sl__law_bad_deed⟩)
    (cf__law_bad_deed : PySem.W.codeIn K cd__law_bad_deed "_law_bad_deed" = true)
    (kf__law_bad_deed : PySem.W.keepIn K (.ref a__law_bad_deed) = true)
    (af__law_bad_item : PySem.W.nsIn K mainGlobals "_law_bad_item" = some (some (.ref a__law_bad_item)))
    (lf__law_bad_item : K.lookup a__law_bad_item = some ⟨oc__law_bad_item, od__law_bad_item, .func (PySem.W.fnOf "_law_bad_item" "_law_bad_item" (defArgs s__law_bad_item) (defBody s__law_bad_item) (defScope s__law_bad_item) .none kV__law_bad_item dc__law_bad_item pm__law_bad_item an__law_bad_item cd__law_bad_item ct__law_bad_item), sl__law_bad_item⟩)
    (cf__law_bad_item : PySem.W.codeIn K cd__law_bad_item "_law_bad_item" = true)
    (kf__law_bad_item : PySem.W.keepIn K (.ref a__law_bad_item) = true)
    (af__law_cells : PySem.W.nsIn K mainGlobals "_law_cells" = some (some (.ref a__law_cells)))
    (lf__law_cells : K.lookup a__law_cells = some ⟨oc__law_cells, od__law_cells, .func (PySem.W.fnOf "_law_cells" "_law_cells" (defArgs s__law_cells) (defBody s__law_cells) (defScope s__law_cells) .none kV__law_cells dc__law_cells pm__law_cells an__law_cells cd__law_cells ct__law_cells), sl__law_cells⟩)
    (cf__law_cells : PySem.W.codeIn K cd__law_cells "_law_cells" = true)
    (kf__law_cells : PySem.W.keepIn K (.ref a__law_cells) = true)
    (af__law_column : PySem.W.nsIn K mainGlobals "_law_column" = some (some (.ref a__law_column)))
    (lf__law_column : K.lookup a__law_column = some ⟨oc__law_column, od__law_column, .func (PySem.W.fnOf "_law_column" "_law_column" (defArgs s__law_column) (defBody s__law_column) (defScope s__law_column) .none kV__law_column dc__law_column pm__law_column an__law_column cd__law_column ct__law_column), sl__law_column⟩)
    (cf__law_column : PySem.W.codeIn K cd__law_column "_law_column" = true)
    (kf__law_column : PySem.W.keepIn K (.ref a__law_column) = true)
    (af__law_columns : PySem.W.nsIn K mainGlobals "_law_columns" = some (some (.ref a__law_columns)))
    (lf__law_columns : K.lookup a__law_columns = some ⟨oc__law_columns, od__law_columns, .func (PySem.W.fnOf "_law_columns" "_law_columns" (defArgs s__law_columns) (defBody s__law_columns) (defScope s__law_columns) .none kV__law_columns dc__law_columns pm__law_columns an__law_columns cd__law_columns ct__law_columns), sl__law_columns⟩)
    (cf__law_columns : PySem.W.codeIn K cd__law_columns "_law_columns" = true)
    (kf__law_columns : PySem.W.keepIn K (.ref a__law_columns) = true)
    (af__law_deck : PySem.W.nsIn K mainGlobals "_law_deck" = some (some (.ref a__law_deck)))
    (lf__law_deck : K.lookup a__law_deck = some ⟨oc__law_deck, od__law_deck, .func (PySem.W.fnOf "_law_deck" "_law_deck" (defArgs s__law_deck) (defBody s__law_deck) (defScope s__law_deck) .none kV__law_deck dc__law_deck pm__law_deck an__law_deck cd__law_deck ct__law_deck), sl__law_deck⟩)
    (cf__law_deck : PySem.W.codeIn K cd__law_deck "_law_deck" = true)
    (kf__law_deck : PySem.W.keepIn K (.ref a__law_deck) = true)
    (af__law_is_integer : PySem.W.nsIn K mainGlobals "_law_is_integer" = some (some (.ref a__law_is_integer)))
    (lf__law_is_integer : K.lookup a__law_is_integer = some ⟨oc__law_is_integer, od__law_is_integer, .func (PySem.W.fnOf "_law_is_integer" "_law_is_integer" (defArgs s__law_is_integer) (defBody s__law_is_integer) (defScope s__law_is_integer) .none kV__law_is_integer dc__law_is_integer pm__law_is_integer an__law_is_integer cd__law_is_integer ct__law_is_integer), sl__law_is_integer⟩)
    (cf__law_is_integer : PySem.W.codeIn K cd__law_is_integer "_law_is_integer" = true)
    (kf__law_is_integer : PySem.W.keepIn K (.ref a__law_is_integer) = true)
    (af__law_low : PySem.W.nsIn K mainGlobals "_law_low" = some (some (.ref a__law_low)))
    (lf__law_low : K.lookup a__law_low = some ⟨oc__law_low, od__law_low, .func (PySem.W.fnOf "_law_low" "_law_low" (defArgs s__law_low) (defBody s__law_low) (defScope s__law_low) .none kV__law_low dc__law_low pm__law_low an__law_low cd__law_low ct__law_low), sl__law_low⟩)
    (cf__law_low : PySem.W.codeIn K cd__law_low "_law_low" = true)
    (kf__law_low : PySem.W.keepIn K (.ref a__law_low) = true)
    (af__law_without_carry : PySem.W.nsIn K mainGlobals "_law_without_carry" = some (some (.ref a__law_without_carry)))
    (lf__law_without_carry : K.lookup a__law_without_carry = some ⟨oc__law_without_carry, od__law_without_carry, .func (PySem.W.fnOf "_law_without_carry" "_law_without_carry" (defArgs s__law_without_carry) (defBody s__law_without_carry) (defScope s__law_without_carry) .none kV__law_without_carry dc__law_without_carry pm__law_without_carry an__law_without_carry cd__law_without_carry ct__law_without_carry), sl__law_without_carry⟩)
    (cf__law_without_carry : PySem.W.codeIn K cd__law_without_carry "_law_without_carry" = true)
    (kf__law_without_carry : PySem.W.keepIn K (.ref a__law_without_carry) = true)
    (af__law_not_possible : PySem.W.nsIn K mainGlobals "_law_not_possible" = some (some (.ref a__law_not_possible)))
    (lf__law_not_possible : K.lookup a__law_not_possible = some ⟨oc__law_not_possible, od__law_not_possible, .func (PySem.W.fnOf "_law_not_possible" "_law_not_possible" (defArgs s__law_not_possible) (defBody s__law_not_possible) (defScope s__law_not_possible) .none kV__law_not_possible dc__law_not_possible pm__law_not_possible an__law_not_possible cd__law_not_possible ct__law_not_possible), sl__law_not_possible⟩)
    (cf__law_not_possible : PySem.W.codeIn K cd__law_not_possible "_law_not_possible" = true)
    (kf__law_not_possible : PySem.W.keepIn K (.ref a__law_not_possible) = true)
    (af__law_deed : PySem.W.nsIn K mainGlobals "_law_deed" = some (some (.ref a__law_deed)))
    (lf__law_deed : K.lookup a__law_deed = some ⟨oc__law_deed, od__law_deed, .func (PySem.W.fnOf "_law_deed" "_law_deed" (defArgs s__law_deed) (defBody s__law_deed) (defScope s__law_deed) .none kV__law_deed dc__law_deed pm__law_deed an__law_deed cd__law_deed ct__law_deed), sl__law_deed⟩)
    (cf__law_deed : PySem.W.codeIn K cd__law_deed "_law_deed" = true)
    (kf__law_deed : PySem.W.keepIn K (.ref a__law_deed) = true)
    (af__law_plan : PySem.W.nsIn K mainGlobals "_law_plan" = some (some (.ref a__law_plan)))
    (lf__law_plan : K.lookup a__law_plan = some ⟨oc__law_plan, od__law_plan, .func (PySem.W.fnOf "_law_plan" "_law_plan" (defArgs s__law_plan) (defBody s__law_plan) (defScope s__law_plan) .none kV__law_plan dc__law_plan pm__law_plan an__law_plan cd__law_plan ct__law_plan), sl__law_plan⟩)
    (cf__law_plan : PySem.W.codeIn K cd__law_plan "_law_plan" = true)
    (kf__law_plan : PySem.W.keepIn K (.ref a__law_plan) = true)
    (af_InvalidSlips___init__ : PySem.W.findIn K (.ref c_InvalidSlips) "__init__" = some (some (.ref a_InvalidSlips___init__)))
    (lf_InvalidSlips___init__ : K.lookup a_InvalidSlips___init__ = some ⟨oc_InvalidSlips___init__, od_InvalidSlips___init__, .func (PySem.W.ksFn "__init__" "InvalidSlips.__init__" (defArgs s_InvalidSlips___init__) (defBody s_InvalidSlips___init__) (defScope s_InvalidSlips___init__) .none kV_InvalidSlips___init__ dc_InvalidSlips___init__ pm_InvalidSlips___init__ an_InvalidSlips___init__ (.ref cda_InvalidSlips___init__) ct_InvalidSlips___init__ cc_InvalidSlips___init__), sl_InvalidSlips___init__⟩)
    (cf_InvalidSlips___init__ : PySem.W.codeIn K (.ref cda_InvalidSlips___init__) "InvalidSlips.__init__" = true)
    (lc_InvalidSlips___init__ : K.lookup cda_InvalidSlips___init__ = some ⟨ccl_InvalidSlips___init__, cdd_InvalidSlips___init__, .fields vs_InvalidSlips___init__, ccs_InvalidSlips___init__⟩)
    (lv_InvalidSlips___init__ : vs_InvalidSlips___init__[2]? = some (.str fi_InvalidSlips___init__ tf_InvalidSlips___init__))
    (hf_InvalidSlips___init__ : ((P.main.file : Str) == fi_InvalidSlips___init__) = true)
    (ce_InvalidSlips___init__ : K.lookup cc_InvalidSlips___init__ = some ⟨cl_InvalidSlips___init__, cld_InvalidSlips___init__, .cell (some (.ref c_InvalidSlips)), csl_InvalidSlips___init__⟩)
    (lC_InvalidSlips___init__ : K.lookup c_InvalidSlips = some (excClassObj nm_InvalidSlips___init__ q_InvalidSlips___init__ c_InvalidSlips N_InvalidSlips___init__ bs_InvalidSlips___init__ bm_InvalidSlips___init__ true sn_InvalidSlips___init__ sub_InvalidSlips___init__ ab_InvalidSlips___init__ col_InvalidSlips___init__ dd_InvalidSlips___init__ k0_InvalidSlips___init__ k1_InvalidSlips___init__ k2_InvalidSlips___init__ k3_InvalidSlips___init__ k5_InvalidSlips___init__ "ValueError.__new__"))
    (rv_InvalidSlips___init__ : PySem.HandSPX.refsVE bm_InvalidSlips___init__ = true)
    (sa_InvalidSlips___init__ : PySem.W.findIn K (.ref c_InvalidSlips) "__setattr__" = some (some (.builtin "object.__setattr__")))
    (eb_InvalidSlips___init__ : PySem.W.subIn K (.ref c_InvalidSlips) (.type "BaseException") = some true)
    (ty_InvalidSlips___init__ : PySem.W.typeIn K (.ref c_InvalidSlips) = some (.type "type"))
    (kc_InvalidSlips___init__ : PySem.W.keepIn K (.ref c_InvalidSlips) = true)
    (h1_InvalidSlips___init__ : PySem.W.mroIn K c_InvalidSlips (.ref c_InvalidSlips) = some true)
    (h3_InvalidSlips___init__ : PySem.W.subIn K (.ref c_InvalidSlips) (.type "ValueError") = some true)
    (h4_InvalidSlips___init__ : PySem.W.ks_superIn K c_InvalidSlips c_InvalidSlips "__init__" = some (some (.builtin "ValueError.__init__")))
    (h5_InvalidSlips___init__ : PySem.W.nsIn K cStatics "thirdparty.any" = some none)
    (h6_InvalidSlips___init__ : PySem.W.findIn K (.ref c_InvalidSlips) "index" = some none)
    (h7_InvalidSlips___init__ : (P.main.scope.names.lookup ("super" : Str)).isSome = false)
    (tI_InvalidSlips___init__ : PySem.W.typeIn K (.ref a_InvalidSlips___init__) = some (.type "function"))
    (pf_Sheet_base : PySem.W.findIn K (.ref c_Sheet) "base" = some (some (.ref pa_Sheet_base)))
    (pg_Sheet_base : PySem.W.specialIn K (.ref pa_Sheet_base) "__get__" = some (some (.builtin "property.__get__")))
    (pt_Sheet_base : PySem.W.takesIn K (.ref pa_Sheet_base) = some true)
    (pr_Sheet_base : PySem.W.recIn K pa_Sheet_base "property" = some (.ref a_Sheet_base :: re_Sheet_base))
    (lf_Sheet_base : K.lookup a_Sheet_base = some ⟨oc_Sheet_base, od_Sheet_base, .func (PySem.W.fnOf "base" "Sheet.base" (defArgs s_Sheet_base) (defBody s_Sheet_base) (defScope s_Sheet_base) .none kV_Sheet_base dc_Sheet_base pm_Sheet_base an_Sheet_base cd_Sheet_base ct_Sheet_base), sl_Sheet_base⟩)
    (cf_Sheet_base : PySem.W.codeIn K cd_Sheet_base "Sheet.base" = true)
    (kf_Sheet_base : PySem.W.keepIn K (.ref a_Sheet_base) = true)
    (af_Written___init__ : PySem.W.findIn K (.ref c_Written) "__init__" = some (some (.ref a_Written___init__)))
    (if_Written___init__ : PySem.W.isFn K (.ref a_Written___init__) = true)
    (lf_Written___init__ : K.lookup a_Written___init__ = some ⟨oc_Written___init__, od_Written___init__, .func (PySem.W.fnOf "__init__" "Written.__init__" (defArgs s_Written___init__) (defBody s_Written___init__) (defScope s_Written___init__) .none kV_Written___init__ dc_Written___init__ pm_Written___init__ an_Written___init__ cd_Written___init__ ct_Written___init__), sl_Written___init__⟩)
    (cf_Written___init__ : PySem.W.codeIn K cd_Written___init__ "Written.__init__" = true)
    (kf_Written___init__ : PySem.W.keepIn K (.ref a_Written___init__) = true)
    (af_do_sum : PySem.W.nsIn K mainGlobals "do_sum" = some (some (.ref a_do_sum)))
    (lf_do_sum : K.lookup a_do_sum = some ⟨oc_do_sum, od_do_sum, .func (PySem.W.fnOf "do_sum" "do_sum" (defArgs s_do_sum) (defBody s_do_sum) (defScope s_do_sum) .none kV_do_sum dc_do_sum pm_do_sum an_do_sum cd_do_sum ct_do_sum), sl_do_sum⟩)
    (cf_do_sum : PySem.W.codeIn K cd_do_sum "do_sum" = true)
    (kf_do_sum : PySem.W.keepIn K (.ref a_do_sum) = true)
    (af_do_columns : PySem.W.nsIn K mainGlobals "do_columns" = some (some (.ref a_do_columns)))
    (lf_do_columns : K.lookup a_do_columns = some ⟨oc_do_columns, od_do_columns, .func (PySem.W.fnOf "do_columns" "do_columns" (defArgs s_do_columns) (defBody s_do_columns) (defScope s_do_columns) .none kV_do_columns dc_do_columns pm_do_columns an_do_columns cd_do_columns ct_do_columns), sl_do_columns⟩)
    (cf_do_columns : PySem.W.codeIn K cd_do_columns "do_columns" = true)
    (kf_do_columns : PySem.W.keepIn K (.ref a_do_columns) = true)
    (af_sum_taken : PySem.W.nsIn K mainGlobals "sum_taken" = some (some (.ref a_sum_taken)))
    (lf_sum_taken : K.lookup a_sum_taken = some ⟨oc_sum_taken, od_sum_taken, .func (PySem.W.fnOf "sum_taken" "sum_taken" (defArgs s_sum_taken) (defBody s_sum_taken) (defScope s_sum_taken) .none kV_sum_taken dc_sum_taken pm_sum_taken an_sum_taken cd_sum_taken ct_sum_taken), sl_sum_taken⟩)
    (cf_sum_taken : PySem.W.codeIn K cd_sum_taken "sum_taken" = true)
    (kf_sum_taken : PySem.W.keepIn K (.ref a_sum_taken) = true)
    (af_do_slip : PySem.W.nsIn K mainGlobals "do_slip" = some (some (.ref a_do_slip)))
    (lf_do_slip : K.lookup a_do_slip = some ⟨oc_do_slip, od_do_slip, .func (PySem.W.fnOf "do_slip" "do_slip" (defArgs s_do_slip) (defBody s_do_slip) (defScope s_do_slip) .none kV_do_slip dc_do_slip pm_do_slip an_do_slip cd_do_slip ct_do_slip), sl_do_slip⟩)
    (cf_do_slip : PySem.W.codeIn K cd_do_slip "do_slip" = true)
    (kf_do_slip : PySem.W.keepIn K (.ref a_do_slip) = true)
    (af_Sheet___len__ : PySem.W.findIn K (.ref c_Sheet) "__len__" = some (some (.ref a_Sheet___len__)))
    (if_Sheet___len__ : PySem.W.isFn K (.ref a_Sheet___len__) = true)
    (lf_Sheet___len__ : K.lookup a_Sheet___len__ = some ⟨oc_Sheet___len__, od_Sheet___len__, .func (PySem.W.fnOf "__len__" "Sheet.__len__" (defArgs s_Sheet___len__) (defBody s_Sheet___len__) (defScope s_Sheet___len__) .none kV_Sheet___len__ dc_Sheet___len__ pm_Sheet___len__ an_Sheet___len__ cd_Sheet___len__ ct_Sheet___len__), sl_Sheet___len__⟩)
    (cf_Sheet___len__ : PySem.W.codeIn K cd_Sheet___len__ "Sheet.__len__" = true)
    (kf_Sheet___len__ : PySem.W.keepIn K (.ref a_Sheet___len__) = true)
    (pf_Sheet_rows : PySem.W.findIn K (.ref c_Sheet) "rows" = some (some (.ref pa_Sheet_rows)))
    (pg_Sheet_rows : PySem.W.specialIn K (.ref pa_Sheet_rows) "__get__" = some (some (.builtin "property.__get__")))
    (pt_Sheet_rows : PySem.W.takesIn K (.ref pa_Sheet_rows) = some true)
    (pr_Sheet_rows : PySem.W.recIn K pa_Sheet_rows "property" = some (.ref a_Sheet_rows :: re_Sheet_rows))
    (lf_Sheet_rows : K.lookup a_Sheet_rows = some ⟨oc_Sheet_rows, od_Sheet_rows, .func (PySem.W.fnOf "rows" "Sheet.rows" (defArgs s_Sheet_rows) (defBody s_Sheet_rows) (defScope s_Sheet_rows) .none kV_Sheet_rows dc_Sheet_rows pm_Sheet_rows an_Sheet_rows cd_Sheet_rows ct_Sheet_rows), sl_Sheet_rows⟩)
    (cf_Sheet_rows : PySem.W.codeIn K cd_Sheet_rows "Sheet.rows" = true)
    (kf_Sheet_rows : PySem.W.keepIn K (.ref a_Sheet_rows) = true)
    (af__is_plain : PySem.W.nsIn K mainGlobals "_is_plain" = some (some (.ref a__is_plain)))
    (lf__is_plain : K.lookup a__is_plain = some ⟨oc__is_plain, od__is_plain, .func (PySem.W.fnOf "_is_plain" "_is_plain" (defArgs s__is_plain) (defBody s__is_plain) (defScope s__is_plain) .none kV__is_plain dc__is_plain pm__is_plain an__is_plain cd__is_plain ct__is_plain), sl__is_plain⟩)
    (cf__is_plain : PySem.W.codeIn K cd__is_plain "_is_plain" = true)
    (kf__is_plain : PySem.W.keepIn K (.ref a__is_plain) = true)
    (af_deeds_of : PySem.W.nsIn K mainGlobals "deeds_of" = some (some (.ref a_deeds_of)))
    (lf_deeds_of : K.lookup a_deeds_of = some ⟨oc_deeds_of, od_deeds_of, .func (PySem.W.fnOf "deeds_of" "deeds_of" (defArgs s_deeds_of) (defBody s_deeds_of) (defScope s_deeds_of) .none kV_deeds_of dc_deeds_of pm_deeds_of an_deeds_of cd_deeds_of ct_deeds_of), sl_deeds_of⟩)
    (cf_deeds_of : PySem.W.codeIn K cd_deeds_of "deeds_of" = true)
    (kf_deeds_of : PySem.W.keepIn K (.ref a_deeds_of) = true)
    (af_is_deed : PySem.W.nsIn K mainGlobals "is_deed" = some (some (.ref a_is_deed)))
    (lf_is_deed : K.lookup a_is_deed = some ⟨oc_is_deed, od_is_deed, .func (PySem.W.fnOf "is_deed" "is_deed" (defArgs s_is_deed) (defBody s_is_deed) (defScope s_is_deed) .none kV_is_deed dc_is_deed pm_is_deed an_is_deed cd_is_deed ct_is_deed), sl_is_deed⟩)
    (cf_is_deed : PySem.W.codeIn K cd_is_deed "is_deed" = true)
    (kf_is_deed : PySem.W.keepIn K (.ref a_is_deed) = true)
    (af_is_slip : PySem.W.nsIn K mainGlobals "is_slip" = some (some (.ref a_is_slip)))
    (lf_is_slip : K.lookup a_is_slip = some ⟨oc_is_slip, od_is_slip, .func (PySem.W.fnOf "is_slip" "is_slip" (defArgs s_is_slip) (defBody s_is_slip) (defScope s_is_slip) .none kV_is_slip dc_is_slip pm_is_slip an_is_slip cd_is_slip ct_is_slip), sl_is_slip⟩)
    (cf_is_slip : PySem.W.codeIn K cd_is_slip "is_slip" = true)
    (kf_is_slip : PySem.W.keepIn K (.ref a_is_slip) = true)
    (af_add_with : PySem.W.nsIn K mainGlobals "add_with" = some (some (.ref a_add_with)))
    (lf_add_with : K.lookup a_add_with = some ⟨oc_add_with, od_add_with, .func (PySem.W.fnOf "add_with" "add_with" (defArgs s_add_with) (defBody s_add_with) (defScope s_add_with) .none kV_add_with dc_add_with pm_add_with an_add_with cd_add_with ct_add_with), sl_add_with⟩)
    (cf_add_with : PySem.W.codeIn K cd_add_with "add_with" = true)
    (kf_add_with : PySem.W.keepIn K (.ref a_add_with) = true)
    (af__law_refused : PySem.W.nsIn K mainGlobals "_law_refused" = some (some (.ref a__law_refused)))
    (lf__law_refused : K.lookup a__law_refused = some ⟨oc__law_refused, od__law_refused, .func (PySem.W.fnOf "_law_refused" "_law_refused" (defArgs s__law_refused) (defBody s__law_refused) (defScope s__law_refused) .none kV__law_refused dc__law_refused pm__law_refused an__law_refused cd__law_refused ct__law_refused), sl__law_refused⟩)
    (cf__law_refused : PySem.W.codeIn K cd__law_refused "_law_refused" = true)
    (kf__law_refused : PySem.W.keepIn K (.ref a__law_refused) = true)
    (af__law_slips : PySem.W.nsIn K mainGlobals "_law_slips" = some (some (.ref a__law_slips)))
    (lf__law_slips : K.lookup a__law_slips = some ⟨oc__law_slips, od__law_slips, .func (PySem.W.fnOf "_law_slips" "_law_slips" (defArgs s__law_slips) (defBody s__law_slips) (defScope s__law_slips) .none kV__law_slips dc__law_slips pm__law_slips an__law_slips cd__law_slips ct__law_slips), sl__law_slips⟩)
    (cf__law_slips : PySem.W.codeIn K cd__law_slips "_law_slips" = true)
    (kf__law_slips : PySem.W.keepIn K (.ref a__law_slips) = true)
    (pf_Written_base : PySem.W.findIn K (.ref c_Written) "base" = some (some (.ref pa_Written_base)))
    (pg_Written_base : PySem.W.specialIn K (.ref pa_Written_base) "__get__" = some (some (.builtin "property.__get__")))
    (pt_Written_base : PySem.W.takesIn K (.ref pa_Written_base) = some true)
    (pr_Written_base : PySem.W.recIn K pa_Written_base "property" = some (.ref a_Written_base :: re_Written_base))
    (lf_Written_base : K.lookup a_Written_base = some ⟨oc_Written_base, od_Written_base, .func (PySem.W.fnOf "base" "Written.base" (defArgs s_Written_base) (defBody s_Written_base) (defScope s_Written_base) .none kV_Written_base dc_Written_base pm_Written_base an_Written_base cd_Written_base ct_Written_base), sl_Written_base⟩)
    (cf_Written_base : PySem.W.codeIn K cd_Written_base "Written.base" = true)
    (kf_Written_base : PySem.W.keepIn K (.ref a_Written_base) = true)
    (pf_Written_figures : PySem.W.findIn K (.ref c_Written) "figures" = some (some (.ref pa_Written_figures)))
    (pg_Written_figures : PySem.W.specialIn K (.ref pa_Written_figures) "__get__" = some (some (.builtin "property.__get__")))
    (pt_Written_figures : PySem.W.takesIn K (.ref pa_Written_figures) = some true)
    (pr_Written_figures : PySem.W.recIn K pa_Written_figures "property" = some (.ref a_Written_figures :: re_Written_figures))
    (lf_Written_figures : K.lookup a_Written_figures = some ⟨oc_Written_figures, od_Written_figures, .func (PySem.W.fnOf "figures" "Written.figures" (defArgs s_Written_figures) (defBody s_Written_figures) (defScope s_Written_figures) .none kV_Written_figures dc_Written_figures pm_Written_figures an_Written_figures cd_Written_figures ct_Written_figures), sl_Written_figures⟩)
    (cf_Written_figures : PySem.W.codeIn K cd_Written_figures "Written.figures" = true)
    (kf_Written_figures : PySem.W.keepIn K (.ref a_Written_figures) = true)
    (pf_Written_last : PySem.W.findIn K (.ref c_Written) "last" = some (some (.ref pa_Written_last)))
    (pg_Written_last : PySem.W.specialIn K (.ref pa_Written_last) "__get__" = some (some (.builtin "property.__get__")))
    (pt_Written_last : PySem.W.takesIn K (.ref pa_Written_last) = some true)
    (pr_Written_last : PySem.W.recIn K pa_Written_last "property" = some (.ref a_Written_last :: re_Written_last))
    (lf_Written_last : K.lookup a_Written_last = some ⟨oc_Written_last, od_Written_last, .func (PySem.W.fnOf "last" "Written.last" (defArgs s_Written_last) (defBody s_Written_last) (defScope s_Written_last) .none kV_Written_last dc_Written_last pm_Written_last an_Written_last cd_Written_last ct_Written_last), sl_Written_last⟩)
    (cf_Written_last : PySem.W.codeIn K cd_Written_last "Written.last" = true)
    (kf_Written_last : PySem.W.keepIn K (.ref a_Written_last) = true)
    (af__law_written_right : PySem.W.nsIn K mainGlobals "_law_written_right" = some (some (.ref a__law_written_right)))
    (lf__law_written_right : K.lookup a__law_written_right = some ⟨oc__law_written_right, od__law_written_right, .func (PySem.W.fnOf "_law_written_right" "_law_written_right" (defArgs s__law_written_right) (defBody s__law_written_right) (defScope s__law_written_right) .none kV__law_written_right dc__law_written_right pm__law_written_right an__law_written_right cd__law_written_right ct__law_written_right), sl__law_written_right⟩)
    (cf__law_written_right : PySem.W.codeIn K cd__law_written_right "_law_written_right" = true)
    (kf__law_written_right : PySem.W.keepIn K (.ref a__law_written_right) = true)
    (af_law : PySem.W.nsIn K mainGlobals "law" = some (some (.ref a_law)))
    (lf_law : K.lookup a_law = some ⟨oc_law, od_law, .func (PySem.W.fnOf "law" "law" (defArgs s_law) (defBody s_law) (defScope s_law) .none kV_law dc_law pm_law an_law cd_law ct_law), sl_law⟩)
    (cf_law : PySem.W.codeIn K cd_law "law" = true)
    (kf_law : PySem.W.keepIn K (.ref a_law) = true)
    (pg_Sheet : PySem.W.plainGet K c_Sheet Str.empty = true)
    (hd_Sheet : PySem.W.hasDictIn K c_Sheet = true)
    (po_Sheet : PySem.W.plainOver K c_Sheet = true)
    (sa_Sheet : PySem.W.findIn K (.ref c_Sheet) "__setattr__" = some (some (.builtin "object.__setattr__")))
    (mk_Sheet : PySem.W.makesIn K c_Sheet = true)
    (kc_Sheet : PySem.W.keepIn K (.ref c_Sheet) = true)
    (na_Sheet__base : PySem.W.findIn K (.ref c_Sheet) "_base" = some none)
    (na_Sheet__columns : PySem.W.findIn K (.ref c_Sheet) "_columns" = some none)
    (na_Sheet__rows : PySem.W.findIn K (.ref c_Sheet) "_rows" = some none)
    (pg_Written : PySem.W.plainGet K c_Written Str.empty = true)
    (hd_Written : PySem.W.hasDictIn K c_Written = true)
    (po_Written : PySem.W.plainOver K c_Written = true)
    (sa_Written : PySem.W.findIn K (.ref c_Written) "__setattr__" = some (some (.builtin "object.__setattr__")))
    (mk_Written : PySem.W.makesIn K c_Written = true)
    (kc_Written : PySem.W.keepIn K (.ref c_Written) = true)
    (na_Written__base : PySem.W.findIn K (.ref c_Written) "_base" = some none)
    (na_Written__figures : PySem.W.findIn K (.ref c_Written) "_figures" = some none)
    (na_Written__last : PySem.W.findIn K (.ref c_Written) "_last" = some none)
    (x_InvalidSheet : PySem.W.excIn K c_InvalidSheet [.type "ValueError", .type "Exception", .type "BaseException", .type "object"] "ValueError.__new__" = true)
    (xk_InvalidSheet : PySem.W.keepIn K (.ref c_InvalidSheet) = true)
    (xb_InvalidSheet : PySem.W.subIn K (.ref c_InvalidSheet) (.type "BaseException") = some true)
    (xt_InvalidSheet : PySem.W.typeIn K (.ref c_InvalidSheet) = some (.type "type"))
    (icn : PySem.W.specialIn K (.builtin "object.__class__") "__get__" = some (some (.builtin "getset_descriptor.__get__")))
    (ict : PySem.W.takesIn K (.builtin "object.__class__") = some true)
    (xb_InvalidSlips : PySem.W.subIn K (.ref c_InvalidSlips) (.type "BaseException") = some true)
    (e1_InvalidSlips : PySem.W.findIn K (.ref c_InvalidSlips) "__getattribute__" = some (some (.builtin "BaseException.__getattribute__")))
    (e2_InvalidSlips : PySem.W.findIn K (.ref c_InvalidSlips) "__getattr__" = some none)
    (e3_InvalidSlips : PySem.W.hasDictIn K c_InvalidSlips = true)
    (e4_InvalidSlips : PySem.W.findIn K (.ref c_InvalidSlips) "__class__" = some (some (.builtin "object.__class__")))
    (e5_InvalidSlips : PySem.W.mroIn K c_InvalidSlips (.type "object") = some true)
    (q_InvalidSlips_SlipError : PySem.W.kitOne K (.ref c_InvalidSlips) (.ref c_SlipError) = some true)
    (em_InvalidSlips_InvalidSlips : PySem.W.exmOne K (.ref c_InvalidSlips) (.ref c_InvalidSlips) = some true)
    (q_InvalidSlips_ValueError : PySem.W.kitOne K (.ref c_InvalidSlips) (.type "ValueError") = some true)
    (qa_InvalidSlips_1 : PySem.W.kitAny K (.ref c_InvalidSlips) [.ref c_InvalidSheet, .ref c_InvalidCommand, .ref c_InvalidKind, .ref c_InvalidLot, .ref c_InvalidColumn, .ref c_InvalidText] = some false)
    (qa_InvalidSlips_2 : PySem.W.kitAny K (.ref c_InvalidSlips) [.ref c_NotAlike, .ref c_NotPossible, .ref c_NotReady, .ref c_NothingToUndo, .ref c_TooMany, .ref c_Waits] = some false)
    (nb_ValueError : PySem.W.nsIn K mainGlobals "ValueError" = some none)
    (nb_all : PySem.W.nsIn K mainGlobals "all" = some none)
    (nb_bool : PySem.W.nsIn K mainGlobals "bool" = some none)
    (nb_enumerate : PySem.W.nsIn K mainGlobals "enumerate" = some none)
    (nb_int : PySem.W.nsIn K mainGlobals "int" = some none)
    (nb_isinstance : PySem.W.nsIn K mainGlobals "isinstance" = some none)
    (nb_len : PySem.W.nsIn K mainGlobals "len" = some none)
    (nb_list : PySem.W.nsIn K mainGlobals "list" = some none)
    (nb_max : PySem.W.nsIn K mainGlobals "max" = some none)
    (nb_range : PySem.W.nsIn K mainGlobals "range" = some none)
    (nb_str : PySem.W.nsIn K mainGlobals "str" = some none)
    (nb_sum : PySem.W.nsIn K mainGlobals "sum" = some none)
    (nb_super : PySem.W.nsIn K mainGlobals "super" = some none)
    (nb_tuple : PySem.W.nsIn K mainGlobals "tuple" = some none)
    (ak_MOST_BASE : PySem.W.nsIn K mainGlobals "MOST_BASE" = some (some (.int 12 tk_MOST_BASE)))
    (ak_MOST_ROWS : PySem.W.nsIn K mainGlobals "MOST_ROWS" = some (some (.int 4 tk_MOST_ROWS)))
    : Txt P K mg where
  c_Sheet := c_Sheet
  m_Sheet := PySem.W.mg_of X G ac_Sheet
  c_Written := c_Written
  m_Written := PySem.W.mg_of X G ac_Written
  c_SlipError := c_SlipError
  m_SlipError := PySem.W.mg_of X G ac_SlipError
  c_InvalidSheet := c_InvalidSheet
  m_InvalidSheet := PySem.W.mg_of X G ac_InvalidSheet
  c_InvalidColumn := c_InvalidColumn
  m_InvalidColumn := PySem.W.mg_of X G ac_InvalidColumn
  c_InvalidKind := c_InvalidKind
  m_InvalidKind := PySem.W.mg_of X G ac_InvalidKind
  c_InvalidLot := c_InvalidLot
  m_InvalidLot := PySem.W.mg_of X G ac_InvalidLot
  c_NotAlike := c_NotAlike
  m_NotAlike := PySem.W.mg_of X G ac_NotAlike
  c_NotPossible := c_NotPossible
  m_NotPossible := PySem.W.mg_of X G ac_NotPossible
  c_TooMany := c_TooMany
  m_TooMany := PySem.W.mg_of X G ac_TooMany
  c_Waits := c_Waits
  m_Waits := PySem.W.mg_of X G ac_Waits
  c_InvalidText := c_InvalidText
  m_InvalidText := PySem.W.mg_of X G ac_InvalidText
  c_InvalidCommand := c_InvalidCommand
  m_InvalidCommand := PySem.W.mg_of X G ac_InvalidCommand
  c_NothingToUndo := c_NothingToUndo
  m_NothingToUndo := PySem.W.mg_of X G ac_NothingToUndo
  c_NotReady := c_NotReady
  m_NotReady := PySem.W.mg_of X G ac_NotReady
  c_InvalidSlips := c_InvalidSlips
  m_InvalidSlips := PySem.W.mg_of X G ac_InvalidSlips
  a_is_whole := a_is_whole
  fd_is_whole := PySem.W.fnOf "is_whole" "is_whole" (defArgs s_is_whole) (defBody s_is_whole) (defScope s_is_whole) .none kV_is_whole dc_is_whole pm_is_whole an_is_whole cd_is_whole ct_is_whole
  F_is_whole := fun_mk (st := s_is_whole) lf_is_whole cf_is_whole kf_is_whole
  b_is_whole := (fun_mk (st := s_is_whole) lf_is_whole cf_is_whole kf_is_whole).binds (ps := ["value", "low", "high"]) fun _ _ _ _ _ _ us hl => match us, hl with | [_, _, _], _ => rfl
  m_is_whole := PySem.W.mg_of X G af_is_whole
  a_is_column := a_is_column
  fd_is_column := PySem.W.fnOf "is_column" "is_column" (defArgs s_is_column) (defBody s_is_column) (defScope s_is_column) .none kV_is_column dc_is_column pm_is_column an_is_column cd_is_column ct_is_column
  F_is_column := fun_mk (st := s_is_column) lf_is_column cf_is_column kf_is_column
  b_is_column := (fun_mk (st := s_is_column) lf_is_column cf_is_column kf_is_column).binds (ps := ["base", "rows", "value"]) fun _ _ _ _ _ _ us hl => match us, hl with | [_, _, _], _ => rfl
  m_is_column := PySem.W.mg_of X G af_is_column
  a__are_columns := a__are_columns
  fd__are_columns := PySem.W.fnOf "_are_columns" "_are_columns" (defArgs s__are_columns) (defBody s__are_columns) (defScope s__are_columns) .none kV__are_columns dc__are_columns pm__are_columns an__are_columns cd__are_columns ct__are_columns
  F__are_columns := fun_mk (st := s__are_columns) lf__are_columns cf__are_columns kf__are_columns
  b__are_columns := (fun_mk (st := s__are_columns) lf__are_columns cf__are_columns kf__are_columns).binds (ps := ["base", "rows", "value"]) fun _ _ _ _ _ _ us hl => match us, hl with | [_, _, _], _ => rfl
  m__are_columns := PySem.W.mg_of X G af__are_columns
  a_is_base := a_is_base
  fd_is_base := PySem.W.fnOf "is_base" "is_base" (defArgs s_is_base) (defBody s_is_base) (defScope s_is_base) .none kV_is_base dc_is_base pm_is_base an_is_base cd_is_base ct_is_base
  F_is_base := fun_mk (st := s_is_base) lf_is_base cf_is_base kf_is_base
  b_is_base := (fun_mk (st := s_is_base) lf_is_base cf_is_base kf_is_base).binds (ps := ["value"]) fun _ _ _ _ _ _ us hl => match us, hl with | [_], _ => rfl
  m_is_base := PySem.W.mg_of X G af_is_base
  a_is_rows := a_is_rows
  fd_is_rows := PySem.W.fnOf "is_rows" "is_rows" (defArgs s_is_rows) (defBody s_is_rows) (defScope s_is_rows) .none kV_is_rows dc_is_rows pm_is_rows an_is_rows cd_is_rows ct_is_rows
  F_is_rows := fun_mk (st := s_is_rows) lf_is_rows cf_is_rows kf_is_rows
  b_is_rows := (fun_mk (st := s_is_rows) lf_is_rows cf_is_rows kf_is_rows).binds (ps := ["value"]) fun _ _ _ _ _ _ us hl => match us, hl with | [_], _ => rfl
  m_is_rows := PySem.W.mg_of X G af_is_rows
  a_Sheet___init__ := a_Sheet___init__
  fd_Sheet___init__ := PySem.W.fnOf "__init__" "Sheet.__init__" (defArgs s_Sheet___init__) (defBody s_Sheet___init__) (defScope s_Sheet___init__) .none kV_Sheet___init__ dc_Sheet___init__ pm_Sheet___init__ an_Sheet___init__ cd_Sheet___init__ ct_Sheet___init__
  F_Sheet___init__ := fun_mk (st := s_Sheet___init__) lf_Sheet___init__ cf_Sheet___init__ kf_Sheet___init__
  b_Sheet___init__ := (fun_mk (st := s_Sheet___init__) lf_Sheet___init__ cf_Sheet___init__ kf_Sheet___init__).binds (ps := ["self", "base", "rows", "columns"]) fun _ _ _ _ _ _ us hl => match us, hl with | [_, _, _, _], _ => rfl
  me_Sheet___init__ := ⟨af_Sheet___init__, if_Sheet___init__, kf_Sheet___init__⟩
  a_Sheet_columns := a_Sheet_columns
  fd_Sheet_columns := PySem.W.fnOf "columns" "Sheet.columns" (defArgs s_Sheet_columns) (defBody s_Sheet_columns) (defScope s_Sheet_columns) .none kV_Sheet_columns dc_Sheet_columns pm_Sheet_columns an_Sheet_columns cd_Sheet_columns ct_Sheet_columns
  F_Sheet_columns := fun_mk (st := s_Sheet_columns) lf_Sheet_columns cf_Sheet_columns kf_Sheet_columns
  b_Sheet_columns := (fun_mk (st := s_Sheet_columns) lf_Sheet_columns cf_Sheet_columns kf_Sheet_columns).binds (ps := ["self"]) fun _ _ _ _ _ _ us hl => match us, hl with | [_], _ => rfl
  pa_Sheet_columns := pa_Sheet_columns
  p_Sheet_columns := ⟨pf_Sheet_columns, pg_Sheet_columns, pt_Sheet_columns, ⟨_, pr_Sheet_columns⟩⟩
  a__law_taken := a__law_taken
  fd__law_taken := PySem.W.fnOf "_law_taken" "_law_taken" (defArgs s__law_taken) (defBody s__law_taken) (defScope s__law_taken) .none kV__law_taken dc__law_taken pm__law_taken an__law_taken cd__law_taken ct__law_taken
  F__law_taken := fun_mk (st := s__law_taken) lf__law_taken cf__law_taken kf__law_taken
  b__law_taken := (fun_mk (st := s__law_taken) lf__law_taken cf__law_taken kf__law_taken).binds (ps := ["base", "columns", "i", "deed"]) fun _ _ _ _ _ _ us hl => match us, hl with | [_, _, _, _], _ => rfl
  m__law_taken := PySem.W.mg_of X G af__law_taken
  a__law_step := a__law_step
  fd__law_step := PySem.W.fnOf "_law_step" "_law_step" (defArgs s__law_step) (defBody s__law_step) (defScope s__law_step) .none kV__law_step dc__law_step pm__law_step an__law_step cd__law_step ct__law_step
  F__law_step := fun_mk (st := s__law_step) lf__law_step cf__law_step kf__law_step
  b__law_step := (fun_mk (st := s__law_step) lf__law_step cf__law_step kf__law_step).binds (ps := ["base", "columns", "i", "deed", "carry"]) fun _ _ _ _ _ _ us hl => match us, hl with | [_, _, _, _, _], _ => rfl
  m__law_step := PySem.W.mg_of X G af__law_step
  a__law_add := a__law_add
  fd__law_add := PySem.W.fnOf "_law_add" "_law_add" (defArgs s__law_add) (defBody s__law_add) (defScope s__law_add) .none kV__law_add dc__law_add pm__law_add an__law_add cd__law_add ct__law_add
  F__law_add := fun_mk (st := s__law_add) lf__law_add cf__law_add kf__law_add
  b__law_add := (fun_mk (st := s__law_add) lf__law_add cf__law_add kf__law_add).binds (ps := ["base", "columns", "deeds"]) fun _ _ _ _ _ _ us hl => match us, hl with | [_, _, _], _ => rfl
  m__law_add := PySem.W.mg_of X G af__law_add
  a__law_draw := a__law_draw
  fd__law_draw := PySem.W.fnOf "_law_draw" "_law_draw" (defArgs s__law_draw) (defBody s__law_draw) (defScope s__law_draw) .none kV__law_draw dc__law_draw pm__law_draw an__law_draw cd__law_draw ct__law_draw
  F__law_draw := fun_mk (st := s__law_draw) lf__law_draw cf__law_draw kf__law_draw
  b__law_draw := (fun_mk (st := s__law_draw) lf__law_draw cf__law_draw kf__law_draw).binds (ps := ["deck", "many"]) fun _ _ _ _ _ _ us hl => match us, hl with | [_, _], _ => rfl
  m__law_draw := PySem.W.mg_of X G af__law_draw
  a__law_bad_deed := a__law_bad_deed
  fd__law_bad_deed := PySem.W.fnOf "_law_bad_deed" "_law_bad_deed" (defArgs s__law_bad_deed) (defBody s__law_bad_deed) (defScope s__law_bad_deed) .none kV__law_bad_deed dc__law_bad_deed pm__law_bad_deed an__law_bad_deed cd__law_bad_deed ct__law_bad_deed
  F__law_bad_deed := fun_mk (st := s__law_bad_deed) lf__law_bad_deed cf__law_bad_deed kf__law_bad_deed
  b__law_bad_deed := (fun_mk (st := s__law_bad_deed) lf__law_bad_deed cf__law_bad_deed kf__law_bad_deed).binds (ps := ["deck", "base", "rows"]) fun _ _ _ _ _ _ us hl => match us, hl with | [_, _, _], _ => rfl
  m__law_bad_deed := PySem.W.mg_of X G af__law_bad_deed
  a__law_bad_item := a__law_bad_item
  fd__law_bad_item := PySem.W.fnOf "_law_bad_item" "_law_bad_item" (defArgs s__law_bad_item) (defBody s__law_bad_item) (defScope s__law_bad_item) .none kV__law_bad_item dc__law_bad_item pm__law_bad_item an__law_bad_item cd__law_bad_item ct__law_bad_item
  F__law_bad_item := fun_mk (st := s__law_bad_item) lf__law_bad_item cf__law_bad_item kf__law_bad_item
  b__law_bad_item := (fun_mk (st := s__law_bad_item) lf__law_bad_item cf__law_bad_item kf__law_bad_item).binds (ps := ["deck", "base", "rows", "columns", "low"]) fun _ _ _ _ _ _ us hl => match us, hl with | [_, _, _, _, _], _ => rfl
  m__law_bad_item := PySem.W.mg_of X G af__law_bad_item
  a__law_cells := a__law_cells
  fd__law_cells := PySem.W.fnOf "_law_cells" "_law_cells" (defArgs s__law_cells) (defBody s__law_cells) (defScope s__law_cells) .none kV__law_cells dc__law_cells pm__law_cells an__law_cells cd__law_cells ct__law_cells
  F__law_cells := fun_mk (st := s__law_cells) lf__law_cells cf__law_cells kf__law_cells
  b__law_cells := (fun_mk (st := s__law_cells) lf__law_cells cf__law_cells kf__law_cells).binds (ps := ["script"]) fun _ _ _ _ _ _ us hl => match us, hl with | [_], _ => rfl
  m__law_cells := PySem.W.mg_of X G af__law_cells
  a__law_column := a__law_column
  fd__law_column := PySem.W.fnOf "_law_column" "_law_column" (defArgs s__law_column) (defBody s__law_column) (defScope s__law_column) .none kV__law_column dc__law_column pm__law_column an__law_column cd__law_column ct__law_column
  F__law_column := fun_mk (st := s__law_column) lf__law_column cf__law_column kf__law_column
  b__law_column := (fun_mk (st := s__law_column) lf__law_column cf__law_column kf__law_column).binds (ps := ["deck", "base", "rows"]) fun _ _ _ _ _ _ us hl => match us, hl with | [_, _, _], _ => rfl
  m__law_column := PySem.W.mg_of X G af__law_column
  a__law_columns := a__law_columns
  fd__law_columns := PySem.W.fnOf "_law_columns" "_law_columns" (defArgs s__law_columns) (defBody s__law_columns) (defScope s__law_columns) .none kV__law_columns dc__law_columns pm__law_columns an__law_columns cd__law_columns ct__law_columns
  F__law_columns := fun_mk (st := s__law_columns) lf__law_columns cf__law_columns kf__law_columns
  b__law_columns := (fun_mk (st := s__law_columns) lf__law_columns cf__law_columns kf__law_columns).binds (ps := ["deck", "base", "rows", "most"]) fun _ _ _ _ _ _ us hl => match us, hl with | [_, _, _, _], _ => rfl
  m__law_columns := PySem.W.mg_of X G af__law_columns
  a__law_deck := a__law_deck
  fd__law_deck := PySem.W.fnOf "_law_deck" "_law_deck" (defArgs s__law_deck) (defBody s__law_deck) (defScope s__law_deck) .none kV__law_deck dc__law_deck pm__law_deck an__law_deck cd__law_deck ct__law_deck
  F__law_deck := fun_mk (st := s__law_deck) lf__law_deck cf__law_deck kf__law_deck
  b__law_deck := (fun_mk (st := s__law_deck) lf__law_deck cf__law_deck kf__law_deck).binds (ps := ["cell"]) fun _ _ _ _ _ _ us hl => match us, hl with | [_], _ => rfl
  m__law_deck := PySem.W.mg_of X G af__law_deck
  a__law_is_integer := a__law_is_integer
  fd__law_is_integer := PySem.W.fnOf "_law_is_integer" "_law_is_integer" (defArgs s__law_is_integer) (defBody s__law_is_integer) (defScope s__law_is_integer) .none kV__law_is_integer dc__law_is_integer pm__law_is_integer an__law_is_integer cd__law_is_integer ct__law_is_integer
  F__law_is_integer := fun_mk (st := s__law_is_integer) lf__law_is_integer cf__law_is_integer kf__law_is_integer
  b__law_is_integer := (fun_mk (st := s__law_is_integer) lf__law_is_integer cf__law_is_integer kf__law_is_integer).binds (ps := ["found"]) fun _ _ _ _ _ _ us hl => match us, hl with | [_], _ => rfl
  m__law_is_integer := PySem.W.mg_of X G af__law_is_integer
  a__law_low := a__law_low
  fd__law_low := PySem.W.fnOf "_law_low" "_law_low" (defArgs s__law_low) (defBody s__law_low) (defScope s__law_low) .none kV__law_low dc__law_low pm__law_low an__law_low cd__law_low ct__law_low
  F__law_low := fun_mk (st := s__law_low) lf__law_low cf__law_low kf__law_low
  b__law_low := (fun_mk (st := s__law_low) lf__law_low cf__law_low kf__law_low).binds (ps := ["slips"]) fun _ _ _ _ _ _ us hl => match us, hl with | [_], _ => rfl
  m__law_low := PySem.W.mg_of X G af__law_low
  a__law_without_carry := a__law_without_carry
  fd__law_without_carry := PySem.W.fnOf "_law_without_carry" "_law_without_carry" (defArgs s__law_without_carry) (defBody s__law_without_carry) (defScope s__law_without_carry) .none kV__law_without_carry dc__law_without_carry pm__law_without_carry an__law_without_carry cd__law_without_carry ct__law_without_carry
  F__law_without_carry := fun_mk (st := s__law_without_carry) lf__law_without_carry cf__law_without_carry kf__law_without_carry
  b__law_without_carry := (fun_mk (st := s__law_without_carry) lf__law_without_carry cf__law_without_carry kf__law_without_carry).binds (ps := ["base", "columns", "deeds", "low"]) fun _ _ _ _ _ _ us hl => match us, hl with | [_, _, _, _], _ => rfl
  m__law_without_carry := PySem.W.mg_of X G af__law_without_carry
  a__law_not_possible := a__law_not_possible
  fd__law_not_possible := PySem.W.fnOf "_law_not_possible" "_law_not_possible" (defArgs s__law_not_possible) (defBody s__law_not_possible) (defScope s__law_not_possible) .none kV__law_not_possible dc__law_not_possible pm__law_not_possible an__law_not_possible cd__law_not_possible ct__law_not_possible
  F__law_not_possible := fun_mk (st := s__law_not_possible) lf__law_not_possible cf__law_not_possible kf__law_not_possible
  b__law_not_possible := (fun_mk (st := s__law_not_possible) lf__law_not_possible cf__law_not_possible kf__law_not_possible).binds (ps := ["deck", "base", "rows", "columns", "deeds", "low"]) fun _ _ _ _ _ _ us hl => match us, hl with | [_, _, _, _, _, _], _ => rfl
  m__law_not_possible := PySem.W.mg_of X G af__law_not_possible
  a__law_deed := a__law_deed
  fd__law_deed := PySem.W.fnOf "_law_deed" "_law_deed" (defArgs s__law_deed) (defBody s__law_deed) (defScope s__law_deed) .none kV__law_deed dc__law_deed pm__law_deed an__law_deed cd__law_deed ct__law_deed
  F__law_deed := fun_mk (st := s__law_deed) lf__law_deed cf__law_deed kf__law_deed
  b__law_deed := (fun_mk (st := s__law_deed) lf__law_deed cf__law_deed kf__law_deed).binds (ps := ["deck", "base", "rows"]) fun _ _ _ _ _ _ us hl => match us, hl with | [_, _, _], _ => rfl
  m__law_deed := PySem.W.mg_of X G af__law_deed
  a__law_plan := a__law_plan
  fd__law_plan := PySem.W.fnOf "_law_plan" "_law_plan" (defArgs s__law_plan) (defBody s__law_plan) (defScope s__law_plan) .none kV__law_plan dc__law_plan pm__law_plan an__law_plan cd__law_plan ct__law_plan
  F__law_plan := fun_mk (st := s__law_plan) lf__law_plan cf__law_plan kf__law_plan
  b__law_plan := (fun_mk (st := s__law_plan) lf__law_plan cf__law_plan kf__law_plan).binds (ps := ["deck", "base", "rows", "columns", "often"]) fun _ _ _ _ _ _ us hl => match us, hl with | [_, _, _, _, _], _ => rfl
  m__law_plan := PySem.W.mg_of X G af__law_plan
  a_InvalidSlips___init__ := a_InvalidSlips___init__
  fd_InvalidSlips___init__ := PySem.W.ksFn "__init__" "InvalidSlips.__init__" (defArgs s_InvalidSlips___init__) (defBody s_InvalidSlips___init__) (defScope s_InvalidSlips___init__) .none kV_InvalidSlips___init__ dc_InvalidSlips___init__ pm_InvalidSlips___init__ an_InvalidSlips___init__ (.ref cda_InvalidSlips___init__) ct_InvalidSlips___init__ cc_InvalidSlips___init__
  sup_InvalidSlips := supC_mk lf_InvalidSlips___init__ cf_InvalidSlips___init__ lc_InvalidSlips___init__ lv_InvalidSlips___init__ hf_InvalidSlips___init__ ce_InvalidSlips___init__ lC_InvalidSlips___init__ rv_InvalidSlips___init__ sa_InvalidSlips___init__ eb_InvalidSlips___init__ ty_InvalidSlips___init__ kc_InvalidSlips___init__ h1_InvalidSlips___init__ (PySem.W.mg_none_of X G nb_super) h3_InvalidSlips___init__ h4_InvalidSlips___init__ h5_InvalidSlips___init__ h6_InvalidSlips___init__ h7_InvalidSlips___init__
  sx_InvalidSlips := ⟨⟨⟨_, _, _, _, _, _, _, _, _, _, _, _, _, _, _, lC_InvalidSlips___init__, rv_InvalidSlips___init__⟩, sa_InvalidSlips___init__, eb_InvalidSlips___init__, ty_InvalidSlips___init__, kc_InvalidSlips___init__⟩, af_InvalidSlips___init__, tI_InvalidSlips___init__, .all fun us hl => match us, hl with | [_, _], _ => rfl⟩
  a_Sheet_base := a_Sheet_base
  fd_Sheet_base := PySem.W.fnOf "base" "Sheet.base" (defArgs s_Sheet_base) (defBody s_Sheet_base) (defScope s_Sheet_base) .none kV_Sheet_base dc_Sheet_base pm_Sheet_base an_Sheet_base cd_Sheet_base ct_Sheet_base
  F_Sheet_base := fun_mk (st := s_Sheet_base) lf_Sheet_base cf_Sheet_base kf_Sheet_base
  b_Sheet_base := (fun_mk (st := s_Sheet_base) lf_Sheet_base cf_Sheet_base kf_Sheet_base).binds (ps := ["self"]) fun _ _ _ _ _ _ us hl => match us, hl with | [_], _ => rfl
  pa_Sheet_base := pa_Sheet_base
  p_Sheet_base := ⟨pf_Sheet_base, pg_Sheet_base, pt_Sheet_base, ⟨_, pr_Sheet_base⟩⟩
  a_Written___init__ := a_Written___init__
  fd_Written___init__ := PySem.W.fnOf "__init__" "Written.__init__" (defArgs s_Written___init__) (defBody s_Written___init__) (defScope s_Written___init__) .none kV_Written___init__ dc_Written___init__ pm_Written___init__ an_Written___init__ cd_Written___init__ ct_Written___init__
  F_Written___init__ := fun_mk (st := s_Written___init__) lf_Written___init__ cf_Written___init__ kf_Written___init__
  b_Written___init__ := (fun_mk (st := s_Written___init__) lf_Written___init__ cf_Written___init__ kf_Written___init__).binds (ps := ["self", "base", "figures", "last"]) fun _ _ _ _ _ _ us hl => match us, hl with | [_, _, _, _], _ => rfl
  me_Written___init__ := ⟨af_Written___init__, if_Written___init__, kf_Written___init__⟩
  a_do_sum := a_do_sum
  fd_do_sum := PySem.W.fnOf "do_sum" "do_sum" (defArgs s_do_sum) (defBody s_do_sum) (defScope s_do_sum) .none kV_do_sum dc_do_sum pm_do_sum an_do_sum cd_do_sum ct_do_sum
  F_do_sum := fun_mk (st := s_do_sum) lf_do_sum cf_do_sum kf_do_sum
  b_do_sum := (fun_mk (st := s_do_sum) lf_do_sum cf_do_sum kf_do_sum).binds (ps := ["base", "taken", "carry", "deed"]) fun _ _ _ _ _ _ us hl => match us, hl with | [_, _, _, _], _ => rfl
  m_do_sum := PySem.W.mg_of X G af_do_sum
  a_do_columns := a_do_columns
  fd_do_columns := PySem.W.fnOf "do_columns" "do_columns" (defArgs s_do_columns) (defBody s_do_columns) (defScope s_do_columns) .none kV_do_columns dc_do_columns pm_do_columns an_do_columns cd_do_columns ct_do_columns
  F_do_columns := fun_mk (st := s_do_columns) lf_do_columns cf_do_columns kf_do_columns
  b_do_columns := (fun_mk (st := s_do_columns) lf_do_columns cf_do_columns kf_do_columns).binds (ps := ["base", "columns", "carry"]) fun _ _ _ _ _ _ us hl => match us, hl with | [_, _, _], _ => rfl
  m_do_columns := PySem.W.mg_of X G af_do_columns
  a_sum_taken := a_sum_taken
  fd_sum_taken := PySem.W.fnOf "sum_taken" "sum_taken" (defArgs s_sum_taken) (defBody s_sum_taken) (defScope s_sum_taken) .none kV_sum_taken dc_sum_taken pm_sum_taken an_sum_taken cd_sum_taken ct_sum_taken
  F_sum_taken := fun_mk (st := s_sum_taken) lf_sum_taken cf_sum_taken kf_sum_taken
  b_sum_taken := (fun_mk (st := s_sum_taken) lf_sum_taken cf_sum_taken kf_sum_taken).binds (ps := ["base", "column", "deed", "copied"]) fun _ _ _ _ _ _ us hl => match us, hl with | [_, _, _, _], _ => rfl
  m_sum_taken := PySem.W.mg_of X G af_sum_taken
  a_do_slip := a_do_slip
  fd_do_slip := PySem.W.fnOf "do_slip" "do_slip" (defArgs s_do_slip) (defBody s_do_slip) (defScope s_do_slip) .none kV_do_slip dc_do_slip pm_do_slip an_do_slip cd_do_slip ct_do_slip
  F_do_slip := fun_mk (st := s_do_slip) lf_do_slip cf_do_slip kf_do_slip
  b_do_slip := (fun_mk (st := s_do_slip) lf_do_slip cf_do_slip kf_do_slip).binds (ps := ["base", "columns", "at", "carry", "deed"]) fun _ _ _ _ _ _ us hl => match us, hl with | [_, _, _, _, _], _ => rfl
  m_do_slip := PySem.W.mg_of X G af_do_slip
  a_Sheet___len__ := a_Sheet___len__
  fd_Sheet___len__ := PySem.W.fnOf "__len__" "Sheet.__len__" (defArgs s_Sheet___len__) (defBody s_Sheet___len__) (defScope s_Sheet___len__) .none kV_Sheet___len__ dc_Sheet___len__ pm_Sheet___len__ an_Sheet___len__ cd_Sheet___len__ ct_Sheet___len__
  F_Sheet___len__ := fun_mk (st := s_Sheet___len__) lf_Sheet___len__ cf_Sheet___len__ kf_Sheet___len__
  b_Sheet___len__ := (fun_mk (st := s_Sheet___len__) lf_Sheet___len__ cf_Sheet___len__ kf_Sheet___len__).binds (ps := ["self"]) fun _ _ _ _ _ _ us hl => match us, hl with | [_], _ => rfl
  me_Sheet___len__ := ⟨af_Sheet___len__, if_Sheet___len__, kf_Sheet___len__⟩
  a_Sheet_rows := a_Sheet_rows
  fd_Sheet_rows := PySem.W.fnOf "rows" "Sheet.rows" (defArgs s_Sheet_rows) (defBody s_Sheet_rows) (defScope s_Sheet_rows) .none kV_Sheet_rows dc_Sheet_rows pm_Sheet_rows an_Sheet_rows cd_Sheet_rows ct_Sheet_rows
  F_Sheet_rows := fun_mk (st := s_Sheet_rows) lf_Sheet_rows cf_Sheet_rows kf_Sheet_rows
  b_Sheet_rows := (fun_mk (st := s_Sheet_rows) lf_Sheet_rows cf_Sheet_rows kf_Sheet_rows).binds (ps := ["self"]) fun _ _ _ _ _ _ us hl => match us, hl with | [_], _ => rfl
  pa_Sheet_rows := pa_Sheet_rows
  p_Sheet_rows := ⟨pf_Sheet_rows, pg_Sheet_rows, pt_Sheet_rows, ⟨_, pr_Sheet_rows⟩⟩
  a__is_plain := a__is_plain
  fd__is_plain := PySem.W.fnOf "_is_plain" "_is_plain" (defArgs s__is_plain) (defBody s__is_plain) (defScope s__is_plain) .none kV__is_plain dc__is_plain pm__is_plain an__is_plain cd__is_plain ct__is_plain
  F__is_plain := fun_mk (st := s__is_plain) lf__is_plain cf__is_plain kf__is_plain
  b__is_plain := (fun_mk (st := s__is_plain) lf__is_plain cf__is_plain kf__is_plain).binds (ps := ["value"]) fun _ _ _ _ _ _ us hl => match us, hl with | [_], _ => rfl
  m__is_plain := PySem.W.mg_of X G af__is_plain
  a_deeds_of := a_deeds_of
  fd_deeds_of := PySem.W.fnOf "deeds_of" "deeds_of" (defArgs s_deeds_of) (defBody s_deeds_of) (defScope s_deeds_of) .none kV_deeds_of dc_deeds_of pm_deeds_of an_deeds_of cd_deeds_of ct_deeds_of
  F_deeds_of := fun_mk (st := s_deeds_of) lf_deeds_of cf_deeds_of kf_deeds_of
  b_deeds_of := (fun_mk (st := s_deeds_of) lf_deeds_of cf_deeds_of kf_deeds_of).binds (ps := ["base", "rows"]) fun _ _ _ _ _ _ us hl => match us, hl with | [_, _], _ => rfl
  m_deeds_of := PySem.W.mg_of X G af_deeds_of
  a_is_deed := a_is_deed
  fd_is_deed := PySem.W.fnOf "is_deed" "is_deed" (defArgs s_is_deed) (defBody s_is_deed) (defScope s_is_deed) .none kV_is_deed dc_is_deed pm_is_deed an_is_deed cd_is_deed ct_is_deed
  F_is_deed := fun_mk (st := s_is_deed) lf_is_deed cf_is_deed kf_is_deed
  b_is_deed := (fun_mk (st := s_is_deed) lf_is_deed cf_is_deed kf_is_deed).binds (ps := ["base", "rows", "value"]) fun _ _ _ _ _ _ us hl => match us, hl with | [_, _, _], _ => rfl
  m_is_deed := PySem.W.mg_of X G af_is_deed
  a_is_slip := a_is_slip
  fd_is_slip := PySem.W.fnOf "is_slip" "is_slip" (defArgs s_is_slip) (defBody s_is_slip) (defScope s_is_slip) .none kV_is_slip dc_is_slip pm_is_slip an_is_slip cd_is_slip ct_is_slip
  F_is_slip := fun_mk (st := s_is_slip) lf_is_slip cf_is_slip kf_is_slip
  b_is_slip := (fun_mk (st := s_is_slip) lf_is_slip cf_is_slip kf_is_slip).binds (ps := ["sheet", "low", "value"]) fun _ _ _ _ _ _ us hl => match us, hl with | [_, _, _], _ => rfl
  m_is_slip := PySem.W.mg_of X G af_is_slip
  a_add_with := a_add_with
  fd_add_with := PySem.W.fnOf "add_with" "add_with" (defArgs s_add_with) (defBody s_add_with) (defScope s_add_with) .none kV_add_with dc_add_with pm_add_with an_add_with cd_add_with ct_add_with
  F_add_with := fun_mk (st := s_add_with) lf_add_with cf_add_with kf_add_with
  b_add_with := (fun_mk (st := s_add_with) lf_add_with cf_add_with kf_add_with).binds (ps := ["sheet", "slips"]) fun _ _ _ _ _ _ us hl => match us, hl with | [_, _], _ => rfl
  m_add_with := PySem.W.mg_of X G af_add_with
  a__law_refused := a__law_refused
  fd__law_refused := PySem.W.fnOf "_law_refused" "_law_refused" (defArgs s__law_refused) (defBody s__law_refused) (defScope s__law_refused) .none kV__law_refused dc__law_refused pm__law_refused an__law_refused cd__law_refused ct__law_refused
  F__law_refused := fun_mk (st := s__law_refused) lf__law_refused cf__law_refused kf__law_refused
  b__law_refused := (fun_mk (st := s__law_refused) lf__law_refused cf__law_refused kf__law_refused).binds (ps := ["sheet", "slips"]) fun _ _ _ _ _ _ us hl => match us, hl with | [_, _], _ => rfl
  m__law_refused := PySem.W.mg_of X G af__law_refused
  a__law_slips := a__law_slips
  fd__law_slips := PySem.W.fnOf "_law_slips" "_law_slips" (defArgs s__law_slips) (defBody s__law_slips) (defScope s__law_slips) .none kV__law_slips dc__law_slips pm__law_slips an__law_slips cd__law_slips ct__law_slips
  F__law_slips := fun_mk (st := s__law_slips) lf__law_slips cf__law_slips kf__law_slips
  b__law_slips := (fun_mk (st := s__law_slips) lf__law_slips cf__law_slips kf__law_slips).binds (ps := ["deeds"]) fun _ _ _ _ _ _ us hl => match us, hl with | [_], _ => rfl
  m__law_slips := PySem.W.mg_of X G af__law_slips
  a_Written_base := a_Written_base
  fd_Written_base := PySem.W.fnOf "base" "Written.base" (defArgs s_Written_base) (defBody s_Written_base) (defScope s_Written_base) .none kV_Written_base dc_Written_base pm_Written_base an_Written_base cd_Written_base ct_Written_base
  F_Written_base := fun_mk (st := s_Written_base) lf_Written_base cf_Written_base kf_Written_base
  b_Written_base := (fun_mk (st := s_Written_base) lf_Written_base cf_Written_base kf_Written_base).binds (ps := ["self"]) fun _ _ _ _ _ _ us hl => match us, hl with | [_], _ => rfl
  pa_Written_base := pa_Written_base
  p_Written_base := ⟨pf_Written_base, pg_Written_base, pt_Written_base, ⟨_, pr_Written_base⟩⟩
  a_Written_figures := a_Written_figures
  fd_Written_figures := PySem.W.fnOf "figures" "Written.figures" (defArgs s_Written_figures) (defBody s_Written_figures) (defScope s_Written_figures) .none kV_Written_figures dc_Written_figures pm_Written_figures an_Written_figures cd_Written_figures ct_Written_figures
  F_Written_figures := fun_mk (st := s_Written_figures) lf_Written_figures cf_Written_figures kf_Written_figures
  b_Written_figures := (fun_mk (st := s_Written_figures) lf_Written_figures cf_Written_figures kf_Written_figures).binds (ps := ["self"]) fun _ _ _ _ _ _ us hl => match us, hl with | [_], _ => rfl
  pa_Written_figures := pa_Written_figures
  p_Written_figures := ⟨pf_Written_figures, pg_Written_figures, pt_Written_figures, ⟨_, pr_Written_figures⟩⟩
  a_Written_last := a_Written_last
  fd_Written_last := PySem.W.fnOf "last" "Written.last" (defArgs s_Written_last) (defBody s_Written_last) (defScope s_Written_last) .none kV_Written_last dc_Written_last pm_Written_last an_Written_last cd_Written_last ct_Written_last
  F_Written_last := fun_mk (st := s_Written_last) lf_Written_last cf_Written_last kf_Written_last
  b_Written_last := (fun_mk (st := s_Written_last) lf_Written_last cf_Written_last kf_Written_last).binds (ps := ["self"]) fun _ _ _ _ _ _ us hl => match us, hl with | [_], _ => rfl
  pa_Written_last := pa_Written_last
  p_Written_last := ⟨pf_Written_last, pg_Written_last, pt_Written_last, ⟨_, pr_Written_last⟩⟩
  a__law_written_right := a__law_written_right
  fd__law_written_right := PySem.W.fnOf "_law_written_right" "_law_written_right" (defArgs s__law_written_right) (defBody s__law_written_right) (defScope s__law_written_right) .none kV__law_written_right dc__law_written_right pm__law_written_right an__law_written_right cd__law_written_right ct__law_written_right
  F__law_written_right := fun_mk (st := s__law_written_right) lf__law_written_right cf__law_written_right kf__law_written_right
  b__law_written_right := (fun_mk (st := s__law_written_right) lf__law_written_right cf__law_written_right kf__law_written_right).binds (ps := ["found", "base", "figures", "last"]) fun _ _ _ _ _ _ us hl => match us, hl with | [_, _, _, _], _ => rfl
  m__law_written_right := PySem.W.mg_of X G af__law_written_right
  a_law := a_law
  fd_law := PySem.W.fnOf "law" "law" (defArgs s_law) (defBody s_law) (defScope s_law) .none kV_law dc_law pm_law an_law cd_law ct_law
  F_law := fun_mk (st := s_law) lf_law cf_law kf_law
  b_law := (fun_mk (st := s_law) lf_law cf_law kf_law).binds (ps := ["script"]) fun _ _ _ _ _ _ us hl => match us, hl with | [_], _ => rfl
  m_law := PySem.W.mg_of X G af_law
  cl_Sheet := ⟨pg_Sheet, hd_Sheet, po_Sheet, sa_Sheet⟩
  k_Sheet := ⟨mk_Sheet, af_Sheet___init__, if_Sheet___init__, kc_Sheet⟩
  na_Sheet__base := na_Sheet__base
  na_Sheet__columns := na_Sheet__columns
  na_Sheet__rows := na_Sheet__rows
  cl_Written := ⟨pg_Written, hd_Written, po_Written, sa_Written⟩
  k_Written := ⟨mk_Written, af_Written___init__, if_Written___init__, kc_Written⟩
  na_Written__base := na_Written__base
  na_Written__figures := na_Written__figures
  na_Written__last := na_Written__last
  x_InvalidSheet := x_InvalidSheet
  xk_InvalidSheet := xk_InvalidSheet
  xb_InvalidSheet := xb_InvalidSheet
  xt_InvalidSheet := xt_InvalidSheet
  e_InvalidSlips := ⟨e1_InvalidSlips, e2_InvalidSlips, xb_InvalidSlips, e3_InvalidSlips, e4_InvalidSlips, icn, ict, e5_InvalidSlips⟩
  q_InvalidSlips_SlipError := q_InvalidSlips_SlipError
  em_InvalidSlips_InvalidSlips := em_InvalidSlips_InvalidSlips
  q_InvalidSlips_ValueError := q_InvalidSlips_ValueError
  qa_InvalidSlips_1 := qa_InvalidSlips_1
  qa_InvalidSlips_2 := qa_InvalidSlips_2
  n_ValueError := PySem.W.mg_none_of X G nb_ValueError
  n_all := PySem.W.mg_none_of X G nb_all
  n_bool := PySem.W.mg_none_of X G nb_bool
  n_enumerate := PySem.W.mg_none_of X G nb_enumerate
  n_int := PySem.W.mg_none_of X G nb_int
  n_isinstance := PySem.W.mg_none_of X G nb_isinstance
  n_len := PySem.W.mg_none_of X G nb_len
  n_list := PySem.W.mg_none_of X G nb_list
  n_max := PySem.W.mg_none_of X G nb_max
  n_range := PySem.W.mg_none_of X G nb_range
  n_str := PySem.W.mg_none_of X G nb_str
  n_sum := PySem.W.mg_none_of X G nb_sum
  n_super := PySem.W.mg_none_of X G nb_super
  n_tuple := PySem.W.mg_none_of X G nb_tuple
  tk_MOST_BASE := tk_MOST_BASE
  m_MOST_BASE := PySem.W.mg_of X G ak_MOST_BASE
  tk_MOST_ROWS := tk_MOST_ROWS
  m_MOST_ROWS := PySem.W.mg_of X G ak_MOST_ROWS
theorem fin {P : Program} {w : World} {K : PySem.W.Frag} {h : Heap} {mg : Str → Option Value} {fa : Addr} (X : K.In h) (G : h.Ns mainGlobals mg) (hfa : mg "law" = some (.ref fa)) {c_Sheet : Addr} {c_Written : Addr} {c_SlipError : Addr} {c_InvalidSheet : Addr} {c_InvalidColumn : Addr} {c_InvalidKind : Addr} {c_InvalidLot : Addr} {c_NotAlike : Addr} {c_NotPossible : Addr} {c_TooMany : Addr} {c_Waits : Addr} {c_InvalidText : Addr} {c_InvalidCommand : Addr} {c_NothingToUndo : Addr} {c_NotReady : Addr} {c_InvalidSlips : Addr} {a_is_whole : Addr} {oc_is_whole kV_is_whole dc_is_whole pm_is_whole cd_is_whole ct_is_whole : Value} {od_is_whole an_is_whole : Option Addr} {sl_is_whole : Array (Option Value)} {a_is_column : Addr} {oc_is_column kV_is_column dc_is_column pm_is_column cd_is_column ct_is_column : Value} {od_is_column an_is_column : Option Addr} {sl_is_column : Array (Option Value)} {a__are_columns : Addr} {oc__are_columns kV__are_columns dc__are_columns pm__are_columns cd__are_columns ct__are_columns : Value} {od__are_columns an__are_columns : Option Addr} {sl__are_columns : Array (Option Value)} {a_is_base : Addr} {oc_is_base kV_is_base dc_is_base pm_is_base cd_is_base ct_is_base : Value} {od_is_base an_is_base : Option Addr} {sl_is_base : Array (Option Value)} {a_is_rows : Addr} {oc_is_rows kV_is_rows dc_is_rows pm_is_rows cd_is_rows ct_is_rows : Value} {od_is_rows an_is_rows : Option Addr} {sl_is_rows : Array (Option Value)} {a_Sheet___init__ : Addr} {oc_Sheet___init__ kV_Sheet___init__ dc_Sheet___init__ pm_Sheet___init__ cd_Sheet___init__ ct_Sheet___init__ : Value} {od_Sheet___init__ an_Sheet___init__ : Option Addr} {sl_Sheet___init__ : Array (Option Value)} {a_Sheet_columns : Addr} {oc_Sheet_columns kV_Sheet_columns dc_Sheet_columns pm_Sheet_columns cd_Sheet_columns ct_Sheet_columns : Value} {od_Sheet_columns an_Sheet_columns : Option Addr} {sl_Sheet_columns : Array (Option Value)} {pa_Sheet_columns : Addr} {re_Sheet_columns : List Value} {a__law_taken : Addr} {oc__law_taken kV__law_taken dc__law_taken pm__law_taken cd__law_taken ct__law_taken : Value} {od__law_taken an__law_taken : Option Addr} {sl__law_taken : Array (Option Value)} {a__law_step : Addr} {oc__law_step kV__law_step dc__law_step pm__law_step cd__law_step ct__law_step : Value} {od__law_step an__law_step : Option Addr} {sl__law_step : Array (Option Value)} {a__law_add : Addr} {oc__law_add kV__law_add dc__law_add pm__law_add cd__law_add ct__law_add : Value} {od__law_add an__law_add : Option Addr} {sl__law_add : Array (Option Value)} {a__law_draw : Addr} {oc__law_draw kV__law_draw dc__law_draw pm__law_draw cd__law_draw ct__law_draw : Value} {od__law_draw an__law_draw : Option Addr} {sl__law_draw : Array (Option Value)} {a__law_bad_deed : Addr} {oc__law_bad_deed kV__law_bad_deed dc__law_bad_deed pm__law_bad_deed cd__law_bad_deed ct__law_bad_deed : Value} {od__law_bad_deed an__law_bad_deed : Option Addr} {sl__law_bad_deed : Array (Option Value)} {a__law_bad_item : Addr} {oc__law_bad_item kV__law_bad_item dc__law_bad_item pm__law_bad_item cd__law_bad_item ct__law_bad_item : Value} {od__law_bad_item an__law_bad_item : Option Addr} {sl__law_bad_item : Array (Option Value)} {a__law_cells : Addr} {oc__law_cells kV__law_cells dc__law_cells pm__law_cells cd__law_cells ct__law_cells : Value} {od__law_cells an__law_cells : Option Addr} {sl__law_cells : Array (Option Value)} {a__law_column : Addr} {oc__law_column kV__law_column dc__law_column pm__law_column cd__law_column ct__law_column : Value} {od__law_column an__law_column : Option Addr} {sl__law_column : Array (Option Value)} {a__law_columns : Addr} {oc__law_columns kV__law_columns dc__law_columns pm__law_columns cd__law_columns ct__law_columns : Value} {od__law_columns an__law_columns : Option Addr} {sl__law_columns : Array (Option Value)} {a__law_deck : Addr} {oc__law_deck kV__law_deck dc__law_deck pm__law_deck cd__law_deck ct__law_deck : Value} {od__law_deck an__law_deck : Option Addr} {sl__law_deck : Array (Option Value)} {a__law_is_integer : Addr} {oc__law_is_integer kV__law_is_integer dc__law_is_integer pm__law_is_integer cd__law_is_integer ct__law_is_integer : Value} {od__law_is_integer an__law_is_integer : Option Addr} {sl__law_is_integer : Array (Option Value)} {a__law_low : Addr} {oc__law_low kV__law_low dc__law_low pm__law_low cd__law_low ct__law_low : Value} {od__law_low an__law_low : Option Addr} {sl__law_low : Array (Option Value)} {a__law_without_carry : Addr} {oc__law_without_carry kV__law_without_carry dc__law_without_carry pm__law_without_carry cd__law_without_carry ct__law_without_carry : Value} {od__law_without_carry an__law_without_carry : Option Addr} {sl__law_without_carry : Array (Option Value)} {a__law_not_possible : Addr} {oc__law_not_possible kV__law_not_possible dc__law_not_possible pm__law_not_possible cd__law_not_possible ct__law_not_possible : Value} {od__law_not_possible an__law_not_possible : Option Addr} {sl__law_not_possible : Array (Option Value)} {a__law_deed : Addr} {oc__law_deed kV__law_deed dc__law_deed pm__law_deed cd__law_deed ct__law_deed : Value} {od__law_deed an__law_deed : Option Addr} {sl__law_deed : Array (Option Value)} {a__law_plan : Addr} {oc__law_plan kV__law_plan dc__law_plan pm__law_plan cd__law_plan ct__law_plan : Value} {od__law_plan an__law_plan : Option Addr} {sl__law_plan : Array (Option Value)} {a_InvalidSlips___init__ cda_InvalidSlips___init__ cc_InvalidSlips___init__ N_InvalidSlips___init__ : Addr} {oc_InvalidSlips___init__ kV_InvalidSlips___init__ dc_InvalidSlips___init__ pm_InvalidSlips___init__ ct_InvalidSlips___init__ ccl_InvalidSlips___init__ cl_InvalidSlips___init__ : Value} {od_InvalidSlips___init__ an_InvalidSlips___init__ cdd_InvalidSlips___init__ cld_InvalidSlips___init__ dd_InvalidSlips___init__ : Option Addr} {sl_InvalidSlips___init__ ccs_InvalidSlips___init__ csl_InvalidSlips___init__ : Array (Option Value)} {vs_InvalidSlips___init__ : Array Value} {fi_InvalidSlips___init__ nm_InvalidSlips___init__ q_InvalidSlips___init__ : Str} {tf_InvalidSlips___init__ : Tok} {bs_InvalidSlips___init__ bm_InvalidSlips___init__ sub_InvalidSlips___init__ : List Value} {sn_InvalidSlips___init__ : List Str} {ab_InvalidSlips___init__ : Bool} {col_InvalidSlips___init__ : Option Bool} {k0_InvalidSlips___init__ k1_InvalidSlips___init__ k2_InvalidSlips___init__ k3_InvalidSlips___init__ k5_InvalidSlips___init__ : Option Value} {a_Sheet_base : Addr} {oc_Sheet_base kV_Sheet_base dc_Sheet_base pm_Sheet_base cd_Sheet_base ct_Sheet_base : Value} {od_Sheet_base an_Sheet_base : Option Addr} {sl_Sheet_base : Array (Option Value)} {pa_Sheet_base : Addr} {re_Sheet_base : List Value} {a_Written___init__ : Addr} {oc_Written___init__ kV_Written___init__ dc_Written___init__ pm_Written___init__ cd_Written___init__ ct_Written___init__ : Value} {od_Written___init__ an_Written___init__ : Option Addr} {sl_Written___init__ : Array (Option Value)} {a_do_sum : Addr} {oc_do_sum kV_do_sum dc_do_sum pm_do_sum cd_do_sum ct_do_sum : Value} {od_do_sum an_do_sum : Option Addr} {sl_do_sum : Array (Option Value)} {a_do_columns : Addr} {oc_do_columns kV_do_columns dc_do_columns pm_do_columns cd_do_columns ct_do_columns : Value} {od_do_columns an_do_columns : Option Addr} {sl_do_columns : Array (Option Value)} {a_sum_taken : Addr} {oc_sum_taken kV_sum_taken dc_sum_taken pm_sum_taken cd_sum_taken ct_sum_taken : Value} {od_sum_taken an_sum_taken : Option Addr} {sl_sum_taken : Array (Option Value)} {a_do_slip : Addr} {oc_do_slip kV_do_slip dc_do_slip pm_do_slip cd_do_slip ct_do_slip : Value} {od_do_slip an_do_slip : Option Addr} {sl_do_slip : Array (Option Value)} {a_Sheet___len__ : Addr} {oc_Sheet___len__ kV_Sheet___len__ dc_Sheet___len__ pm_Sheet___len__ cd_Sheet___len__ ct_Sheet___len__ : Value} {od_Sheet___len__ an_Sheet___len__ : Option Addr} {sl_Sheet___len__ : Array (Option Value)} {a_Sheet_rows : Addr} {oc_Sheet_rows kV_Sheet_rows dc_Sheet_rows pm_Sheet_rows cd_Sheet_rows ct_Sheet_rows : Value} {od_Sheet_rows an_Sheet_rows : Option Addr} {sl_Sheet_rows : Array (Option Value)} {pa_Sheet_rows : Addr} {re_Sheet_rows : List Value} {a__is_plain : Addr} {oc__is_plain kV__is_plain dc__is_plain pm__is_plain cd__is_plain ct__is_plain : Value} {od__is_plain an__is_plain : Option Addr} {sl__is_plain : Array (Option Value)} {a_deeds_of : Addr} {oc_deeds_of kV_deeds_of dc_deeds_of pm_deeds_of cd_deeds_of ct_deeds_of : Value} {od_deeds_of an_deeds_of : Option Addr} {sl_deeds_of : Array (Option Value)} {a_is_deed : Addr} {oc_is_deed kV_is_deed dc_is_deed pm_is_deed cd_is_deed ct_is_deed : Value} {od_is_deed an_is_deed : Option Addr} {sl_is_deed : Array (Option Value)} {a_is_slip : Addr} {oc_is_slip kV_is_slip dc_is_slip pm_is_slip cd_is_slip ct_is_slip : Value} {od_is_slip an_is_slip : Option Addr} {sl_is_slip : Array (Option Value)} {a_add_with : Addr} {oc_add_with kV_add_with dc_add_with pm_add_with cd_add_with ct_add_with : Value} {od_add_with an_add_with : Option Addr} {sl_add_with : Array (Option Value)} {a__law_refused : Addr} {oc__law_refused kV__law_refused dc__law_refused pm__law_refused cd__law_refused ct__law_refused : Value} {od__law_refused an__law_refused : Option Addr} {sl__law_refused : Array (Option Value)} {a__law_slips : Addr} {oc__law_slips kV__law_slips dc__law_slips pm__law_slips cd__law_slips ct__law_slips : Value} {od__law_slips an__law_slips : Option Addr} {sl__law_slips : Array (Option Value)} {a_Written_base : Addr} {oc_Written_base kV_Written_base dc_Written_base pm_Written_base cd_Written_base ct_Written_base : Value} {od_Written_base an_Written_base : Option Addr} {sl_Written_base : Array (Option Value)} {pa_Written_base : Addr} {re_Written_base : List Value} {a_Written_figures : Addr} {oc_Written_figures kV_Written_figures dc_Written_figures pm_Written_figures cd_Written_figures ct_Written_figures : Value} {od_Written_figures an_Written_figures : Option Addr} {sl_Written_figures : Array (Option Value)} {pa_Written_figures : Addr} {re_Written_figures : List Value} {a_Written_last : Addr} {oc_Written_last kV_Written_last dc_Written_last pm_Written_last cd_Written_last ct_Written_last : Value} {od_Written_last an_Written_last : Option Addr} {sl_Written_last : Array (Option Value)} {pa_Written_last : Addr} {re_Written_last : List Value} {a__law_written_right : Addr} {oc__law_written_right kV__law_written_right dc__law_written_right pm__law_written_right cd__law_written_right ct__law_written_right : Value} {od__law_written_right an__law_written_right : Option Addr} {sl__law_written_right : Array (Option Value)} {a_law : Addr} {oc_law kV_law dc_law pm_law cd_law ct_law : Value} {od_law an_law : Option Addr} {sl_law : Array (Option Value)} {tk_MOST_BASE : Tok} {tk_MOST_ROWS : Tok}
    (ac_Sheet : PySem.W.nsIn K mainGlobals "Sheet" = some (some (.ref c_Sheet)))
    (ac_Written : PySem.W.nsIn K mainGlobals "Written" = some (some (.ref c_Written)))
    (ac_SlipError : PySem.W.nsIn K mainGlobals "SlipError" = some (some (.ref c_SlipError)))
    (ac_InvalidSheet : PySem.W.nsIn K mainGlobals "InvalidSheet" = some (some (.ref c_InvalidSheet)))
    (ac_InvalidColumn : PySem.W.nsIn K mainGlobals "InvalidColumn" = some (some (.ref c_InvalidColumn)))
    (ac_InvalidKind : PySem.W.nsIn K mainGlobals "InvalidKind" = some (some (.ref c_InvalidKind)))
    (ac_InvalidLot : PySem.W.nsIn K mainGlobals "InvalidLot" = some (some (.ref c_InvalidLot)))
    (ac_NotAlike : PySem.W.nsIn K mainGlobals "NotAlike" = some (some (.ref c_NotAlike)))
    (ac_NotPossible : PySem.W.nsIn K mainGlobals "NotPossible" = some (some (.ref c_NotPossible)))
    (ac_TooMany : PySem.W.nsIn K mainGlobals "TooMany" = some (some (.ref c_TooMany)))
    (ac_Waits : PySem.W.nsIn K mainGlobals "Waits" = some (some (.ref c_Waits)))
    (ac_InvalidText : PySem.W.nsIn K mainGlobals "InvalidText" = some (some (.ref c_InvalidText)))
    (ac_InvalidCommand : PySem.W.nsIn K mainGlobals "InvalidCommand" = some (some (.ref c_InvalidCommand)))
    (ac_NothingToUndo : PySem.W.nsIn K mainGlobals "NothingToUndo" = some (some (.ref c_NothingToUndo)))
    (ac_NotReady : PySem.W.nsIn K mainGlobals "NotReady" = some (some (.ref c_NotReady)))
    (ac_InvalidSlips : PySem.W.nsIn K mainGlobals "InvalidSlips" = some (some (.ref c_InvalidSlips)))
    (af_is_whole : PySem.W.nsIn K mainGlobals "is_whole" = some (some (.ref a_is_whole)))
    (lf_is_whole : K.lookup a_is_whole = some ⟨oc_is_whole, od_is_whole, .func (PySem.W.fnOf "is_whole" "is_whole" (defArgs s_is_whole) (defBody s_is_whole) (defScope s_is_whole) .none kV_is_whole dc_is_whole pm_is_whole an_is_whole cd_is_whole ct_is_whole), sl_is_whole⟩)
    (cf_is_whole : PySem.W.codeIn K cd_is_whole "is_whole" = true)
    (kf_is_whole : PySem.W.keepIn K (.ref a_is_whole) = true)
    (af_is_column : PySem.W.nsIn K mainGlobals "is_column" = some (some (.ref a_is_column)))
    (lf_is_column : K.lookup a_is_column = some ⟨oc_is_column, od_is_column, .func (PySem.W.fnOf "is_column" "is_column" (defArgs s_is_column) (defBody s_is_column) (defScope s_is_column) .none kV_is_column dc_is_column pm_is_column an_is_column cd_is_column ct_is_column), sl_is_column⟩)
    (cf_is_column : PySem.W.codeIn K cd_is_column "is_column" = true)
    (kf_is_column : PySem.W.keepIn K (.ref a_is_column) = true)
    (af__are_columns : PySem.W.nsIn K mainGlobals "_are_columns" = some (some (.ref a__are_columns)))
    (lf__are_columns : K.lookup a__are_columns = some ⟨oc__are_columns, od__are_columns, .func (PySem.W.fnOf "_are_columns" "_are_columns" (defArgs s__are_columns) (defBody s__are_columns) (defScope s__are_columns) .none kV__are_columns dc__are_columns pm__are_columns an__are_columns cd__are_columns ct__are_columns), sl__are_columns⟩)
    (cf__are_columns : PySem.W.codeIn K cd__are_columns "_are_columns" = true)
    (kf__are_columns : PySem.W.keepIn K (.ref a__are_columns) = true)
    (af_is_base : PySem.W.nsIn K mainGlobals "is_base" = some (some (.ref a_is_base)))
    (lf_is_base : K.lookup a_is_base = some ⟨oc_is_base, od_is_base, .func (PySem.W.fnOf "is_base" "is_base" (defArgs s_is_base) (defBody s_is_base) (defScope s_is_base) .none kV_is_base dc_is_base pm_is_base an_is_base cd_is_base ct_is_base), sl_is_base⟩)
    (cf_is_base : PySem.W.codeIn K cd_is_base "is_base" = true)
    (kf_is_base : PySem.W.keepIn K (.ref a_is_base) = true)
    (af_is_rows : PySem.W.nsIn K mainGlobals "is_rows" = some (some (.ref a_is_rows)))
    (lf_is_rows : K.lookup a_is_rows = some ⟨oc_is_rows, od_is_rows, .func (PySem.W.fnOf "is_rows" "is_rows" (defArgs s_is_rows) (defBody s_is_rows) (defScope s_is_rows) .none kV_is_rows dc_is_rows pm_is_rows an_is_rows cd_is_rows ct_is_rows), sl_is_rows⟩)
    (cf_is_rows : PySem.W.codeIn K cd_is_rows "is_rows" = true)
    (kf_is_rows : PySem.W.keepIn K (.ref a_is_rows) = true)
    (af_Sheet___init__ : PySem.W.findIn K (.ref c_Sheet) "__init__" = some (some (.ref a_Sheet___init__)))
    (if_Sheet___init__ : PySem.W.isFn K (.ref a_Sheet___init__) = true)
    (lf_Sheet___init__ : K.lookup a_Sheet___init__ = some ⟨oc_Sheet___init__, od_Sheet___init__, .func (PySem.W.fnOf "__init__" "Sheet.__init__" (defArgs s_Sheet___init__) (defBody s_Sheet___init__) (defScope s_Sheet___init__) .none kV_Sheet___init__ dc_Sheet___init__ pm_Sheet___init__ an_Sheet___init__ cd_Sheet___init__ ct_Sheet___init__), sl_Sheet___init__⟩)
    (cf_Sheet___init__ : PySem.W.codeIn K cd_Sheet___init__ "Sheet.__init__" = true)
    (kf_Sheet___init__ : PySem.W.keepIn K (.ref a_Sheet___init__) = true)
    (pf_Sheet_columns : PySem.W.findIn K (.ref c_Sheet) "columns" = some (some (.ref pa_Sheet_columns)))
    (pg_Sheet_columns : PySem.W.specialIn K (.ref pa_Sheet_columns) "__get__" = some (some (.builtin "property.__get__")))
    (pt_Sheet_columns : PySem.W.takesIn K (.ref pa_Sheet_columns) = some true)
    (pr_Sheet_columns : PySem.W.recIn K pa_Sheet_columns "property" = some (.ref a_Sheet_columns :: re_Sheet_columns))
    (lf_Sheet_columns : K.lookup a_Sheet_columns = some ⟨oc_Sheet_columns, od_Sheet_columns, .func (PySem.W.fnOf "columns" "Sheet.columns" (defArgs s_Sheet_columns) (defBody s_Sheet_columns) (defScope s_Sheet_columns) .none kV_Sheet_columns dc_Sheet_columns pm_Sheet_columns an_Sheet_columns cd_Sheet_columns ct_Sheet_columns), sl_Sheet_columns⟩)
    (cf_Sheet_columns : PySem.W.codeIn K cd_Sheet_columns "Sheet.columns" = true)
    (kf_Sheet_columns : PySem.W.keepIn K (.ref a_Sheet_columns) = true)
    (af__law_taken : PySem.W.nsIn K mainGlobals "_law_taken" = some (some (.ref a__law_taken)))
    (lf__law_taken : K.lookup a__law_taken = some ⟨oc__law_taken, od__law_taken, .func (PySem.W.fnOf "_law_taken" "_law_taken" (defArgs s__law_taken) (defBody s__law_taken) (defScope s__law_taken) .none kV__law_taken dc__law_taken pm__law_taken an__law_taken cd__law_taken ct__law_taken), sl__law_taken⟩)
    (cf__law_taken : PySem.W.codeIn K cd__law_taken "_law_taken" = true)
    (kf__law_taken : PySem.W.keepIn K (.ref a__law_taken) = true)
    (af__law_step : PySem.W.nsIn K mainGlobals "_law_step" = some (some (.ref a__law_step)))
    (lf__law_step : K.lookup a__law_step = some ⟨oc__law_step, od__law_step, .func (PySem.W.fnOf "_law_step" "_law_step" (defArgs s__law_step) (defBody s__law_step) (defScope s__law_step) .none kV__law_step dc__law_step pm__law_step an__law_step cd__law_step ct__law_step), sl__law_step⟩)
    (cf__law_step : PySem.W.codeIn K cd__law_step "_law_step" = true)
    (kf__law_step : PySem.W.keepIn K (.ref a__law_step) = true)
    (af__law_add : PySem.W.nsIn K mainGlobals "_law_add" = some (some (.ref a__law_add)))
    (lf__law_add : K.lookup a__law_add = some ⟨oc__law_add, od__law_add, .func (PySem.W.fnOf "_law_add" "_law_add" (defArgs s__law_add) (defBody s__law_add) (defScope s__law_add) .none kV__law_add dc__law_add pm__law_add an__law_add cd__law_add ct__law_add), sl__law_add⟩)
    (cf__law_add : PySem.W.codeIn K cd__law_add "_law_add" = true)
    (kf__law_add : PySem.W.keepIn K (.ref a__law_add) = true)
    (af__law_draw : PySem.W.nsIn K mainGlobals "_law_draw" = some (some (.ref a__law_draw)))
    (lf__law_draw : K.lookup a__law_draw = some ⟨oc__law_draw, od__law_draw, .func (PySem.W.fnOf "_law_draw" "_law_draw" (defArgs s__law_draw) (defBody s__law_draw) (defScope s__law_draw) .none kV__law_draw dc__law_draw pm__law_draw an__law_draw cd__law_draw ct__law_draw), sl__law_draw⟩)
    (cf__law_draw : PySem.W.codeIn K cd__law_draw "_law_draw" = true)
    (kf__law_draw : PySem.W.keepIn K (.ref a__law_draw) = true)
    (af__law_bad_deed : PySem.W.nsIn K mainGlobals "_law_bad_deed" = some (some (.ref a__law_bad_deed)))
    (lf__law_bad_deed : K.lookup a__law_bad_deed = some ⟨oc__law_bad_deed, od__law_bad_deed, .func (PySem.W.fnOf "_law_bad_deed" "_law_bad_deed" (defArgs s__law_bad_deed) (defBody s__law_bad_deed) (defScope s__law_bad_deed) .none kV__law_bad_deed dc__law_bad_deed pm__law_bad_deed an__law_bad_deed cd__law_bad_deed ct__law_bad_deed), sl__law_bad_deed⟩)
    (cf__law_bad_deed : PySem.W.codeIn K cd__law_bad_deed "_law_bad_deed" = true)
    (kf__law_bad_deed : PySem.W.keepIn K (.ref a__law_bad_deed) = true)
    (af__law_bad_item : PySem.W.nsIn K mainGlobals "_law_bad_item" = some (some (.ref a__law_bad_item)))
    (lf__law_bad_item : K.lookup a__law_bad_item = some ⟨oc__law_bad_item, od__law_bad_item, .func (PySem.W.fnOf "_law_bad_item" "_law_bad_item" (defArgs s__law_bad_item) (defBody s__law_bad_item) (defScope s__law_bad_item) .none kV__law_bad_item dc__law_bad_item pm__law_bad_item an__law_bad_item cd__law_bad_item ct__law_bad_item), sl__law_bad_item⟩)
    (cf__law_bad_item : PySem.W.codeIn K cd__law_bad_item "_law_bad_item" = true)
    (kf__law_bad_item : PySem.W.keepIn K (.ref a__law_bad_item) = true)
    (af__law_cells : PySem.W.nsIn K mainGlobals "_law_cells" = some (some (.ref a__law_cells)))
    (lf__law_cells : K.lookup a__law_cells = some ⟨oc__law_cells, od__law_cells, .func (PySem.W.fnOf "_law_cells" "_law_cells" (defArgs s__law_cells) (defBody s__law_cells) (defScope s__law_cells) .none kV__law_cells dc__law_cells pm__law_cells an__law_cells cd__law_cells ct__law_cells), sl__law_cells⟩)
    (cf__law_cells : PySem.W.codeIn K cd__law_cells "_law_cells" = true)
    (kf__law_cells : PySem.W.keepIn K (.ref a__law_cells) = true)
    (af__law_column : PySem.W.nsIn K mainGlobals "_law_column" = some (some (.ref a__law_column)))
    (lf__law_column : K.lookup a__law_column = some ⟨oc__law_column, od__law_column, .func (PySem.W.fnOf "_law_column" "_law_column" (defArgs s__law_column) (defBody s__law_column) (defScope s__law_column) .none kV__law_column dc__law_column pm__law_column an__law_column cd__law_column ct__law_column), sl__law_column⟩)
    (cf__law_column : PySem.W.codeIn K cd__law_column "_law_column" = true)
    (kf__law_column : PySem.W.keepIn K (.ref a__law_column) = true)
    (af__law_columns : PySem.W.nsIn K mainGlobals "_law_columns" = some (some (.ref a__law_columns)))
    (lf__law_columns : K.lookup a__law_columns = some ⟨oc__law_columns, od__law_columns, .func (PySem.W.fnOf "_law_columns" "_law_columns" (defArgs s__law_columns) (defBody s__law_columns) (defScope s__law_columns) .none kV__law_columns dc__law_columns pm__law_columns an__law_columns cd__law_columns ct__law_columns), sl__law_columns⟩)
    (cf__law_columns : PySem.W.codeIn K cd__law_columns "_law_columns" = true)
    (kf__law_columns : PySem.W.keepIn K (.ref a__law_columns) = true)
    (af__law_deck : PySem.W.nsIn K mainGlobals "_law_deck" = some (some (.ref a__law_deck)))
    (lf__law_deck : K.lookup a__law_deck = some ⟨oc__law_deck, od__law_deck, .func (PySem.W.fnOf "_law_deck" "_law_deck" (defArgs s__law_deck) (defBody s__law_deck) (defScope s__law_deck) .none kV__law_deck dc__law_deck pm__law_deck an__law_deck cd__law_deck ct__law_deck), sl__law_deck⟩)
    (cf__law_deck : PySem.W.codeIn K cd__law_deck "_law_deck" = true)
    (kf__law_deck : PySem.W.keepIn K (.ref a__law_deck) = true)
    (af__law_is_integer : PySem.W.nsIn K mainGlobals "_law_is_integer" = some (some (.ref a__law_is_integer)))
    (lf__law_is_integer : K.lookup a__law_is_integer = some ⟨oc__law_is_integer, od__law_is_integer, .func (PySem.W.fnOf "_law_is_integer" "_law_is_integer" (defArgs s__law_is_integer) (defBody s__law_is_integer) (defScope s__law_is_integer) .none kV__law_is_integer dc__law_is_integer pm__law_is_integer an__law_is_integer cd__law_is_integer ct__law_is_integer), sl__law_is_integer⟩)
    (cf__law_is_integer : PySem.W.codeIn K cd__law_is_integer "_law_is_integer" = true)
    (kf__law_is_integer : PySem.W.keepIn K (.ref a__law_is_integer) = true)
    (af__law_low : PySem.W.nsIn K mainGlobals "_law_low" = some (some (.ref a__law_low)))
    (lf__law_low : K.lookup a__law_low = some ⟨oc__law_low, od__law_low, .func (PySem.W.fnOf "_law_low" "_law_low" (defArgs s__law_low) (defBody s__law_low) (defScope s__law_low) .none kV__law_low dc__law_low pm__law_low an__law_low cd__law_low ct__law_low), sl__law_low⟩)
    (cf__law_low : PySem.W.codeIn K cd__law_low "_law_low" = true)
    (kf__law_low : PySem.W.keepIn K (.ref a__law_low) = true)
    (af__law_without_carry : PySem.W.nsIn K mainGlobals "_law_without_carry" = some (some (.ref a__law_without_carry)))
    (lf__law_without_carry : K.lookup a__law_without_carry = some ⟨oc__law_without_carry, od__law_without_carry, .func (PySem.W.fnOf "_law_without_carry" "_law_without_carry" (defArgs s__law_without_carry) (defBody s__law_without_carry) (defScope s__law_without_carry) .none kV__law_without_carry dc__law_without_carry pm__law_without_carry an__law_without_carry cd__law_without_carry ct__law_without_carry), sl__law_without_carry⟩)
    (cf__law_without_carry : PySem.W.codeIn K cd__law_without_carry "_law_without_carry" = true)
    (kf__law_without_carry : PySem.W.keepIn K (.ref a__law_without_carry) = true)
    (af__law_not_possible : PySem.W.nsIn K mainGlobals "_law_not_possible" = some (some (.ref a__law_not_possible)))
    (lf__law_not_possible : K.lookup a__law_not_possible = some ⟨oc__law_not_possible, od__law_not_possible, .func (PySem.W.fnOf "_law_not_possible" "_law_not_possible" (defArgs s__law_not_possible) (defBody s__law_not_possible) (defScope s__law_not_possible) .none kV__law_not_possible dc__law_not_possible pm__law_not_possible an__law_not_possible cd__law_not_possible ct__law_not_possible), sl__law_not_possible⟩)
    (cf__law_not_possible : PySem.W.codeIn K cd__law_not_possible "_law_not_possible" = true)
    (kf__law_not_possible : PySem.W.keepIn K (.ref a__law_not_possible) = true)
    (af__law_deed : PySem.W.nsIn K mainGlobals "_law_deed" = some (some (.ref a__law_deed)))
    (lf__law_deed : K.lookup a__law_deed = some ⟨oc__law_deed, od__law_deed, .func (PySem.W.fnOf "_law_deed" "_law_deed" (defArgs s__law_deed) (defBody s__law_deed) (defScope s__law_deed) .none kV__law_deed dc__law_deed pm__law_deed an__law_deed cd__law_deed ct__law_deed), sl__law_deed⟩)
    (cf__law_deed : PySem.W.codeIn K cd__law_deed "_law_deed" = true)
    (kf__law_deed : PySem.W.keepIn K (.ref a__law_deed) = true)
    (af__law_plan : PySem.W.nsIn K mainGlobals "_law_plan" = some (some (.ref a__law_plan)))
    (lf__law_plan : K.lookup a__law_plan = some ⟨oc__law_plan, od__law_plan, .func (PySem.W.fnOf "_law_plan" "_law_plan" (defArgs s__law_plan) (defBody s__law_plan) (defScope s__law_plan) .none kV__law_plan dc__law_plan pm__law_plan an__law_plan cd__law_plan ct__law_plan), sl__law_plan⟩)
    (cf__law_plan : PySem.W.codeIn K cd__law_plan "_law_plan" = true)
    (kf__law_plan : PySem.W.keepIn K (.ref a__law_plan) = true)
    (af_InvalidSlips___init__ : PySem.W.findIn K (.ref c_InvalidSlips) "__init__" = some (some (.ref a_InvalidSlips___init__)))
    (lf_InvalidSlips___init__ : K.lookup a_InvalidSlips___init__ = some ⟨oc_InvalidSlips___init__, od_InvalidSlips___init__, .func (PySem.W.ksFn "__init__" "InvalidSlips.__init__" (defArgs s_InvalidSlips___init__) (defBody s_InvalidSlips___init__) (defScope s_InvalidSlips___init__) .none kV_InvalidSlips___init__ dc_InvalidSlips___init__ pm_InvalidSlips___init__ an_InvalidSlips___init__ (.ref cda_InvalidSlips___init__) ct_InvalidSlips___init__ cc_InvalidSlips___init__), sl_InvalidSlips___init__⟩)
    (cf_InvalidSlips___init__ : PySem.W.codeIn K (.ref cda_InvalidSlips___init__) "InvalidSlips.__init__" = true)
    (lc_InvalidSlips___init__ : K.lookup cda_InvalidSlips___init__ = some ⟨ccl_InvalidSlips___init__, cdd_InvalidSlips___init__, .fields vs_InvalidSlips___init__, ccs_InvalidSlips___init__⟩)
    (lv_InvalidSlips___init__ : vs_InvalidSlips___init__[2]? = some (.str fi_InvalidSlips___init__ tf_InvalidSlips___init__))
    (hf_InvalidSlips___init__ : ((P.main.file : Str) == fi_InvalidSlips___init__) = true)
    (ce_InvalidSlips___init__ : K.lookup cc_InvalidSlips___init__ = some ⟨cl_InvalidSlips___init__, cld_InvalidSlips___init__, .cell (some (.ref c_InvalidSlips)), csl_InvalidSlips___init__⟩)
    (lC_InvalidSlips___init__ : K.lookup c_InvalidSlips = some (excClassObj nm_InvalidSlips___init__ q_InvalidSlips___init__ c_InvalidSlips N_InvalidSlips___init__ bs_InvalidSlips___init__ bm_InvalidSlips___init__ true sn_InvalidSlips___init__ sub_InvalidSlips___init__ ab_InvalidSlips___init__ col_InvalidSlips___init__ dd_InvalidSlips___init__ k0_InvalidSlips___init__ k1_InvalidSlips___init__ k2_InvalidSlips___init__ k3_InvalidSlips___init__ k5_InvalidSlips___init__ "ValueError.__new__"))
    (rv_InvalidSlips___init__ : PySem.HandSPX.refsVE bm_InvalidSlips___init__ = true)
    (sa_InvalidSlips___init__ : PySem.W.findIn K (.ref c_InvalidSlips) "__setattr__" = some (some (.builtin "object.__setattr__")))
    (eb_InvalidSlips___init__ : PySem.W.subIn K (.ref c_InvalidSlips) (.type "BaseException") = some true)
    (ty_InvalidSlips___init__ : PySem.W.typeIn K (.ref c_InvalidSlips) = some (.type "type"))
    (kc_InvalidSlips___init__ : PySem.W.keepIn K (.ref c_InvalidSlips) = true)
    (h1_InvalidSlips___init__ : PySem.W.mroIn K c_InvalidSlips (.ref c_InvalidSlips) = some true)
    (h3_InvalidSlips___init__ : PySem.W.subIn K (.ref c_InvalidSlips) (.type "ValueError") = some true)
    (h4_InvalidSlips___init__ : PySem.W.ks_superIn K c_InvalidSlips c_InvalidSlips "__init__" = some (some (.builtin "ValueError.__init__")))
    (h5_InvalidSlips___init__ : PySem.W.nsIn K cStatics "thirdparty.any" = some none)
    (h6_InvalidSlips___init__ : PySem.W.findIn K (.ref c_InvalidSlips) "index" = some none)
    (h7_InvalidSlips___init__ : (P.main.scope.names.lookup ("super" : Str)).isSome = false)
    (tI_InvalidSlips___init__ : PySem.W.typeIn K (.ref a_InvalidSlips___init__) = some (.type "function"))
    (pf_Sheet_base : PySem.W.findIn K (.ref c_Sheet) "base" = some (some (.ref pa_Sheet_base)))
    (pg_Sheet_base : PySem.W.specialIn K (.ref pa_Sheet_base) "__get__" = some (some (.builtin "property.__get__")))
    (pt_Sheet_base : PySem.W.takesIn K (.ref pa_Sheet_base) = some true)
    (pr_Sheet_base : PySem.W.recIn K pa_Sheet_base "property" = some (.ref a_Sheet_base :: re_Sheet_base))
    (lf_Sheet_base : K.lookup a_Sheet_base = some ⟨oc_Sheet_base, od_Sheet_base, .func (PySem.W.fnOf "base" "Sheet.base" (defArgs s_Sheet_base) (defBody s_Sheet_base) (defScope s_Sheet_base) .none kV_Sheet_base dc_Sheet_base pm_Sheet_base an_Sheet_base cd_Sheet_base ct_Sheet_base), sl_Sheet_base⟩)
    (cf_Sheet_base : PySem.W.codeIn K cd_Sheet_base "Sheet.base" = true)
    (kf_Sheet_base : PySem.W.keepIn K (.ref a_Sheet_base) = true)
    (af_Written___init__ : PySem.W.findIn K (.ref c_Written) "__init__" = some (some (.ref a_Written___init__)))
    (if_Written___init__ : PySem.W.isFn K (.ref a_Written___init__) = true)
    (lf_Written___init__ : K.lookup a_Written___init__ = some ⟨oc_Written___init__, od_Written___init__, .func (PySem.W.fnOf "__init__" "Written.__init__" (defArgs s_Written___init__) (defBody s_Written___init__) (defScope s_Written___init__) .none kV_Written___init__ dc_Written___init__ pm_Written___init__ an_Written___init__ cd_Written___init__ ct_Written___init__), sl_Written___init__⟩)
    (cf_Written___init__ : PySem.W.codeIn K cd_Written___init__ "Written.__init__" = true)
    (kf_Written___init__ : PySem.W.keepIn K (.ref a_Written___init__) = true)
    (af_do_sum : PySem.W.nsIn K mainGlobals "do_sum" = some (some (.ref a_do_sum)))
    (lf_do_sum : K.lookup a_do_sum = some ⟨oc_do_sum, od_do_sum, .func (PySem.W.fnOf "do_sum" "do_sum" (defArgs s_do_sum) (defBody s_do_sum) (defScope s_do_sum) .none kV_do_sum dc_do_sum pm_do_sum an_do_sum cd_do_sum ct_do_sum), sl_do_sum⟩)
    (cf_do_sum : PySem.W.codeIn K cd_do_sum "do_sum" = true)
    (kf_do_sum : PySem.W.keepIn K (.ref a_do_sum) = true)
    (af_do_columns : PySem.W.nsIn K mainGlobals "do_columns" = some (some (.ref a_do_columns)))
    (lf_do_columns : K.lookup a_do_columns = some ⟨oc_do_columns, od_do_columns, .func (PySem.W.fnOf "do_columns" "do_columns" (defArgs s_do_columns) (defBody s_do_columns) (defScope s_do_columns) .none kV_do_columns dc_do_columns pm_do_columns an_do_columns cd_do_columns ct_do_columns), sl_do_columns⟩)
    (cf_do_columns : PySem.W.codeIn K cd_do_columns "do_columns" = true)
    (kf_do_columns : PySem.W.keepIn K (.ref a_do_columns) = true)
    (af_sum_taken : PySem.W.nsIn K mainGlobals "sum_taken" = some (some (.ref a_sum_taken)))
    (lf_sum_taken : K.lookup a_sum_taken = some ⟨oc_sum_taken, od_sum_taken, .func (PySem.W.fnOf "sum_taken" "sum_taken" (defArgs s_sum_taken) (defBody s_sum_taken) (defScope s_sum_taken) .none kV_sum_taken dc_sum_taken pm_sum_taken an_sum_taken cd_sum_taken ct_sum_taken), sl_sum_taken⟩)
    (cf_sum_taken : PySem.W.codeIn K cd_sum_taken "sum_taken" = true)
    (kf_sum_taken : PySem.W.keepIn K (.ref a_sum_taken) = true)
    (af_do_slip : PySem.W.nsIn K mainGlobals "do_slip" = some (some (.ref a_do_slip)))
    (lf_do_slip : K.lookup a_do_slip = some ⟨oc_do_slip, od_do_slip, .func (PySem.W.fnOf "do_slip" "do_slip" (defArgs s_do_slip) (defBody s_do_slip) (defScope s_do_slip) .none kV_do_slip dc_do_slip pm_do_slip an_do_slip cd_do_slip ct_do_slip), sl_do_slip⟩)
    (cf_do_slip : PySem.W.codeIn K cd_do_slip "do_slip" = true)
    (kf_do_slip : PySem.W.keepIn K (.ref a_do_slip) = true)
    (af_Sheet___len__ : PySem.W.findIn K (.ref c_Sheet) "__len__" = some (some (.ref a_Sheet___len__)))
    (if_Sheet___len__ : PySem.W.isFn K (.ref a_Sheet___len__) = true)
    (lf_Sheet___len__ : K.lookup a_Sheet___len__ = some ⟨oc_Sheet___len__, od_Sheet___len__, .func (PySem.W.fnOf "__len__" "Sheet.__len__" (defArgs s_Sheet___len__) (defBody s_Sheet___len__) (defScope s_Sheet___len__) .none kV_Sheet___len__ dc_Sheet___len__ pm_Sheet___len__ an_Sheet___len__ cd_Sheet___len__ ct_Sheet___len__), sl_Sheet___len__⟩)
    (cf_Sheet___len__ : PySem.W.codeIn K cd_Sheet___len__ "Sheet.__len__" = true)
    (kf_Sheet___len__ : PySem.W.keepIn K (.ref a_Sheet___len__) = true)
    (pf_Sheet_rows : PySem.W.findIn K (.ref c_Sheet) "rows" = some (some (.ref pa_Sheet_rows)))
    (pg_Sheet_rows : PySem.W.specialIn K (.ref pa_Sheet_rows) "__get__" = some (some (.builtin "property.__get__")))
    (pt_Sheet_rows : PySem.W.takesIn K (.ref pa_Sheet_rows) = some true)
    (pr_Sheet_rows : PySem.W.recIn K pa_Sheet_rows "property" = some (.ref a_Sheet_rows :: re_Sheet_rows))
    (lf_Sheet_rows : K.lookup a_Sheet_rows = some ⟨oc_Sheet_rows, od_Sheet_rows, .func (PySem.W.fnOf "rows" "Sheet.rows" (defArgs s_Sheet_rows) (defBody s_Sheet_rows) (defScope s_Sheet_rows) .none kV_Sheet_rows dc_Sheet_rows pm_Sheet_rows an_Sheet_rows cd_Sheet_rows ct_Sheet_rows), sl_Sheet_rows⟩)
    (cf_Sheet_rows : PySem.W.codeIn K cd_Sheet_rows "Sheet.rows" = true)
    (kf_Sheet_rows : PySem.W.keepIn K (.ref a_Sheet_rows) = true)
    (af__is_plain : PySem.W.nsIn K mainGlobals "_is_plain" = some (some (.ref a__is_plain)))
    (lf__is_plain : K.lookup a__is_plain = some ⟨oc__is_plain, od__is_plain, .func (PySem.W.fnOf "_is_plain" "_is_plain" (defArgs s__is_plain) (defBody s__is_plain) (defScope s__is_plain) .none kV__is_plain dc__is_plain pm__is_plain an__is_plain cd__is_plain ct__is_plain), sl__is_plain⟩)
    (cf__is_plain : PySem.W.codeIn K cd__is_plain "_is_plain" = true)
    (kf__is_plain : PySem.W.keepIn K (.ref a__is_plain) = true)
    (af_deeds_of : PySem.W.nsIn K mainGlobals "deeds_of" = some (some (.ref a_deeds_of)))
    (lf_deeds_of : K.lookup a_deeds_of = some ⟨oc_deeds_of, od_deeds_of, .func (PySem.W.fnOf "deeds_of" "deeds_of" (defArgs s_deeds_of) (defBody s_deeds_of) (defScope s_deeds_of) .none kV_deeds_of dc_deeds_of pm_deeds_of an_deeds_of cd_deeds_of ct_deeds_of), sl_deeds_of⟩)
    (cf_deeds_of : PySem.W.codeIn K cd_deeds_of "deeds_of" = true)
    (kf_deeds_of : PySem.W.keepIn K (.ref a_deeds_of) = true)
    (af_is_deed : PySem.W.nsIn K mainGlobals "is_deed" = some (some (.ref a_is_deed)))
    (lf_is_deed : K.lookup a_is_deed = some ⟨oc_is_deed, od_is_deed, .func (PySem.W.fnOf "is_deed" "is_deed" (defArgs s_is_deed) (defBody s_is_deed) (defScope s_is_deed) .none kV_is_deed dc_is_deed pm_is_deed an_is_deed cd_is_deed ct_is_deed), sl_is_deed⟩)
    (cf_is_deed : PySem.W.codeIn K cd_is_deed "is_deed" = true)
    (kf_is_deed : PySem.W.keepIn K (.ref a_is_deed) = true)
    (af_is_slip : PySem.W.nsIn K mainGlobals "is_slip" = some (some (.ref a_is_slip)))
    (lf_is_slip : K.lookup a_is_slip = some ⟨oc_is_slip, od_is_slip, .func (PySem.W.fnOf "is_slip" "is_slip" (defArgs s_is_slip) (defBody s_is_slip) (defScope s_is_slip) .none kV_is_slip dc_is_slip pm_is_slip an_is_slip cd_is_slip ct_is_slip), sl_is_slip⟩)
    (cf_is_slip : PySem.W.codeIn K cd_is_slip "is_slip" = true)
    (kf_is_slip : PySem.W.keepIn K (.ref a_is_slip) = true)
    (af_add_with : PySem.W.nsIn K mainGlobals "add_with" = some (some (.ref a_add_with)))
    (lf_add_with : K.lookup a_add_with = some ⟨oc_add_with, od_add_with, .func (PySem.W.fnOf "add_with" "add_with" (defArgs s_add_with) (defBody s_add_with) (defScope s_add_with) .none kV_add_with dc_add_with pm_add_with an_add_with cd_add_with ct_add_with), sl_add_with⟩)
    (cf_add_with : PySem.W.codeIn K cd_add_with "add_with" = true)
    (kf_add_with : PySem.W.keepIn K (.ref a_add_with) = true)
    (af__law_refused : PySem.W.nsIn K mainGlobals "_law_refused" = some (some (.ref a__law_refused)))
    (lf__law_refused : K.lookup a__law_refused = some ⟨oc__law_refused, od__law_refused, .func (PySem.W.fnOf "_law_refused" "_law_refused" (defArgs s__law_refused) (defBody s__law_refused) (defScope s__law_refused) .none kV__law_refused dc__law_refused pm__law_refused an__law_refused cd__law_refused ct__law_refused), sl__law_refused⟩)
    (cf__law_refused : PySem.W.codeIn K cd__law_refused "_law_refused" = true)
    (kf__law_refused : PySem.W.keepIn K (.ref a__law_refused) = true)
    (af__law_slips : PySem.W.nsIn K mainGlobals "_law_slips" = some (some (.ref a__law_slips)))
    (lf__law_slips : K.lookup a__law_slips = some ⟨oc__law_slips, od__law_slips, .func (PySem.W.fnOf "_law_slips" "_law_slips" (defArgs s__law_slips) (defBody s__law_slips) (defScope s__law_slips) .none kV__law_slips dc__law_slips pm__law_slips an__law_slips cd__law_slips ct__law_slips), sl__law_slips⟩)
    (cf__law_slips : PySem.W.codeIn K cd__law_slips "_law_slips" = true)
    (kf__law_slips : PySem.W.keepIn K (.ref a__law_slips) = true)
    (pf_Written_base : PySem.W.findIn K (.ref c_Written) "base" = some (some (.ref pa_Written_base)))
    (pg_Written_base : PySem.W.specialIn K (.ref pa_Written_base) "__get__" = some (some (.builtin "property.__get__")))
    (pt_Written_base : PySem.W.takesIn K (.ref pa_Written_base) = some true)
    (pr_Written_base : PySem.W.recIn K pa_Written_base "property" = some (.ref a_Written_base :: re_Written_base))
    (lf_Written_base : K.lookup a_Written_base = some ⟨oc_Written_base, od_Written_base, .func (PySem.W.fnOf "base" "Written.base" (defArgs s_Written_base) (defBody s_Written_base) (defScope s_Written_base) .none kV_Written_base dc_Written_base pm_Written_base an_Written_base cd_Written_base ct_Written_base), sl_Written_base⟩)
    (cf_Written_base : PySem.W.codeIn K cd_Written_base "Written.base" = true)
    (kf_Written_base : PySem.W.keepIn K (.ref a_Written_base) = true)
    (pf_Written_figures : PySem.W.findIn K (.ref c_Written) "figures" = some (some (.ref pa_Written_figures)))
    (pg_Written_figures : PySem.W.specialIn K (.ref pa_Written_figures) "__get__" = some (some (.builtin "property.__get__")))
    (pt_Written_figures : PySem.W.takesIn K (.ref pa_Written_figures) = some true)
    (pr_Written_figures : PySem.W.recIn K pa_Written_figures "property" = some (.ref a_Written_figures :: re_Written_figures))
    (lf_Written_figures : K.lookup a_Written_figures = some ⟨oc_Written_figures, od_Written_figures, .func (PySem.W.fnOf "figures" "Written.figures" (defArgs s_Written_figures) (defBody s_Written_figures) (defScope s_Written_figures) .none kV_Written_figures dc_Written_figures pm_Written_figures an_Written_figures cd_Written_figures ct_Written_figures), sl_Written_figures⟩)
    (cf_Written_figures : PySem.W.codeIn K cd_Written_figures "Written.figures" = true)
    (kf_Written_figures : PySem.W.keepIn K (.ref a_Written_figures) = true)
    (pf_Written_last : PySem.W.findIn K (.ref c_Written) "last" = some (some (.ref pa_Written_last)))
    (pg_Written_last : PySem.W.specialIn K (.ref pa_Written_last) "__get__" = some (some (.builtin "property.__get__")))
    (pt_Written_last : PySem.W.takesIn K (.ref pa_Written_last) = some true)
    (pr_Written_last : PySem.W.recIn K pa_Written_last "property" = some (.ref a_Written_last :: re_Written_last))
    (lf_Written_last : K.lookup a_Written_last = some ⟨oc_Written_last, od_Written_last, .func (PySem.W.fnOf "last" "Written.last" (defArgs s_Written_last) (defBody s_Written_last) (defScope s_Written_last) .none kV_Written_last dc_Written_last pm_Written_last an_Written_last cd_Written_last ct_Written_last), sl_Written_last⟩)
    (cf_Written_last : PySem.W.codeIn K cd_Written_last "Written.last" = true)
    (kf_Written_last : PySem.W.keepIn K (.ref a_Written_last) = true)
    (af__law_written_right : PySem.W.nsIn K mainGlobals "_law_written_right" = some (some (.ref a__law_written_right)))
    (lf__law_written_right : K.lookup a__law_written_right = some ⟨oc__law_written_right, od__law_written_right, .func (PySem.W.fnOf "_law_written_right" "_law_written_right" (defArgs s__law_written_right) (defBody s__law_written_right) (defScope s__law_written_right) .none kV__law_written_right dc__law_written_right pm__law_written_right an__law_written_right cd__law_written_right ct__law_written_right), sl__law_written_right⟩)
    (cf__law_written_right : PySem.W.codeIn K cd__law_written_right "_law_written_right" = true)
    (kf__law_written_right : PySem.W.keepIn K (.ref a__law_written_right) = true)
    (af_law : PySem.W.nsIn K mainGlobals "law" = some (some (.ref a_law)))
    (lf_law : K.lookup a_law = some ⟨oc_law, od_law, .func (PySem.W.fnOf "law" "law" (defArgs s_law) (defBody s_law) (defScope s_law) .none kV_law dc_law pm_law an_law cd_law ct_law), sl_law⟩)
    (cf_law : PySem.W.codeIn K cd_law "law" = true)
    (kf_law : PySem.W.keepIn K (.ref a_law) = true)
    (pg_Sheet : PySem.W.plainGet K c_Sheet Str.empty = true)
    (hd_Sheet : PySem.W.hasDictIn K c_Sheet = true)
    (po_Sheet : PySem.W.plainOver K c_Sheet = true)
    (sa_Sheet : PySem.W.findIn K (.ref c_Sheet) "__setattr__" = some (some (.builtin "object.__setattr__")))
    (mk_Sheet : PySem.W.makesIn K c_Sheet = true)
    (kc_Sheet : PySem.W.keepIn K (.ref c_Sheet) = true)
    (na_Sheet__base : PySem.W.findIn K (.ref c_Sheet) "_base" = some none)
    (na_Sheet__columns : PySem.W.findIn K (.ref c_Sheet) "_columns" = some none)
    (na_Sheet__rows : PySem.W.findIn K (.ref c_Sheet) "_rows" = some none)
    (pg_Written : PySem.W.plainGet K c_Written Str.empty = true)
    (hd_Written : PySem.W.hasDictIn K c_Written = true)
    (po_Written : PySem.W.plainOver K c_Written = true)
    (sa_Written : PySem.W.findIn K (.ref c_Written) "__setattr__" = some (some (.builtin "object.__setattr__")))
    (mk_Written : PySem.W.makesIn K c_Written = true)
    (kc_Written : PySem.W.keepIn K (.ref c_Written) = true)
    (na_Written__base : PySem.W.findIn K (.ref c_Written) "_base" = some none)
    (na_Written__figures : PySem.W.findIn K (.ref c_Written) "_figures" = some none)
    (na_Written__last : PySem.W.findIn K (.ref c_Written) "_last" = some none)
    (x_InvalidSheet : PySem.W.excIn K c_InvalidSheet [.type "ValueError", .type "Exception", .type "BaseException", .type "object"] "ValueError.__new__" = true)
    (xk_InvalidSheet : PySem.W.keepIn K (.ref c_InvalidSheet) = true)
    (xb_InvalidSheet : PySem.W.subIn K (.ref c_InvalidSheet) (.type "BaseException") = some true)
    (xt_InvalidSheet : PySem.W.typeIn K (.ref c_InvalidSheet) = some (.type "type"))
    (icn : PySem.W.specialIn K (.builtin "object.__class__") "__get__" = some (some (.builtin "getset_descriptor.__get__")))
    (ict : PySem.W.takesIn K (.builtin "object.__class__") = some true)
    (xb_InvalidSlips : PySem.W.subIn K (.ref c_InvalidSlips) (.type "BaseException") = some true)
    (e1_InvalidSlips : PySem.W.findIn K (.ref c_InvalidSlips) "__getattribute__" = some (some (.builtin "BaseException.__getattribute__")))
    (e2_InvalidSlips : PySem.W.findIn K (.ref c_InvalidSlips) "__getattr__" = some none)
    (e3_InvalidSlips : PySem.W.hasDictIn K c_InvalidSlips = true)
    (e4_InvalidSlips : PySem.W.findIn K (.ref c_InvalidSlips) "__class__" = some (some (.builtin "object.__class__")))
    (e5_InvalidSlips : PySem.W.mroIn K c_InvalidSlips (.type "object") = some true)
    (q_InvalidSlips_SlipError : PySem.W.kitOne K (.ref c_InvalidSlips) (.ref c_SlipError) = some true)
    (em_InvalidSlips_InvalidSlips : PySem.W.exmOne K (.ref c_InvalidSlips) (.ref c_InvalidSlips) = some true)
    (q_InvalidSlips_ValueError : PySem.W.kitOne K (.ref c_InvalidSlips) (.type "ValueError") = some true)
    (qa_InvalidSlips_1 : PySem.W.kitAny K (.ref c_InvalidSlips) [.ref c_InvalidSheet, .ref c_InvalidCommand, .ref c_InvalidKind, .ref c_InvalidLot, .ref c_InvalidColumn, .ref c_InvalidText] = some false)
    (qa_InvalidSlips_2 : PySem.W.kitAny K (.ref c_InvalidSlips) [.ref c_NotAlike, .ref c_NotPossible, .ref c_NotReady, .ref c_NothingToUndo, .ref c_TooMany, .ref c_Waits] = some false)
    (nb_ValueError : PySem.W.nsIn K mainGlobals "ValueError" = some none)
    (nb_all : PySem.W.nsIn K mainGlobals "all" = some none)
    (nb_bool : PySem.W.nsIn K mainGlobals "bool" = some none)
    (nb_enumerate : PySem.W.nsIn K mainGlobals "enumerate" = some none)
    (nb_int : PySem.W.nsIn K mainGlobals "int" = some none)
    (nb_isinstance : PySem.W.nsIn K mainGlobals "isinstance" = some none)
    (nb_len : PySem.W.nsIn K mainGlobals "len" = some none)
    (nb_list : PySem.W.nsIn K mainGlobals "list" = some none)
    (nb_max : PySem.W.nsIn K mainGlobals "max" = some none)
    (nb_range : PySem.W.nsIn K mainGlobals "range" = some none)
    (nb_str : PySem.W.nsIn K mainGlobals "str" = some none)
    (nb_sum : PySem.W.nsIn K mainGlobals "sum" = some none)
    (nb_super : PySem.W.nsIn K mainGlobals "super" = some none)
    (nb_tuple : PySem.W.nsIn K mainGlobals "tuple" = some none)
    (ak_MOST_BASE : PySem.W.nsIn K mainGlobals "MOST_BASE" = some (some (.int 12 tk_MOST_BASE)))
    (ak_MOST_ROWS : PySem.W.nsIn K mainGlobals "MOST_ROWS" = some (some (.int 4 tk_MOST_ROWS)))
    : ∃ fd : FuncData, (∀ (s : Shared) (v : Value), BindsTo s fd ⟨[v], []⟩ [("script", v)]) ∧ ∀ base : Heap, K.In base → base.Ns mainGlobals mg → FnOk P w K mg base CX0 7 fa fd ["script"] (spLaw K) := by
  have e := hfa.symm.trans (PySem.W.mg_of X G af_law)
  cases e
  exact ⟨_, fun s v => .of_eq rfl, fun base _ _ => law_fin (ok_law (txt_mk X G ac_Sheet ac_Written ac_SlipError ac_InvalidSheet ac_InvalidColumn ac_InvalidKind ac_InvalidLot ac_NotAlike ac_NotPossible ac_TooMany ac_Waits ac_InvalidText ac_InvalidCommand ac_NothingToUndo ac_NotReady ac_InvalidSlips af_is_whole lf_is_whole cf_is_whole kf_is_whole af_is_column lf_is_column cf_is_column kf_is_column af__are_columns lf__are_columns cf__are_columns kf__are_columns af_is_base lf_is_base cf_is_base kf_is_base af_is_rows lf_is_rows cf_is_rows kf_is_rows af_Sheet___init__ if_Sheet___init__ lf_Sheet___init__ cf_Sheet___init__ kf_Sheet___init__ pf_Sheet_columns pg_Sheet_columns pt_Sheet_columns pr_Sheet_columns lf_Sheet_columns cf_Sheet_columns kf_Sheet_columns af__law_taken lf__law_taken cf__law_taken kf__law_taken af__law_step lf__law_step cf__law_step kf__law_step af__law_add lf__law_add cf__law_add kf__law_add af__law_draw lf__law_draw cf__law_draw kf__law_draw af__law_bad_deed lf__law_bad_deed cf__law_bad_deed kf__law_bad_deed af__law_bad_item lf__law_bad_item cf__law_bad_item kf__law_bad_item af__law_cells lf__law_cells cf__law_cells kf__law_cells af__law_column lf__law_column cf__law_column kf__law_column af__law_columns lf__law_columns cf__law_columns kf__law_columns af__law_deck lf__law_deck cf__law_deck kf__law_deck af__law_is_integer lf__law_is_integer cf__law_is_integer kf__law_is_integer af__law_low lf__law_low cf__law_low kf__law_low af__law_without_carry lf__law_without_carry cf__law_without_carry kf__law_without_carry af__law_not_possible lf__law_not_possible cf__law_not_possible kf__law_not_possible af__law_deed lf__law_deed cf__law_deed kf__law_deed af__law_plan lf__law_plan cf__law_plan kf__law_plan af_InvalidSlips___init__ lf_InvalidSlips___init__ cf_InvalidSlips___init__ lc_InvalidSlips___init__ lv_InvalidSlips___init__ hf_InvalidSlips___init__ ce_InvalidSlips___init__ lC_InvalidSlips___init__ rv_InvalidSlips___init__ sa_InvalidSlips___init__ eb_InvalidSlips___init__ ty_InvalidSlips___init__ kc_InvalidSlips___init__ h1_InvalidSlips___init__ h3_InvalidSlips___init__ h4_InvalidSlips___init__ h5_InvalidSlips___init__ h6_InvalidSlips___init__ h7_InvalidSlips___init__ tI_InvalidSlips___init__ pf_Sheet_base pg_Sheet_base pt_Sheet_base pr_Sheet_base lf_Sheet_base cf_Sheet_base kf_Sheet_base af_Written___init__ if_Written___init__ lf_Written___init__ cf_Written___init__ kf_Written___init__ af_do_sum lf_do_sum cf_do_sum kf_do_sum af_do_columns lf_do_columns cf_do_columns kf_do_columns af_sum_taken lf_sum_taken cf_sum_taken kf_sum_taken af_do_slip lf_do_slip cf_do_slip kf_do_slip af_Sheet___len__ if_Sheet___len__ lf_Sheet___len__ cf_Sheet___len__ kf_Sheet___len__ pf_Sheet_rows pg_Sheet_rows pt_Sheet_rows pr_Sheet_rows lf_Sheet_rows cf_Sheet_rows kf_Sheet_rows af__is_plain lf__is_plain cf__is_plain kf__is_plain af_deeds_of lf_deeds_of cf_deeds_of kf_deeds_of af_is_deed lf_is_deed cf_is_deed kf_is_deed af_is_slip lf_is_slip cf_is_slip kf_is_slip af_add_with lf_add_with cf_add_with kf_add_with af__law_refused lf__law_refused cf__law_refused kf__law_refused af__law_slips lf__law_slips cf__law_slips kf__law_slips pf_Written_base pg_Written_base pt_Written_base pr_Written_base lf_Written_base cf_Written_base kf_Written_base pf_Written_figures pg_Written_figures pt_Written_figures pr_Written_figures lf_Written_figures cf_Written_figures kf_Written_figures pf_Written_last pg_Written_last pt_Written_last pr_Written_last lf_Written_last cf_Written_last kf_Written_last af__law_written_right lf__law_written_right cf__law_written_right kf__law_written_right af_law lf_law cf_law kf_law pg_Sheet hd_Sheet po_Sheet sa_Sheet mk_Sheet kc_Sheet na_Sheet__base na_Sheet__columns na_Sheet__rows pg_Written hd_Written po_Written sa_Written mk_Written kc_Written na_Written__base na_Written__figures na_Written__last x_InvalidSheet xk_InvalidSheet xb_InvalidSheet xt_InvalidSheet icn ict xb_InvalidSlips e1_InvalidSlips e2_InvalidSlips e3_InvalidSlips e4_InvalidSlips e5_InvalidSlips q_InvalidSlips_SlipError em_InvalidSlips_InvalidSlips q_InvalidSlips_ValueError qa_InvalidSlips_1 qa_InvalidSlips_2 nb_ValueError nb_all nb_bool nb_enumerate nb_int nb_isinstance nb_len nb_list nb_max nb_range nb_str nb_sum nb_super nb_tuple ak_MOST_BASE ak_MOST_ROWS))⟩
theorem walk {l : PySem.W.OpenLaw} {q : Program} {loose : List Str} {XP : (Str → Option Value) → Heap → Prop} {YP : World → Heap → Prop} {d : DefRec} {K : Params → PySem.W.Frag} (hn : l.most = some 63) (hdf : d.params.defaults = [])
    (hY : ∀ (w : World) (h : Heap), YP w h → (K w.params).In h)
    (F : ∀ (w : World) (mg : Str → Option Value) (fa : Addr) (h : Heap), (K w.params).In h → h.Ns mainGlobals mg → mg d.name = some (.ref fa) →
      ∃ fd : FuncData, (∀ (s : Shared) (u : Value), BindsTo s fd ⟨[u], []⟩ [("script", u)]) ∧ ∀ base : Heap, (K w.params).In base → base.Ns mainGlobals mg → FnOk l.prog w (K w.params) mg base CX0 7 fa fd ["script"] (spLaw (K w.params))) :
    PySem.W.WalkO q loose XP YP l.row.toRowW d [] (fun f vs => PySem.call f vs) :=
  L2.walk_of (n := 63) (k := 7) (x := "script") (CX := fun _ => CX0) (sp := fun w => spLaw (K w.params)) hn (by decide) hdf ⟨rfl, by decide, by decide⟩ hY F (fun _ _ a ns hl _ hS => ⟨a, ns, rfl, hS, hl, fun _ => rfl⟩) fun _ _ _ _ _ z => z
end LW
open PySem PySem.W PyProof.Rows in
set_option maxRecDepth 100000 in
set_option maxHeartbeats 0 in
theorem PySem.Challenge.cw_sumslips_k11_slips_that_are_refused_holds : PySem.Challenge.rw_sumslips_k11_slips_that_are_refused.Holds := by
  w_on; o_law; k_head; (case hw => w_witness2)
  k_fill
  refine LW.walk (l := PySem.Challenge.rw_sumslips_k11_slips_that_are_refused) rfl rfl (fun w h Y => PySem.W.kIn_of Y) ?F
  case F =>
    intro w mg fa h KX G hmg
    refine' LW.fin KX G hmg ?ac_Sheet ?ac_Written ?ac_SlipError ?ac_InvalidSheet ?ac_InvalidColumn ?ac_InvalidKind ?ac_InvalidLot ?ac_NotAlike ?ac_NotPossible ?ac_TooMany ?ac_Waits ?ac_InvalidText ?ac_InvalidCommand ?ac_NothingToUndo ?ac_NotReady ?ac_InvalidSlips ?af_is_whole ?lf_is_whole ?cf_is_whole ?kf_is_whole ?af_is_column ?lf_is_column ?cf_is_column ?kf_is_column ?af__are_columns ?lf__are_columns ?cf__are_columns ?kf__are_columns ?af_is_base ?lf_is_base ?cf_is_base ?kf_is_base ?af_is_rows ?lf_is_rows ?cf_is_rows ?kf_is_rows ?af_Sheet___init__ ?if_Sheet___init__ ?lf_Sheet___init__ ?cf_Sheet___init__ ?kf_Sheet___init__ ?pf_Sheet_columns ?pg_Sheet_columns ?pt_Sheet_columns ?pr_Sheet_columns ?lf_Sheet_columns ?cf_Sheet_columns ?kf_Sheet_columns ?af__law_taken ?lf__law_taken ?cf__law_taken ?kf__law_taken ?af__law_step ?lf__law_step ?cf__law_step ?kf__law_step ?af__law_add ?lf__law_add ?cf__law_add ?kf__law_add ?af__law_draw ?lf__law_draw ?cf__law_draw ?kf__law_draw ?af__law_bad_deed ?lf__law_bad_deed ?cf__law_bad_deed ?kf__law_bad_deed ?af__law_bad_item ?lf__law_bad_item ?cf__law_bad_item ?kf__law_bad_item ?af__law_cells ?lf__law_cells ?cf__law_cells ?kf__law_cells ?af__law_column ?lf__law_column ?cf__law_column ?kf__law_column ?af__law_columns ?lf__law_columns ?cf__law_columns ?kf__law_columns ?af__law_deck ?lf__law_deck ?cf__law_deck ?kf__law_deck ?af__law_is_integer ?lf__law_is_integer ?cf__law_is_integer ?kf__law_is_integer ?af__law_low ?lf__law_low ?cf__law_low ?kf__law_low ?af__law_without_carry ?lf__law_without_carry ?cf__law_without_carry ?kf__law_without_carry ?af__law_not_possible ?lf__law_not_possible ?cf__law_not_possible ?kf__law_not_possible ?af__law_deed ?lf__law_deed ?cf__law_deed ?kf__law_deed ?af__law_plan ?lf__law_plan ?cf__law_plan ?kf__law_plan ?af_InvalidSlips___init__ ?lf_InvalidSlips___init__ ?cf_InvalidSlips___init__ ?lc_InvalidSlips___init__ ?lv_InvalidSlips___init__ ?hf_InvalidSlips___init__ ?ce_InvalidSlips___init__ ?lC_InvalidSlips___init__ ?rv_InvalidSlips___init__ ?sa_InvalidSlips___init__ ?eb_InvalidSlips___init__ ?ty_InvalidSlips___init__ ?kc_InvalidSlips___init__ ?h1_InvalidSlips___init__ ?h3_InvalidSlips___init__ ?h4_InvalidSlips___init__ ?h5_InvalidSlips___init__ ?h6_InvalidSlips___init__ ?h7_InvalidSlips___init__ ?tI_InvalidSlips___init__ ?pf_Sheet_base ?pg_Sheet_base ?pt_Sheet_base ?pr_Sheet_base ?lf_Sheet_base ?cf_Sheet_base ?kf_Sheet_base ?af_Written___init__ ?if_Written___init__ ?lf_Written___init__ ?cf_Written___init__ ?kf_Written___init__ ?af_do_sum ?lf_do_sum ?cf_do_sum ?kf_do_sum ?af_do_columns ?lf_do_columns ?cf_do_columns ?kf_do_columns ?af_sum_taken ?lf_sum_taken ?cf_sum_taken ?kf_sum_taken ?af_do_slip ?lf_do_slip ?cf_do_slip ?kf_do_slip ?af_Sheet___len__ ?if_Sheet___len__ ?lf_Sheet___len__ ?cf_Sheet___len__ ?kf_Sheet___len__ ?pf_Sheet_rows ?pg_Sheet_rows ?pt_Sheet_rows ?pr_Sheet_rows ?lf_Sheet_rows ?cf_Sheet_rows ?kf_Sheet_rows ?af__is_plain ?lf__is_plain ?cf__is_plain ?kf__is_plain ?af_deeds_of ?lf_deeds_of ?cf_deeds_of ?kf_deeds_of ?af_is_deed ?lf_is_deed ?cf_is_deed ?kf_is_deed ?af_is_slip ?lf_is_slip ?cf_is_slip ?kf_is_slip ?af_add_with ?lf_add_with ?cf_add_with ?kf_add_with ?af__law_refused ?lf__law_refused ?cf__law_refused ?kf__law_refused ?af__law_slips ?lf__law_slips ?cf__law_slips ?kf__law_slips ?pf_Written_base ?pg_Written_base ?pt_Written_base ?pr_Written_base ?lf_Written_base ?cf_Written_base ?kf_Written_base ?pf_Written_figures ?pg_Written_figures ?pt_Written_figures ?pr_Written_figures ?lf_Written_figures ?cf_Written_figures ?kf_Written_figures ?pf_Written_last ?pg_Written_last ?pt_Written_last ?pr_Written_last ?lf_Written_last ?cf_Written_last ?kf_Written_last ?af__law_written_right ?lf__law_written_right ?cf__law_written_right ?kf__law_written_right ?af_law ?lf_law ?cf_law ?kf_law ?pg_Sheet ?hd_Sheet ?po_Sheet ?sa_Sheet ?mk_Sheet ?kc_Sheet ?na_Sheet__base ?na_Sheet__columns ?na_Sheet__rows ?pg_Written ?hd_Written ?po_Written ?sa_Written ?mk_Written ?kc_Written ?na_Written__base ?na_Written__figures ?na_Written__last ?x_InvalidSheet ?xk_InvalidSheet ?xb_InvalidSheet ?xt_InvalidSheet ?icn ?ict ?xb_InvalidSlips ?e1_InvalidSlips ?e2_InvalidSlips ?e3_InvalidSlips ?e4_InvalidSlips ?e5_InvalidSlips ?q_InvalidSlips_SlipError ?em_InvalidSlips_InvalidSlips ?q_InvalidSlips_ValueError ?qa_InvalidSlips_1 ?qa_InvalidSlips_2 ?nb_ValueError ?nb_all ?nb_bool ?nb_enumerate ?nb_int ?nb_isinstance ?nb_len ?nb_list ?nb_max ?nb_range ?nb_str ?nb_sum ?nb_super ?nb_tuple ?ak_MOST_BASE ?ak_MOST_ROWS
    (case ac_Sheet => first | k_is | kit_is | kts_exm | k_exc | decide | rfl | kernel_rfl | ks_is)
    (case ac_Written => first | k_is | kit_is | kts_exm | k_exc | decide | rfl | kernel_rfl | ks_is)
    (case ac_SlipError => first | k_is | kit_is | kts_exm | k_exc | decide | rfl | kernel_rfl | ks_is)
    (case ac_InvalidSheet => first | k_is | kit_is | kts_exm | k_exc | decide | rfl | kernel_rfl | ks_is)
    (case ac_InvalidColumn => first | k_is | kit_is | kts_exm | k_exc | decide | rfl | kernel_rfl | ks_is)
    (case ac_InvalidKind => first | k_is | kit_is | kts_exm | k_exc | decide | rfl | kernel_rfl | ks_is)
    (case ac_InvalidLot => first | k_is | kit_is | kts_exm | k_exc | decide | rfl | kernel_rfl | ks_is)
    (case ac_NotAlike => first | k_is | kit_is | kts_exm | k_exc | decide | rfl | kernel_rfl | ks_is)
    (case ac_NotPossible => first | k_is | kit_is | kts_exm | k_exc | decide | rfl | kernel_rfl | ks_is)
    (case ac_TooMany => first | k_is | kit_is | kts_exm | k_exc | decide | rfl | kernel_rfl | ks_is)
    (case ac_Waits => first | k_is | kit_is | kts_exm | k_exc | decide | rfl | kernel_rfl | ks_is)
    (case ac_InvalidText => first | k_is | kit_is | kts_exm | k_exc | decide | rfl | kernel_rfl | ks_is)
    (case ac_InvalidCommand => first | k_is | kit_is | kts_exm | k_exc | decide | rfl | kernel_rfl | ks_is)
    (case ac_NothingToUndo => first | k_is | kit_is | kts_exm | k_exc | decide | rfl | kernel_rfl | ks_is)
    (case ac_NotReady => first | k_is | kit_is | kts_exm | k_exc | decide | rfl | kernel_rfl | ks_is)
    (case ac_InvalidSlips => first | k_is | kit_is | kts_exm | k_exc | decide | rfl | kernel_rfl | ks_is)
    (case af_is_whole => first | k_is | kit_is | kts_exm | k_exc | decide | rfl | kernel_rfl | ks_is)
    (case lf_is_whole => first | k_is | kit_is | kts_exm | k_exc | decide | rfl | kernel_rfl | ks_is)
    (case cf_is_whole => first | k_is | kit_is | kts_exm | k_exc | decide | rfl | kernel_rfl | ks_is)
    (case kf_is_whole => first | k_is | kit_is | kts_exm | k_exc | decide | rfl | kernel_rfl | ks_is)
    (case af_is_column => first | k_is | kit_is | kts_exm | k_exc | decide | rfl | kernel_rfl | ks_is)
    (case lf_is_column => first | k_is | kit_is | kts_exm | k_exc | decide | rfl | kernel_rfl | ks_is)
    (case cf_is_column => first | k_is | kit_is | kts_exm | k_exc | decide | rfl | kernel_rfl | ks_is)
    (case kf_is_column => first | k_is | kit_is | kts_exm | k_exc | decide | rfl | kernel_rfl | ks_is)
    (case af__are_columns => first | k_is | kit_is | kts_exm | k_exc | decide | rfl | kernel_rfl | ks_is)
    (case lf__are_columns => first | k_is | kit_is | kts_exm | k_exc | decide | rfl | kernel_rfl | ks_is)
    (case cf__are_columns => first | k_is | kit_is | kts_exm | k_exc | decide | rfl | kernel_rfl | ks_is)
    (case kf__are_columns => first | k_is | kit_is | kts_exm | k_exc | decide | rfl | kernel_rfl | ks_is)
    (case af_is_base => first | k_is | kit_is | kts_exm | k_exc | decide | rfl | kernel_rfl | ks_is)
    (case lf_is_base => first | k_is | kit_is | kts_exm | k_exc | decide | rfl | kernel_rfl | ks_is)
    (case cf_is_base => first | k_is | kit_is | kts_exm | k_exc | decide | rfl | kernel_rfl | ks_is)
    (case kf_is_base => first | k_is | kit_is | kts_exm | k_exc | decide | rfl | kernel_rfl | ks_is)
    (case af_is_rows => first | k_is | kit_is | kts_exm | k_exc | decide | rfl | kernel_rfl | ks_is)
    (case lf_is_rows => first | k_is | kit_is | kts_exm | k_exc | decide | rfl | kernel_rfl | ks_is)
    (case cf_is_rows => first | k_is | kit_is | kts_exm | k_exc | decide | rfl | kernel_rfl | ks_is)
    (case kf_is_rows => first | k_is | kit_is | kts_exm | k_exc | decide | rfl | kernel_rfl | ks_is)
    (case af_Sheet___init__ => first | k_is | kit_is | kts_exm | k_exc | decide | rfl | kernel_rfl | ks_is)
    (case if_Sheet___init__ => first | k_is | kit_is | kts_exm | k_exc | decide | rfl | kernel_rfl | ks_is)
    (case lf_Sheet___init__ => first | k_is | kit_is | kts_exm | k_exc | decide | rfl | kernel_rfl | ks_is)
    (case cf_Sheet___init__ => first | k_is | kit_is | kts_exm | k_exc | decide | rfl | kernel_rfl | ks_is)
    (case kf_Sheet___init__ => first | k_is | kit_is | kts_exm | k_exc | decide | rfl | kernel_rfl | ks_is)
    (case pf_Sheet_columns => first | k_is | kit_is | kts_exm | k_exc | decide | rfl | kernel_rfl | ks_is)
    (case pg_Sheet_columns => first | k_is | kit_is | kts_exm | k_exc | decide | rfl | kernel_rfl | ks_is)
    (case pt_Sheet_columns => first | k_is | kit_is | kts_exm | k_exc | decide | rfl | kernel_rfl | ks_is)
    (case pr_Sheet_columns => first | k_is | kit_is | kts_exm | k_exc | decide | rfl | kernel_rfl | ks_is)
    (case lf_Sheet_columns => first | k_is | kit_is | kts_exm | k_exc | decide | rfl | kernel_rfl | ks_is)
    (case cf_Sheet_columns => first | k_is | kit_is | kts_exm | k_exc | decide | rfl | kernel_rfl | ks_is)
    (case kf_Sheet_columns => first | k_is | kit_is | kts_exm | k_exc | decide | rfl | kernel_rfl | ks_is)
    (case af__law_taken => first | k_is | kit_is | kts_exm | k_exc | decide | rfl | kernel_rfl | ks_is)
    (case lf__law_taken => first | k_is | kit_is | kts_exm | k_exc | decide | rfl | kernel_rfl | ks_is)
    (case cf__law_taken => first | k_is | kit_is | kts_exm | k_exc | decide | rfl | kernel_rfl | ks_is)
    (case kf__law_taken => first | k_is | kit_is | kts_exm | k_exc | decide | rfl | kernel_rfl | ks_is)
    (case af__law_step => first | k_is | kit_is | kts_exm | k_exc | decide | rfl | kernel_rfl | ks_is)
    (case lf__law_step => first | k_is | kit_is | kts_exm | k_exc | decide | rfl | kernel_rfl | ks_is)
    (case cf__law_step => first | k_is | kit_is | kts_exm | k_exc | decide | rfl | kernel_rfl | ks_is)
    (case kf__law_step => first | k_is | kit_is | kts_exm | k_exc | decide | rfl | kernel_rfl | ks_is)
    (case af__law_add => first | k_is | kit_is | kts_exm | k_exc | decide | rfl | kernel_rfl | ks_is)
    (case lf__law_add => first | k_is | kit_is | kts_exm | k_exc | decide | rfl | kernel_rfl | ks_is)
    (case cf__law_add => first | k_is | kit_is | kts_exm | k_exc | decide | rfl | kernel_rfl | ks_is)
    (case kf__law_add => first | k_is | kit_is | kts_exm | k_exc | decide | rfl | kernel_rfl | ks_is)
    (case af__law_draw => first | k_is | kit_is | kts_exm | k_exc | decide | rfl | kernel_rfl | ks_is)
    (case lf__law_draw => first | k_is | kit_is | kts_exm | k_exc | decide | rfl | kernel_rfl | ks_is)
    (case cf__law_draw => first | k_is | kit_is | kts_exm | k_exc | decide | rfl | kernel_rfl | ks_is)
    (case kf__law_draw => first | k_is | kit_is | kts_exm | k_exc | decide | rfl | kernel_rfl | ks_is)
    (case af__law_bad_deed => first | k_is | kit_is | kts_exm | k_exc | decide | rfl | kernel_rfl | ks_is)
    (case lf__law_bad_deed => first | k_is | kit_is | kts_exm | k_exc | decide | rfl | kernel_rfl | ks_is)
    (case cf__law_bad_deed => first | k_is | kit_is | kts_exm | k_exc | decide | rfl | kernel_rfl | ks_is)
    (case kf__law_bad_deed => first | k_is | kit_is | kts_exm | k_exc | decide | rfl | kernel_rfl | ks_is)
    (case af__law_bad_item => first | k_is | kit_is | kts_exm | k_exc | decide | rfl | kernel_rfl | ks_is)
    (case lf__law_bad_item => first | k_is | kit_is | kts_exm | k_exc | decide | rfl | kernel_rfl | ks_is)
    (case cf__law_bad_item => first | k_is | kit_is | kts_exm | k_exc | decide | rfl | kernel_rfl | ks_is)
    (case kf__law_bad_item => first | k_is | kit_is | kts_exm | k_exc | decide | rfl | kernel_rfl | ks_is)
    (case af__law_cells => first | k_is | kit_is | kts_exm | k_exc | decide | rfl | kernel_rfl | ks_is)
    (case lf__law_cells => first | k_is | kit_is | kts_exm | k_exc | decide | rfl | kernel_rfl | ks_is)
    (case cf__law_cells => first | k_is | kit_is | kts_exm | k_exc | decide | rfl | kernel_rfl | ks_is)
    (case kf__law_cells => first | k_is | kit_is | kts_exm | k_exc | decide | rfl | kernel_rfl | ks_is)
    (case af__law_column => first | k_is | kit_is | kts_exm | k_exc | decide | rfl | kernel_rfl | ks_is)
    (case lf__law_column => first | k_is | kit_is | kts_exm | k_exc | decide | rfl | kernel_rfl | ks_is)
    (case cf__law_column => first | k_is | kit_is | kts_exm | k_exc | decide | rfl | kernel_rfl | ks_is)
    (case kf__law_column => first | k_is | kit_is | kts_exm | k_exc | decide | rfl | kernel_rfl | ks_is)
    (case af__law_columns => first | k_is | kit_is | kts_exm | k_exc | decide | rfl | kernel_rfl | ks_is)
    (case lf__law_columns => first | k_is | kit_is | kts_exm | k_exc | decide | rfl | kernel_rfl | ks_is)
    (case cf__law_columns => first | k_is | kit_is | kts_exm | k_exc | decide | rfl | kernel_rfl | ks_is)
    (case kf__law_columns => first | k_is | kit_is | kts_exm | k_exc | decide | rfl | kernel_rfl | ks_is)
    (case af__law_deck => first | k_is | kit_is | kts_exm | k_exc | decide | rfl | kernel_rfl | ks_is)
    (case lf__law_deck => first | k_is | kit_is | kts_exm | k_exc | decide | rfl | kernel_rfl | ks_is)
    (case cf__law_deck => first | k_is | kit_is | kts_exm | k_exc | decide | rfl | kernel_rfl | ks_is)
    (case kf__law_deck => first | k_is | kit_is | kts_exm | k_exc | decide | rfl | kernel_rfl | ks_is)
    (case af__law_is_integer => first | k_is | kit_is | kts_exm | k_exc | decide | rfl | kernel_rfl | ks_is)
    (case lf__law_is_integer => first | k_is | kit_is | kts_exm | k_exc | decide | rfl | kernel_rfl | ks_is)
    (case cf__law_is_integer => first | k_is | kit_is | kts_exm | k_exc | decide | rfl | kernel_rfl | ks_is)
    (case kf__law_is_integer => first | k_is | kit_is | kts_exm | k_exc | decide | rfl | kernel_rfl | ks_is)
    (case af__law_low => first | k_is | kit_is | kts_exm | k_exc | decide | rfl | kernel_rfl | ks_is)
    (case lf__law_low => first | k_is | kit_is | kts_exm | k_exc | decide | rfl | kernel_rfl | ks_is)
    (case cf__law_low => first | k_is | kit_is | kts_exm | k_exc | decide | rfl | kernel_rfl | ks_is)
    (case kf__law_low => first | k_is | kit_is | kts_exm | k_exc | decide | rfl | kernel_rfl | ks_is)
    (case af__law_without_carry => first | k_is | kit_is | kts_exm | k_exc | decide | rfl | kernel_rfl | ks_is)
    (case lf__law_without_carry => first | k_is | kit_is | kts_exm | k_exc | decide | rfl | kernel_rfl | ks_is)
    (case cf__law_without_carry => first | k_is | kit_is | kts_exm | k_exc | decide | rfl | kernel_rfl | ks_is)
    (case kf__law_without_carry => first | k_is | kit_is | kts_exm | k_exc | decide | rfl | kernel_rfl | ks_is)
    (case af__law_not_possible => first | k_is | kit_is | kts_exm | k_exc | decide | rfl | kernel_rfl | ks_is)
    (case lf__law_not_possible => first | k_is | kit_is | kts_exm | k_exc | decide | rfl | kernel_rfl | ks_is)
    (case cf__law_not_possible => first | k_is | kit_is | kts_exm | k_exc | decide | rfl | kernel_rfl | ks_is)
    (case kf__law_not_possible => first | k_is | kit_is | kts_exm | k_exc | decide | rfl | kernel_rfl | ks_is)
    (case af__law_deed => first | k_is | kit_is | kts_exm | k_exc | decide | rfl | kernel_rfl | ks_is)
    (case lf__law_deed => first | k_is | kit_is | kts_exm | k_exc | decide | rfl | kernel_rfl | ks_is)
    (case cf__law_deed => first | k_is | kit_is | kts_exm | k_exc | decide | rfl | kernel_rfl | ks_is)
    (case kf__law_deed => first | k_is | kit_is | kts_exm | k_exc | decide | rfl | kernel_rfl | ks_is)
    (case af__law_plan => first | k_is | kit_is | kts_exm | k_exc | decide | rfl | kernel_rfl | ks_is)
    (case lf__law_plan => first | k_is | kit_is | kts_exm | k_exc | decide | rfl | kernel_rfl | ks_is)
    (case cf__law_plan => first | k_is | kit_is | kts_exm | k_exc | decide | rfl | kernel_rfl | ks_is)
    (case kf__law_plan => first | k_is | kit_is | kts_exm | k_exc | decide | rfl | kernel_rfl | ks_is)
    (case af_InvalidSlips___init__ => first | k_is | kit_is | kts_exm | k_exc | decide | rfl | kernel_rfl | ks_is)
    (case lf_InvalidSlips___init__ => first | k_is | kit_is | kts_exm | k_exc | decide | rfl | kernel_rfl | ks_is)
    (case cf_InvalidSlips___init__ => first | k_is | kit_is | kts_exm | k_exc | decide | rfl | kernel_rfl | ks_is)
    (case lc_InvalidSlips___init__ => first | k_is | kit_is | kts_exm | k_exc | decide | rfl | kernel_rfl | ks_is)
    (case lv_InvalidSlips___init__ => first | k_is | kit_is | kts_exm | k_exc | decide | rfl | kernel_rfl | ks_is)
    (case hf_InvalidSlips___init__ => first | k_is | kit_is | kts_exm | k_exc | decide | rfl | kernel_rfl | ks_is)
    (case ce_InvalidSlips___init__ => first | k_is | kit_is | kts_exm | k_exc | decide | rfl | kernel_rfl | ks_is)
    (case lC_InvalidSlips___init__ => first | k_is | kit_is | kts_exm | k_exc | decide | rfl | kernel_rfl | ks_is)
    (case rv_InvalidSlips___init__ => first | k_is | kit_is | kts_exm | k_exc | decide | rfl | kernel_rfl | ks_is)
    (case sa_InvalidSlips___init__ => first | k_is | kit_is | kts_exm | k_exc | decide | rfl | kernel_rfl | ks_is)
    (case eb_InvalidSlips___init__ => first | k_is | kit_is | kts_exm | k_exc | decide | rfl | kernel_rfl | ks_is)
    (case ty_InvalidSlips___init__ => first | k_is | kit_is | kts_exm | k_exc | decide | rfl | kernel_rfl | ks_is)
    (case kc_InvalidSlips___init__ => first | k_is | kit_is | kts_exm | k_exc | decide | rfl | kernel_rfl | ks_is)
    (case h1_InvalidSlips___init__ => first | k_is | kit_is | kts_exm | k_exc | decide | rfl | kernel_rfl | ks_is)
    (case h3_InvalidSlips___init__ => first | k_is | kit_is | kts_exm | k_exc | decide | rfl | kernel_rfl | ks_is)
    (case h4_InvalidSlips___init__ => first | k_is | kit_is | kts_exm | k_exc | decide | rfl | kernel_rfl | ks_is)
    (case h5_InvalidSlips___init__ => first | k_is | kit_is | kts_exm | k_exc | decide | rfl | kernel_rfl | ks_is)
    (case h6_InvalidSlips___init__ => first | k_is | kit_is | kts_exm | k_exc | decide | rfl | kernel_rfl | ks_is)
    (case h7_InvalidSlips___init__ => first | k_is | kit_is | kts_exm | k_exc | decide | rfl | kernel_rfl | ks_is)
    (case tI_InvalidSlips___init__ => first | k_is | kit_is | kts_exm | k_exc | decide | rfl | kernel_rfl | ks_is)
    (case pf_Sheet_base => first | k_is | kit_is | kts_exm | k_exc | decide | rfl | kernel_rfl | ks_is)
    (case pg_Sheet_base => first | k_is | kit_is | kts_exm | k_exc | decide | rfl | kernel_rfl | ks_is)
    (case pt_Sheet_base => first | k_is | kit_is | kts_exm | k_exc | decide | rfl | kernel_rfl | ks_is)
    (case pr_Sheet_base => first | k_is | kit_is | kts_exm | k_exc | decide | rfl | kernel_rfl | ks_is)
    (case lf_Sheet_base => first | k_is | kit_is | kts_exm | k_exc | decide | rfl | kernel_rfl | ks_is)
    (case cf_Sheet_base => first | k_is | kit_is | kts_exm | k_exc | decide | rfl | kernel_rfl | ks_is)
    (case kf_Sheet_base => first | k_is | kit_is | kts_exm | k_exc | decide | rfl | kernel_rfl | ks_is)
    (case af_Written___init__ => first | k_is | kit_is | kts_exm | k_exc | decide | rfl | kernel_rfl | ks_is)
    (case if_Written___init__ => first | k_is | kit_is | kts_exm | k_exc | decide | rfl | kernel_rfl | ks_is)
    (case lf_Written___init__ => first | k_is | kit_is | kts_exm | k_exc | decide | rfl | kernel_rfl | ks_is)
    (case cf_Written___init__ => first | k_is | kit_is | kts_exm | k_exc | decide | rfl | kernel_rfl | ks_is)
    (case kf_Written___init__ => first | k_is | kit_is | kts_exm | k_exc | decide | rfl | kernel_rfl | ks_is)
    (case af_do_sum => first | k_is | kit_is | kts_exm | k_exc | decide | rfl | kernel_rfl | ks_is)
    (case lf_do_sum => first | k_is | kit_is | kts_exm | k_exc | decide | rfl | kernel_rfl | ks_is)
    (case cf_do_sum => first | k_is | kit_is | kts_exm | k_exc | decide | rfl | kernel_rfl | ks_is)
    (case kf_do_sum => first | k_is | kit_is | kts_exm | k_exc | decide | rfl | kernel_rfl | ks_is)
    (case af_do_columns => first | k_is | kit_is | kts_exm | k_exc | decide | rfl | kernel_rfl | ks_is)
    (case lf_do_columns => first | k_is | kit_is | kts_exm | k_exc | decide | rfl | kernel_rfl | ks_is)
    (case cf_do_columns => first | k_is | kit_is | kts_exm | k_exc | decide | rfl | kernel_rfl | ks_is)
    (case kf_do_columns => first | k_is | kit_is | kts_exm | k_exc | decide | rfl | kernel_rfl | ks_is)
    (case af_sum_taken => first | k_is | kit_is | kts_exm | k_exc | decide | rfl | kernel_rfl | ks_is)
    (case lf_sum_taken => first | k_is | kit_is | kts_exm | k_exc | decide | rfl | kernel_rfl | ks_is)
    (case cf_sum_taken => first | k_is | kit_is | kts_exm | k_exc | decide | rfl | kernel_rfl | ks_is)
    (case kf_sum_taken => first | k_is | kit_is | kts_exm | k_exc | decide | rfl | kernel_rfl | ks_is)
    (case af_do_slip => first | k_is | kit_is | kts_exm | k_exc | decide | rfl | kernel_rfl | ks_is)
    (case lf_do_slip => first | k_is | kit_is | kts_exm | k_exc | decide | rfl | kernel_rfl | ks_is)
    (case cf_do_slip => first | k_is | kit_is | kts_exm | k_exc | decide | rfl | kernel_rfl | ks_is)
    (case kf_do_slip => first | k_is | kit_is | kts_exm | k_exc | decide | rfl | kernel_rfl | ks_is)
    (case af_Sheet___len__ => first | k_is | kit_is | kts_exm | k_exc | decide | rfl | kernel_rfl | ks_is)
    (case if_Sheet___len__ => first | k_is | kit_is | kts_exm | k_exc | decide | rfl | kernel_rfl | ks_is)
    (case lf_Sheet___len__ => first | k_is | kit_is | kts_exm | k_exc | decide | rfl | kernel_rfl | ks_is)
    (case cf_Sheet___len__ => first | k_is | kit_is | kts_exm | k_exc | decide | rfl | kernel_rfl | ks_is)
    (case kf_Sheet___len__ => first | k_is | kit_is | kts_exm | k_exc | decide | rfl | kernel_rfl | ks_is)
    (case pf_Sheet_rows => first | k_is | kit_is | kts_exm | k_exc | decide | rfl | kernel_rfl | ks_is)
    (case pg_Sheet_rows => first | k_is | kit_is | kts_exm | k_exc | decide | rfl | kernel_rfl | ks_is)
    (case pt_Sheet_rows => first | k_is | kit_is | kts_exm | k_exc | decide | rfl | kernel_rfl | ks_is)
    (case pr_Sheet_rows => first | k_is | kit_is | kts_exm | k_exc | decide | rfl | kernel_rfl | ks_is)
    (case lf_Sheet_rows => first | k_is | kit_is | kts_exm | k_exc | decide | rfl | kernel_rfl | ks_is)
    (case cf_Sheet_rows => first | k_is | kit_is | kts_exm | k_exc | decide | rfl | kernel_rfl | ks_is)
    (case kf_Sheet_rows => first | k_is | kit_is | kts_exm | k_exc | decide | rfl | kernel_rfl | ks_is)
    (case af__is_plain => first | k_is | kit_is | kts_exm | k_exc | decide | rfl | kernel_rfl | ks_is)
    (case lf__is_plain => first | k_is | kit_is | kts_exm | k_exc | decide | rfl | kernel_rfl | ks_is)
    (case cf__is_plain => first | k_is | kit_is | kts_exm | k_exc | decide | rfl | kernel_rfl | ks_is)
    (case kf__is_plain => first | k_is | kit_is | kts_exm | k_exc | decide | rfl | kernel_rfl | ks_is)
    (case af_deeds_of => first | k_is | kit_is | kts_exm | k_exc | decide | rfl | kernel_rfl | ks_is)
    (case lf_deeds_of => first | k_is | kit_is | kts_exm | k_exc | decide | rfl | kernel_rfl | ks_is)
    (case cf_deeds_of => first | k_is | kit_is | kts_exm | k_exc | decide | rfl | kernel_rfl | ks_is)
    (case kf_deeds_of => first | k_is | kit_is | kts_exm | k_exc | decide | rfl | kernel_rfl | ks_is)
    (case af_is_deed => first | k_is | kit_is | kts_exm | k_exc | decide | rfl | kernel_rfl | ks_is)
    (case lf_is_deed => first | k_is | kit_is | kts_exm | k_exc | decide | rfl | kernel_rfl | ks_is)
    (case cf_is_deed => first | k_is | kit_is | kts_exm | k_exc | decide | rfl | kernel_rfl | ks_is)
    (case kf_is_deed => first | k_is | kit_is | kts_exm | k_exc | decide | rfl | kernel_rfl | ks_is)
    (case af_is_slip => first | k_is | kit_is | kts_exm | k_exc | decide | rfl | kernel_rfl | ks_is)
    (case lf_is_slip => first | k_is | kit_is | kts_exm | k_exc | decide | rfl | kernel_rfl | ks_is)
    (case cf_is_slip => first | k_is | kit_is | kts_exm | k_exc | decide | rfl | kernel_rfl | ks_is)
    (case kf_is_slip => first | k_is | kit_is | kts_exm | k_exc | decide | rfl | kernel_rfl | ks_is)
    (case af_add_with => first | k_is | kit_is | kts_exm | k_exc | decide | rfl | kernel_rfl | ks_is)
    (case lf_add_with => first | k_is | kit_is | kts_exm | k_exc | decide | rfl | kernel_rfl | ks_is)
    (case cf_add_with => first | k_is | kit_is | kts_exm | k_exc | decide | rfl | kernel_rfl | ks_is)
    (case kf_add_with => first | k_is | kit_is | kts_exm | k_exc | decide | rfl | kernel_rfl | ks_is)
    (case af__law_refused => first | k_is | kit_is | kts_exm | k_exc | decide | rfl | kernel_rfl | ks_is)
    (case lf__law_refused => first | k_is | kit_is | kts_exm | k_exc | decide | rfl | kernel_rfl | ks_is)
    (case cf__law_refused => first | k_is | kit_is | kts_exm | k_exc | decide | rfl | kernel_rfl | ks_is)
    (case kf__law_refused => first | k_is | kit_is | kts_exm | k_exc | decide | rfl | kernel_rfl | ks_is)
    (case af__law_slips => first | k_is | kit_is | kts_exm | k_exc | decide | rfl | kernel_rfl | ks_is)
    (case lf__law_slips => first | k_is | kit_is | kts_exm | k_exc | decide | rfl | kernel_rfl | ks_is)
    (case cf__law_slips => first | k_is | kit_is | kts_exm | k_exc | decide | rfl | kernel_rfl | ks_is)
    (case kf__law_slips => first | k_is | kit_is | kts_exm | k_exc | decide | rfl | kernel_rfl | ks_is)
    (case pf_Written_base => first | k_is | kit_is | kts_exm | k_exc | decide | rfl | kernel_rfl | ks_is)
    (case pg_Written_base => first | k_is | kit_is | kts_exm | k_exc | decide | rfl | kernel_rfl | ks_is)
    (case pt_Written_base => first | k_is | kit_is | kts_exm | k_exc | decide | rfl | kernel_rfl | ks_is)
    (case pr_Written_base => first | k_is | kit_is | kts_exm | k_exc | decide | rfl | kernel_rfl | ks_is)
    (case lf_Written_base => first | k_is | kit_is | kts_exm | k_exc | decide | rfl | kernel_rfl | ks_is)
    (case cf_Written_base => first | k_is | kit_is | kts_exm | k_exc | decide | rfl | kernel_rfl | ks_is)
    (case kf_Written_base => first | k_is | kit_is | kts_exm | k_exc | decide | rfl | kernel_rfl | ks_is)
    (case pf_Written_figures => first | k_is | kit_is | kts_exm | k_exc | decide | rfl | kernel_rfl | ks_is)
    (case pg_Written_figures => first | k_is | kit_is | kts_exm | k_exc | decide | rfl | kernel_rfl | ks_is)
    (case pt_Written_figures => first | k_is | kit_is | kts_exm | k_exc | decide | rfl | kernel_rfl | ks_is)
    (case pr_Written_figures => first | k_is | kit_is | kts_exm | k_exc | decide | rfl | kernel_rfl | ks_is)
    (case lf_Written_figures => first | k_is | kit_is | kts_exm | k_exc | decide | rfl | kernel_rfl | ks_is)
    (case cf_Written_figures => first | k_is | kit_is | kts_exm | k_exc | decide | rfl | kernel_rfl | ks_is)
    (case kf_Written_figures => first | k_is | kit_is | kts_exm | k_exc | decide | rfl | kernel_rfl | ks_is)
    (case pf_Written_last => first | k_is | kit_is | kts_exm | k_exc | decide | rfl | kernel_rfl | ks_is)
    (case pg_Written_last => first | k_is | kit_is | kts_exm | k_exc | decide | rfl | kernel_rfl | ks_is)
    (case pt_Written_last => first | k_is | kit_is | kts_exm | k_exc | decide | rfl | kernel_rfl | ks_is)
    (case pr_Written_last => first | k_is | kit_is | kts_exm | k_exc | decide | rfl | kernel_rfl | ks_is)
    (case lf_Written_last => first | k_is | kit_is | kts_exm | k_exc | decide | rfl | kernel_rfl | ks_is)
    (case cf_Written_last => first | k_is | kit_is | kts_exm | k_exc | decide | rfl | kernel_rfl | ks_is)
    (case kf_Written_last => first | k_is | kit_is | kts_exm | k_exc | decide | rfl | kernel_rfl | ks_is)
    (case af__law_written_right => first | k_is | kit_is | kts_exm | k_exc | decide | rfl | kernel_rfl | ks_is)
    (case lf__law_written_right => first | k_is | kit_is | kts_exm | k_exc | decide | rfl | kernel_rfl | ks_is)
    (case cf__law_written_right => first | k_is | kit_is | kts_exm | k_exc | decide | rfl | kernel_rfl | ks_is)
    (case kf__law_written_right => first | k_is | kit_is | kts_exm | k_exc | decide | rfl | kernel_rfl | ks_is)
    (case af_law => first | k_is | kit_is | kts_exm | k_exc | decide | rfl | kernel_rfl | ks_is)
    (case lf_law => first | k_is | kit_is | kts_exm | k_exc | decide | rfl | kernel_rfl | ks_is)
    (case cf_law => first | k_is | kit_is | kts_exm | k_exc | decide | rfl | kernel_rfl | ks_is)
    (case kf_law => first | k_is | kit_is | kts_exm | k_exc | decide | rfl | kernel_rfl | ks_is)
    (case pg_Sheet => first | k_is | kit_is | kts_exm | k_exc | decide | rfl | kernel_rfl | ks_is)
    (case hd_Sheet => first | k_is | kit_is | kts_exm | k_exc | decide | rfl | kernel_rfl | ks_is)
    (case po_Sheet => first | k_is | kit_is | kts_exm | k_exc | decide | rfl | kernel_rfl | ks_is)
    (case sa_Sheet => first | k_is | kit_is | kts_exm | k_exc | decide | rfl | kernel_rfl | ks_is)
    (case mk_Sheet => first | k_is | kit_is | kts_exm | k_exc | decide | rfl | kernel_rfl | ks_is)
    (case kc_Sheet => first | k_is | kit_is | kts_exm | k_exc | decide | rfl | kernel_rfl | ks_is)
    (case na_Sheet__base => first | k_is | kit_is | kts_exm | k_exc | decide | rfl | kernel_rfl | ks_is)
    (case na_Sheet__columns => first | k_is | kit_is | kts_exm | k_exc | decide | rfl | kernel_rfl | ks_is)
    (case na_Sheet__rows => first | k_is | kit_is | kts_exm | k_exc | decide | rfl | kernel_rfl | ks_is)
    (case pg_Written => first | k_is | kit_is | kts_exm | k_exc | decide | rfl | kernel_rfl | ks_is)
    (case hd_Written => first | k_is | kit_is | kts_exm | k_exc | decide | rfl | kernel_rfl | ks_is)
    (case po_Written => first | k_is | kit_is | kts_exm | k_exc | decide | rfl | kernel_rfl | ks_is)
    (case sa_Written => first | k_is | kit_is | kts_exm | k_exc | decide | rfl | kernel_rfl | ks_is)
    (case mk_Written => first | k_is | kit_is | kts_exm | k_exc | decide | rfl | kernel_rfl | ks_is)
    (case kc_Written => first | k_is | kit_is | kts_exm | k_exc | decide | rfl | kernel_rfl | ks_is)
    (case na_Written__base => first | k_is | kit_is | kts_exm | k_exc | decide | rfl | kernel_rfl | ks_is)
    (case na_Written__figures => first | k_is | kit_is | kts_exm | k_exc | decide | rfl | kernel_rfl | ks_is)
    (case na_Written__last => first | k_is | kit_is | kts_exm | k_exc | decide | rfl | kernel_rfl | ks_is)
    (case x_InvalidSheet => first | k_is | kit_is | kts_exm | k_exc | decide | rfl | kernel_rfl | ks_is)
    (case xk_InvalidSheet => first | k_is | kit_is | kts_exm | k_exc | decide | rfl | kernel_rfl | ks_is)
    (case xb_InvalidSheet => first | k_is | kit_is | kts_exm | k_exc | decide | rfl | kernel_rfl | ks_is)
    (case xt_InvalidSheet => first | k_is | kit_is | kts_exm | k_exc | decide | rfl | kernel_rfl | ks_is)
    (case icn => first | k_is | kit_is | kts_exm | k_exc | decide | rfl | kernel_rfl | ks_is)
    (case ict => first | k_is | kit_is | kts_exm | k_exc | decide | rfl | kernel_rfl | ks_is)
    (case xb_InvalidSlips => first | k_is | kit_is | kts_exm | k_exc | decide | rfl | kernel_rfl | ks_is)
    (case e1_InvalidSlips => first | k_is | kit_is | kts_exm | k_exc | decide | rfl | kernel_rfl | ks_is)
    (case e2_InvalidSlips => first | k_is | kit_is | kts_exm | k_exc | decide | rfl | kernel_rfl | ks_is)
    (case e3_InvalidSlips => first | k_is | kit_is | kts_exm | k_exc | decide | rfl | kernel_rfl | ks_is)
    (case e4_InvalidSlips => first | k_is | kit_is | kts_exm | k_exc | decide | rfl | kernel_rfl | ks_is)
    (case e5_InvalidSlips => first | k_is | kit_is | kts_exm | k_exc | decide | rfl | kernel_rfl | ks_is)
    (case q_InvalidSlips_SlipError => first | k_is | kit_is | kts_exm | k_exc | decide | rfl | kernel_rfl | ks_is)
    (case em_InvalidSlips_InvalidSlips => first | k_is | kit_is | kts_exm | k_exc | decide | rfl | kernel_rfl | ks_is)
    (case q_InvalidSlips_ValueError => first | k_is | kit_is | kts_exm | k_exc | decide | rfl | kernel_rfl | ks_is)
    (case qa_InvalidSlips_1 => first | k_is | kit_is | kts_exm | k_exc | decide | rfl | kernel_rfl | ks_is)
    (case qa_InvalidSlips_2 => first | k_is | kit_is | kts_exm | k_exc | decide | rfl | kernel_rfl | ks_is)
    (case nb_ValueError => first | k_is | kit_is | kts_exm | k_exc | decide | rfl | kernel_rfl | ks_is)
    (case nb_all => first | k_is | kit_is | kts_exm | k_exc | decide | rfl | kernel_rfl | ks_is)
    (case nb_bool => first | k_is | kit_is | kts_exm | k_exc | decide | rfl | kernel_rfl | ks_is)
    (case nb_enumerate => first | k_is | kit_is | kts_exm | k_exc | decide | rfl | kernel_rfl | ks_is)
    (case nb_int => first | k_is | kit_is | kts_exm | k_exc | decide | rfl | kernel_rfl | ks_is)
    (case nb_isinstance => first | k_is | kit_is | kts_exm | k_exc | decide | rfl | kernel_rfl | ks_is)
    (case nb_len => first | k_is | kit_is | kts_exm | k_exc | decide | rfl | kernel_rfl | ks_is)
    (case nb_list => first | k_is | kit_is | kts_exm | k_exc | decide | rfl | kernel_rfl | ks_is)
    (case nb_max => first | k_is | kit_is | kts_exm | k_exc | decide | rfl | kernel_rfl | ks_is)
    (case nb_range => first | k_is | kit_is | kts_exm | k_exc | decide | rfl | kernel_rfl | ks_is)
    (case nb_str => first | k_is | kit_is | kts_exm | k_exc | decide | rfl | kernel_rfl | ks_is)
    (case nb_sum => first | k_is | kit_is | kts_exm | k_exc | decide | rfl | kernel_rfl | ks_is)
    (case nb_super => first | k_is | kit_is | kts_exm | k_exc | decide | rfl | kernel_rfl | ks_is)
    (case nb_tuple => first | k_is | kit_is | kts_exm | k_exc | decide | rfl | kernel_rfl | ks_is)
    (case ak_MOST_BASE => first | k_is | kit_is | kts_exm | k_exc | decide | rfl | kernel_rfl | ks_is)
    (case ak_MOST_ROWS => first | k_is | kit_is | kts_exm | k_exc | decide | rfl | kernel_rfl | ks_is)
