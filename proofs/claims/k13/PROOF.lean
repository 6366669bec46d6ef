import PyProof.Rows.All
import Wide.All
import OpenK.AllK
import Wide.FinOn
import HandS.ForMost
import HandS.ForExc
import HandS.Style
import HandS.Property
import HandS.IsInst
import HandS.Wide
import HandS.ExcIs
import HandS.Star
import HandS.Deep
import HandS.TupAny
import KE.DataCmp
import KE.DatumOrd
import HandS.TupSets
import HandS.Zip
import HandS.Walk
import KE.KExcSuper
import HandS.ExcInit
import HandS.ExcField
import HandS.FStr
import HandS.TryOnly
import HandS.Conv
import PySem.Challenge.RW_sumslips_k13_whole_rows_and_columns_behi
set_option Elab.async false
set_option linter.all false
set_option maxRecDepth 100000
namespace SX
open PySem PySem.Spec L2
def Ex (H H' : Hp) : Prop := ∀ a o, H a = some o → H' a = some o
theorem Ex.refl (H : Hp) : Ex H H := fun _ _ h => h
theorem Ex.trans {H H1 H2 : Hp} (a : Ex H H1) (b : Ex H1 H2) : Ex H H2 := fun x o h => b x o (a x o h)
theorem Ex.new {H : Hp} {p : Addr} {o : HO} (h : H p = none) : Ex H (upd H p o) := fun a u e => by
  rw [upd_ne (ne_of_none e h)]
  exact e
abbrev Mem := List (Addr × HO)
structure Me (G : Hp) (M : Mem) (H : Hp) : Prop where
  ex : Ex G H
  at_ : ∀ p ∈ M, H p.1 = some p.2 ∧ G p.1 = none
  nd : (M.map (·.1)).Nodup
section
variable {G G' H : Hp} {M M' F : Mem} {p q : Addr} {o o' : HO} {i : Nat}
theorem Me.get (m : Me G M H) (h : M[i]? = some (p, o)) : H p = some o := (m.at_ _ (List.mem_of_getElem? h)).1
theorem get_app (h : M[i]? = some (p, o)) : (M ++ F)[i]? = some (p, o) := by
  rw [List.getElem?_append_left (List.getElem?_eq_some_iff.mp h).1]
  exact h
theorem Me.getF (m : Me G (M ++ F) H) (h : M[i]? = some (p, o)) : H p = some o := m.get (get_app h)
theorem Me.free (m : Me G M H) (h : H p = none) : G p = none := by
  cases e : G p with
  | none => rfl
  | some u =>
    rw [m.ex p u e] at h
    cases h
theorem Me.notin (m : Me G M H) (h : H p = none) : p ∉ M.map (·.1) := fun z => by
  obtain ⟨x, hx, e⟩ := List.mem_map.mp z
  have := (m.at_ x hx).1
  rw [e, h] at this
  cases this
theorem Me.new (m : Me G M H) (h : H p = none) : Me G M (upd H p o) :=
  ⟨m.ex.trans (Ex.new h), fun x hx => ⟨by rw [upd_ne (ne_of_none (m.at_ x hx).1 h)]; exact (m.at_ x hx).1, (m.at_ x hx).2⟩, m.nd⟩
theorem Me.newF (m : Me G M H) (h : H p = none) : Me (upd G p o) M (upd H p o) :=
  ⟨fun a u e => by
    by_cases ha : a = p
    · subst ha
      rw [upd_same] at e ⊢
      exact e
    · rw [upd_ne ha] at e ⊢
      exact m.ex a u e, fun x hx => by
    have hne : x.1 ≠ p := ne_of_none (m.at_ x hx).1 h
    rw [upd_ne hne, upd_ne hne]
    exact m.at_ x hx, m.nd⟩
theorem Me.sub (m : Me G M H) (h : M'.Sublist M) : Me G M' H := ⟨m.ex, fun x hx => m.at_ x (h.subset hx), (m.nd.sublist (h.map _))⟩
theorem Me.perm (m : Me G M H) (h : M'.Perm M) : Me G M' H := ⟨m.ex, fun x hx => m.at_ x (h.mem_iff.mp hx), (h.map _).nodup_iff.mpr m.nd⟩
theorem Me.newM (m : Me G M H) (h : H p = none) : Me G ((p, o) :: M) (upd H p o) :=
  ⟨(m.new h).ex, fun x hx => by
    rcases List.mem_cons.mp hx with rfl | hx
    · exact ⟨upd_same, m.free h⟩
    · exact (m.new h).at_ x hx, List.nodup_cons.mpr ⟨m.notin h, m.nd⟩⟩
theorem Me.newMid (m : Me G (M ++ F) H) (h : H p = none) : Me G ((M ++ [(p, o)]) ++ F) (upd H p o) :=
  (m.newM h).perm (by rw [List.append_assoc]; exact List.perm_middle)
theorem Me.put (m : Me G M H) (h : M[i]? = some (p, o)) : Me G (M.set i (p, o')) (upd H p o') := by
  obtain ⟨hi, e⟩ := List.getElem?_eq_some_iff.mp h
  have hk : (M.set i (p, o')).map (·.1) = M.map (·.1) := by
    rw [List.map_set]
    apply List.ext_getElem?
    intro j
    rw [List.getElem?_set]
    split
    · rename_i hj
      subst hj
      rw [if_pos (by rw [List.length_map]; exact hi), List.getElem?_map, h]
      rfl
    · rfl
  have gp : G p = none := (m.at_ _ (List.mem_of_getElem? h)).2
  refine ⟨fun a u ea => ?_, fun x hx => ?_, by rw [hk]; exact m.nd⟩
  · rw [upd_ne (ne_of_none ea gp)]
    exact m.ex a u ea
  · obtain ⟨j, hj, ej⟩ := List.mem_iff_getElem.mp hx
    rw [List.length_set] at hj
    rw [List.getElem_set] at ej
    by_cases hij : i = j
    · rw [if_pos hij] at ej
      subst ej
      exact ⟨upd_same, gp⟩
    · rw [if_neg hij] at ej
      subst ej
      have hne : M[j].1 ≠ p := fun z => by
        have n := m.nd
        rw [List.nodup_iff_pairwise_ne] at n
        have := List.pairwise_iff_getElem.mp n
        rcases Nat.lt_or_gt_of_ne hij with l | l
        · have q := this i j (by rw [List.length_map]; exact hi) (by rw [List.length_map]; exact hj) l
          rw [List.getElem_map, List.getElem_map, e] at q
          exact q z.symm
        · have q := this j i (by rw [List.length_map]; exact hj) (by rw [List.length_map]; exact hi) l
          rw [List.getElem_map, List.getElem_map, e] at q
          exact q z
      rw [upd_ne hne]
      exact m.at_ _ (List.getElem_mem hj)
theorem set_app {x : Addr × HO} (h : i < M.length) : (M ++ F).set i x = M.set i x ++ F := by
  rw [List.set_append, if_pos h]
theorem Me.putF (m : Me G (M ++ F) H) (h : M[i]? = some (p, o)) : Me G (M.set i (p, o') ++ F) (upd H p o') := by
  rw [← set_app (List.getElem?_eq_some_iff.mp h).1]
  exact m.put (get_app h)
/-- what is owned is frozen -/
theorem Me.freeze (m : Me G ((p, o) :: M) H) : Me (upd G p o) M H ∧ Ex G (upd G p o) := by
  have gp := (m.at_ _ (List.mem_cons_self)).2
  have hp := (m.at_ _ (List.mem_cons_self)).1
  have nd := List.nodup_cons.mp m.nd
  refine ⟨⟨fun a u e => ?_, fun x hx => ?_, nd.2⟩, Ex.new gp⟩
  · by_cases ha : a = p
    · subst ha
      rw [upd_same] at e
      cases e
      exact hp
    · rw [upd_ne ha] at e
      exact m.ex a u e
  · refine ⟨(m.at_ x (List.mem_cons_of_mem _ hx)).1, ?_⟩
    have hne : x.1 ≠ p := fun z => nd.1 (List.mem_map.mpr ⟨x, hx, z⟩)
    rw [upd_ne hne]
    exact (m.at_ x (List.mem_cons_of_mem _ hx)).2
theorem Me.freezeMid (m : Me G (M ++ (p, o) :: F) H) : Me (upd G p o) (M ++ F) H ∧ Ex G (upd G p o) := (m.perm List.perm_middle.symm).freeze
theorem Me.freezeLast (m : Me G ((M ++ [(p, o)]) ++ F) H) : Me (upd G p o) (M ++ F) H ∧ Ex G (upd G p o) := by
  rw [List.append_assoc] at m
  exact m.freezeMid
end
section
variable {K : PySem.W.Frag} {G G' H : Hp}
theorem ex_rd {a : Addr} {u : HO} (e : Ex G G') (h : Rd G a u) : Rd G' a u := by
  rcases h with h | ⟨o, h⟩
  · exact .inl (e a _ h)
  · exact .inr ⟨o, e a _ h⟩
theorem ex_l {a : Addr} {xs : List V} (e : Ex G G') (h : SqL K G a xs) : SqL K G' a xs := by
  rcases h with h | h
  · exact .inl (ex_rd e h)
  · exact .inr h
theorem ex_t {a : Addr} {xs : List V} (e : Ex G G') (h : SqT K G a xs) : SqT K G' a xs := by
  rcases h with h | h
  · exact .inl (ex_rd e h)
  · exact .inr h
mutual
theorem Dp.ex (e : Ex G G') : ∀ (d : PyData) (v : V), Dp K G v d → Dp K G' v d
  | .none, _, h => by cases h; exact .non
  | .bool b, _, h => by cases h; exact .bl b
  | .int i, _, h => by cases h; exact .int i
  | .str x, _, h => by cases h; exact .str x
  | .list ds, _, h => by
    cases h with
    | lst hs ha => exact .lst (ex_l e hs) (DpAll.ex e ds _ ha)
  | .tuple ds, _, h => by
    cases h with
    | tup hs ha => exact .tup (ex_t e hs) (DpAll.ex e ds _ ha)
  | .dict _, _, h => by cases h
theorem DpAll.ex (e : Ex G G') : ∀ (ds : List PyData) (vs : List V), DpAll K G vs ds → DpAll K G' vs ds
  | [], _, h => by cases h; exact .nil
  | d :: ds, _, h => by
    cases h with
    | cons h1 h2 => exact .cons (Dp.ex e d _ h1) (DpAll.ex e ds _ h2)
end
theorem dm {v : V} {d : PyData} (h : Dp K G v d) (e : Ex G G') : Dp K G' v d := Dp.ex e d v h
theorem dma {vs : List V} {ds : List PyData} (h : DpAll K G vs ds) (e : Ex G G') : DpAll K G' vs ds := DpAll.ex e ds vs h
theorem dpa_len : ∀ {vs : List V} {ds : List PyData}, DpAll K G vs ds → vs.length = ds.length
  | _, [], h => by cases h; rfl
  | _, d :: ds, h => by
    cases h with
    | cons _ h2 => simp [dpa_len h2]
theorem dpa_at : ∀ {vs : List V} {ds : List PyData} {i : Nat} {d : PyData}, DpAll K G vs ds → ds[i]? = some d → ∃ v, vs[i]? = some v ∧ Dp K G v d
  | _, [], _, _, _, e => by simp at e
  | _, d :: ds, 0, _, h, e => by
    cases h with
    | cons h1 _ => exact ⟨_, rfl, by have := Option.some.inj e; rw [← this]; exact h1⟩
  | _, d :: ds, i + 1, _, h, e => by
    cases h with
    | cons _ h2 => exact dpa_at (i := i) h2 e
theorem dpa_atV : ∀ {vs : List V} {ds : List PyData} {i : Nat} {v : V}, DpAll K G vs ds → vs[i]? = some v → ∃ d, ds[i]? = some d ∧ Dp K G v d
  | _, [], _, _, h, e => by cases h; simp at e
  | _, d :: ds, 0, _, h, e => by
    cases h with
    | cons h1 _ => exact ⟨_, rfl, by have := Option.some.inj e; rw [← this]; exact h1⟩
  | _, d :: ds, i + 1, _, h, e => by
    cases h with
    | cons _ h2 => exact dpa_atV (i := i) h2 e
theorem dpa_app : ∀ {vs ws : List V} {ds es : List PyData}, DpAll K G vs ds → DpAll K G ws es → DpAll K G (vs ++ ws) (ds ++ es)
  | _, _, [], _, h, h' => by cases h; exact h'
  | _, _, d :: ds, _, h, h' => by
    cases h with
    | cons h1 h2 => exact .cons h1 (dpa_app h2 h')
theorem dp_int {v : V} {n : Int} (h : Dp K G v (.int n)) : v = .int n := by cases h; rfl
theorem dp_bl {v : V} {n : Bool} (h : Dp K G v (.bool n)) : v = .bl n := by cases h; rfl
theorem dp_str {v : V} {n : Str} (h : Dp K G v (.str n)) : v = .str n := by cases h; rfl
theorem dp_non {v : V} (h : Dp K G v .none) : v = .non := by cases h; rfl
theorem dp_tup {v : V} {ds : List PyData} (h : Dp K G v (.tuple ds)) : ∃ a xs, v = .ref a ∧ SqT K G a xs ∧ DpAll K G xs ds := by
  cases h with
  | tup a b => exact ⟨_, _, rfl, a, b⟩
theorem dp_lst {v : V} {ds : List PyData} (h : Dp K G v (.list ds)) : ∃ a xs, v = .ref a ∧ SqL K G a xs ∧ DpAll K G xs ds := by
  cases h with
  | lst a b => exact ⟨_, _, rfl, a, b⟩
theorem dpAll_ints : ∀ {vs : List V} {ns : List Int}, DpAll K G vs (ns.map .int) → vs = ns.map V.int
  | _, [], h => by cases h; rfl
  | _, n :: ns, h => by
    cases h with
    | cons h1 h2 => rw [dp_int h1, dpAll_ints h2]; rfl
theorem ints_dpAll : ∀ (ns : List Int), DpAll K G (ns.map V.int) (ns.map .int)
  | [] => .nil
  | n :: ns => .cons (.int n) (ints_dpAll ns)
theorem dpAll_bls : ∀ {vs : List V} {ns : List Bool}, DpAll K G vs (ns.map .bool) → vs = ns.map V.bl
  | _, [], h => by cases h; rfl
  | _, n :: ns, h => by
    cases h with
    | cons h1 h2 => rw [dp_bl h1, dpAll_bls h2]; rfl
end
end SX
set_option Elab.async false
set_option linter.all false
set_option maxRecDepth 100000
namespace SX
open PySem PySem.Spec L2
abbrev Post := Hp → V → Mem → Prop
abbrev isP (P : Hp → V → Prop) (M : Mem) : Post := fun G v M' => P G v ∧ M' = M
abbrev isV (x : V) (M : Mem) : Post := isP (fun _ v => v = x) M
abbrev isD (K : PySem.W.Frag) (d : PyData) (M : Mem) : Post := isP (fun G v => Dp K G v d) M
def Ev (te : TE) (σ : St) (G : Hp) (M : Mem) (R : Post) : Prop := ∀ G1 H F, Ex G G1 → Me G1 (M ++ F) H → ∀ Q : VK, (∀ v G2 M2 H2, Ex G1 G2 → Me G2 (M2 ++ F) H2 → R G2 v M2 → Q v H2) → te σ H Q
def EvT (tt : TT) (σ : St) (G : Hp) (M : Mem) (b : Bool) (M' : Mem) : Prop := ∀ G1 H F, Ex G G1 → Me G1 (M ++ F) H → ∀ Q : Bool → Hp → Prop, (∀ G2 H2, Ex G1 G2 → Me G2 (M' ++ F) H2 → Q b H2) → tt σ H Q
def AllP (G : Hp) : List (Hp → V → Prop) → List V → Prop
  | [], [] => True
  | P :: Ps, v :: vs => P G v ∧ AllP G Ps vs
  | _, _ => False
def EvA (ta : TA) (σ : St) (G : Hp) (M : Mem) (Ps : List (Hp → V → Prop)) (M' : Mem) : Prop := ∀ G1 H F, Ex G G1 → Me G1 (M ++ F) H → ∀ Q : List V → Hp → Prop, (∀ vs G2 H2, Ex G1 G2 → Me G2 (M' ++ F) H2 → AllP G2 Ps vs → Q vs H2) → ta σ H Q
class Mono (P : Hp → V → Prop) : Prop where
  mono : ∀ G G' v, Ex G G' → P G v → P G' v
instance {x : V} : Mono (fun _ v => v = x) := ⟨fun _ _ _ _ h => h⟩
instance {K : PySem.W.Frag} {d : PyData} : Mono (fun G v => Dp K G v d) := ⟨fun _ _ _ e h => dm h e⟩
/-- what stands at an address, whoever owns it -/
def At (G : Hp) (M : Mem) (a : Addr) (o : HO) : Prop := ∀ G1 H F, Ex G G1 → Me G1 (M ++ F) H → H a = some o
theorem At.G {G : Hp} {M : Mem} {a : Addr} {o : HO} (h : G a = some o) : At G M a o := fun _ _ _ e m => m.ex _ _ (e _ _ h)
theorem At.M {G : Hp} {M : Mem} {a : Addr} {o : HO} {i : Nat} (h : M[i]? = some (a, o)) : At G M a o := fun _ _ _ _ m => m.getF h
theorem At.ex {G G' : Hp} {M : Mem} {a : Addr} {o : HO} (h : At G M a o) (e : Ex G G') : At G' M a o := fun G1 H F e1 m => h G1 H F (e.trans e1) m
def AtL (K : PySem.W.Frag) (G : Hp) (M : Mem) (a : Addr) (xs : List V) : Prop := ∀ G1 H F, Ex G G1 → Me G1 (M ++ F) H → SqL K H a xs
def AtT (K : PySem.W.Frag) (G : Hp) (M : Mem) (a : Addr) (xs : List V) : Prop := ∀ G1 H F, Ex G G1 → Me G1 (M ++ F) H → SqT K H a xs
theorem AtL.of {K : PySem.W.Frag} {G : Hp} {M : Mem} {a : Addr} {xs : List V} (h : At G M a (.lst xs)) : AtL K G M a xs := fun _ _ _ e m => SqL.of (h _ _ _ e m)
theorem AtL.M {K : PySem.W.Frag} {G : Hp} {M : Mem} {a : Addr} {xs : List V} {i : Nat} (h : M[i]? = some (a, .lst xs)) : AtL K G M a xs := .of (.M h)
theorem AtL.G {K : PySem.W.Frag} {G : Hp} {M : Mem} {a : Addr} {xs : List V} (h : SqL K G a xs) : AtL K G M a xs := fun _ _ _ e m => ex_l m.ex (ex_l e h)
theorem AtT.G {K : PySem.W.Frag} {G : Hp} {M : Mem} {a : Addr} {xs : List V} (h : SqT K G a xs) : AtT K G M a xs := fun _ _ _ e m => ex_t m.ex (ex_t e h)
theorem AtL.ex {K : PySem.W.Frag} {G G' : Hp} {M : Mem} {a : Addr} {xs : List V} (h : AtL K G M a xs) (e : Ex G G') : AtL K G' M a xs := fun G1 H F e1 m => h G1 H F (e.trans e1) m
section
variable {K : PySem.W.Frag} {σ : St} {G G' H : Hp} {M M1 M2 M3 F : Mem} {R : Post} {ta tb tc te : TE} {tt tu : TT} {x y z : V} {d e : PyData} {a b c : Bool} {i j : Int} {P P1 P2 : Hp → V → Prop} {Ps : List (Hp → V → Prop)}
theorem Ev.mono (h : Ev te σ G M R) (e : Ex G G') : Ev te σ G' M R := fun G1 H F e1 m Q q => h G1 H F (e.trans e1) m Q q
theorem EvT.mono (h : EvT tt σ G M a M1) (e : Ex G G') : EvT tt σ G' M a M1 := fun G1 H F e1 m Q q => h G1 H F (e.trans e1) m Q q
theorem Ev.imp {R' : Post} (h : Ev te σ G M R) (f : ∀ G1 v M1, Ex G G1 → R G1 v M1 → R' G1 v M1) : Ev te σ G M R' := fun G1 H F e m Q q => h G1 H F e m Q fun v G2 M2 H2 e2 m2 r => q v G2 M2 H2 e2 m2 (f _ _ _ (e.trans e2) r)
theorem Ev.impP (h : Ev te σ G M (isP P M1)) (f : ∀ G1 v, Ex G G1 → P G1 v → P1 G1 v) : Ev te σ G M (isP P1 M1) := h.imp fun G1 v M2 e r => ⟨f _ _ e r.1, r.2⟩
theorem ev_var {k : Nat} (h : σ[k]? = some (some x)) : Ev (tVar k) σ G M (isV x M) := fun _ _ _ _ m _ q => ⟨x, h, q x _ _ _ (Ex.refl _) m ⟨rfl, rfl⟩⟩
theorem ev_varP {k : Nat} [Mono P] (h : σ[k]? = some (some x)) (hp : P G x) : Ev (tVar k) σ G M (isP P M) := fun _ _ _ e m _ q => ⟨x, h, q x _ _ _ (Ex.refl _) m ⟨Mono.mono _ _ _ e hp, rfl⟩⟩
theorem ev_c : Ev (tC x) σ G M (isV x M) := fun _ _ _ _ m _ q => q x _ _ _ (Ex.refl _) m ⟨rfl, rfl⟩
theorem Ev.toD (h : Ev te σ G M (isV x M1)) (hd : ∀ G, Dp K G x d) : Ev te σ G M (isD K d M1) := h.impP fun G1 v _ e => by
  rw [e]
  exact hd G1
theorem ev_dI (h : Ev te σ G M (isD K (.int i) M1)) : Ev te σ G M (isV (.int i) M1) := h.impP fun _ _ _ e => dp_int e
theorem ev_iD (h : Ev te σ G M (isV (.int i) M1)) : Ev te σ G M (isD K (.int i) M1) := h.toD fun _ => .int i
theorem ev_bD (h : Ev te σ G M (isV (.bl a) M1)) : Ev te σ G M (isD K (.bool a) M1) := h.toD fun _ => .bl a
/-- one value, then another, then an operation on both -/
theorem ev_op {r : R2} [Mono P1] (h1 : Ev ta σ G M (isP P1 M1)) (h2 : Ev tb σ G M1 (isP P2 M2))
    (hr : ∀ G1 H F x y, Ex G G1 → Me G1 (M2 ++ F) H → P1 G1 x → P2 G1 y → ∀ Q : VK, (∀ v G2 M3 H2, Ex G1 G2 → Me G2 (M3 ++ F) H2 → R G2 v M3 → Q v H2) → r x y H Q) : Ev (tOp r ta tb) σ G M R := fun G1 H F e m Q q =>
  h1 G1 H F e m _ fun x G2 M2' H2 e2 m2 r1 => by
    obtain ⟨p1, rfl⟩ := r1
    refine h2 G2 H2 F (e.trans e2) m2 _ fun y G3 M3' H3 e3 m3 r2 => ?_
    obtain ⟨p2, rfl⟩ := r2
    exact hr G3 H3 F x y ((e.trans e2).trans e3) m3 (Mono.mono _ _ _ e3 p1) p2 Q fun v G4 M4 H4 e4 m4 r4 => q v G4 M4 H4 ((e2.trans e3).trans e4) m4 r4
/-- an operation of two values that leaves the heap -/
theorem ev_opV {r : R2} (h1 : Ev ta σ G M (isV x M1)) (h2 : Ev tb σ G M1 (isV y M2)) (hr : ∀ H (Q : VK), Q z H → r x y H Q) : Ev (tOp r ta tb) σ G M (isV z M2) :=
  ev_op h1 h2 fun G1 H F x' y' e m p1 p2 Q q => by
    subst p1 p2
    exact hr H Q (q z G1 _ H (Ex.refl _) m ⟨rfl, rfl⟩)
theorem ev_I0 {g : Int → Int → V} (h1 : Ev ta σ G M (isV (.int i) M1)) (h2 : Ev tb σ G M1 (isV (.int j) M2)) : Ev (tOp (rI0 g) ta tb) σ G M (isV (g i j) M2) := ev_opV h1 h2 fun H Q q => ⟨i, j, rfl, rfl, q⟩
theorem ev_I {C : Int → Int → Prop} {g : Int → Int → V} (h1 : Ev ta σ G M (isV (.int i) M1)) (h2 : Ev tb σ G M1 (isV (.int j) M2)) (hc : C i j) : Ev (tOp (rI C g) ta tb) σ G M (isV (g i j) M2) := ev_opV h1 h2 fun H Q q => ⟨i, j, rfl, rfl, hc, q⟩
theorem ev_eqI (h1 : Ev ta σ G M (isV (.int i) M1)) (h2 : Ev tb σ G M1 (isV (.int j) M2)) : Ev (tOp rEq ta tb) σ G M (isV (.bl (decide (i = j))) M2) :=
  ev_opV h1 h2 fun H Q q => ⟨rfl, by rw [show decide (V.int i = V.int j) = decide (i = j) by rw [decide_eq_decide]; exact ⟨fun h => by cases h; rfl, fun h => by rw [h]⟩]; exact q⟩
theorem ev_neI (h1 : Ev ta σ G M (isV (.int i) M1)) (h2 : Ev tb σ G M1 (isV (.int j) M2)) : Ev (tOp rNe ta tb) σ G M (isV (.bl (!decide (i = j))) M2) :=
  ev_opV h1 h2 fun H Q q => ⟨rfl, by rw [show decide (V.int i = V.int j) = decide (i = j) by rw [decide_eq_decide]; exact ⟨fun h => by cases h; rfl, fun h => by rw [h]⟩]; exact q⟩
theorem ev_eqD (h1 : Ev ta σ G M (isD K d M1)) (h2 : Ev tb σ G M1 (isD K e M2)) (s1 : SeqAt.shaped d = true) (s2 : SeqAt.shaped e = true) : Ev (tOp (rEqD K) ta tb) σ G M (isV (.bl (PyData.eqv d e)) M2) :=
  ev_op h1 h2 fun G1 H F x' y' ex m p1 p2 Q q => ⟨d, e, dm p1 m.ex, dm p2 m.ex, s1, s2, q _ G1 _ H (Ex.refl _) m ⟨rfl, rfl⟩⟩
theorem et_test (h : Ev te σ G M (isV (.bl a) M1)) : EvT (tTest te) σ G M a M1 := fun G1 H F e m Q q => h G1 H F e m _ fun v G2 M2 H2 e2 m2 r => by
  obtain ⟨rfl, rfl⟩ := r
  exact ⟨a, rfl, q G2 H2 e2 m2⟩
theorem et_B (h : Ev te σ G M (isV (.bl a) M1)) : EvT (tB te) σ G M a M1 := fun G1 H F e m Q q => h G1 H F e m _ fun v G2 M2 H2 e2 m2 r => by
  obtain ⟨rfl, rfl⟩ := r
  exact ⟨a, rfl, q G2 H2 e2 m2⟩
theorem et_not (h : EvT tt σ G M a M1) : EvT (tNot tt) σ G M (!a) M1 := fun G1 H F e m Q q => h G1 H F e m _ fun G2 H2 e2 m2 => q G2 H2 e2 m2
theorem et_or (h1 : EvT tt σ G M a M1) (h2 : a = false → EvT tu σ G M1 b M1) : EvT (tOr tt tu) σ G M (a || b) M1 := fun G1 H F e m Q q => h1 G1 H F e m _ fun G2 H2 e2 m2 => by
  cases a with
  | true =>
    show (if true = true then _ else _)
    rw [if_pos rfl]
    exact q G2 H2 e2 m2
  | false =>
    show (if false = true then _ else _)
    rw [if_neg Bool.false_ne_true]
    exact h2 rfl G2 H2 F (e.trans e2) m2 Q fun G3 H3 e3 m3 => q G3 H3 (e2.trans e3) m3
theorem ev_andV (h1 : Ev ta σ G M (isV (.bl a) M1)) (h2 : a = true → Ev tb σ G M1 (isV (.bl b) M1)) : Ev (tAndV ta tb) σ G M (isV (.bl (a && b)) M1) := fun G1 H F e m Q q => h1 G1 H F e m _ fun v G2 M2 H2 e2 m2 r => by
  obtain ⟨rfl, rfl⟩ := r
  refine ⟨a, rfl, ?_⟩
  cases a with
  | true =>
    rw [if_pos rfl]
    exact h2 rfl G2 H2 F (e.trans e2) m2 Q fun v G3 M3 H3 e3 m3 r3 => q v G3 M3 H3 (e2.trans e3) m3 r3
  | false =>
    rw [if_neg Bool.false_ne_true]
    exact q _ G2 _ H2 e2 m2 ⟨rfl, rfl⟩
theorem ev_notV (h1 : Ev ta σ G M (isV (.bl a) M1)) : Ev (tNotV ta) σ G M (isV (.bl (!a)) M1) := fun G1 H F e m Q q => h1 G1 H F e m _ fun v G2 M2 H2 e2 m2 r => by
  obtain ⟨rfl, rfl⟩ := r
  exact ⟨a, rfl, q _ G2 _ H2 e2 m2 ⟨rfl, rfl⟩⟩
/-- i <= x <= j -/
theorem ev_chainI {r r' : R2} {P P' : Int → Int → Bool} {k : Int} (h1 : Ev ta σ G M (isV (.int i) M1)) (h2 : Ev tb σ G M1 (isV (.int j) M2)) (h3 : Ev tc σ G M2 (isV (.int k) M2))
    (hr : ∀ H (Q : VK), Q (.bl (P i j)) H → r (.int i) (.int j) H Q) (hr' : ∀ H (Q : VK), Q (.bl (P' j k)) H → r' (.int j) (.int k) H Q) : Ev (tChain r r' ta tb tc) σ G M (isV (.bl (P i j && P' j k)) M2) := fun G1 H F e m Q q =>
  h1 G1 H F e m _ fun v G2 M2' H2 e2 m2 r2 => by
    obtain ⟨rfl, rfl⟩ := r2
    refine h2 G2 H2 F (e.trans e2) m2 _ fun v G3 M3' H3 e3 m3 r3 => ?_
    obtain ⟨rfl, rfl⟩ := r3
    refine hr _ _ ⟨_, rfl, ?_⟩
    generalize P i j = pij at q ⊢
    cases pij with
    | true =>
      show (if true = true then _ else _)
      rw [if_pos rfl]
      refine h3 G3 H3 F ((e.trans e2).trans e3) m3 _ fun v G4 M4' H4 e4 m4 r4 => ?_
      obtain ⟨rfl, rfl⟩ := r4
      exact hr' _ _ (q _ G4 _ H4 ((e2.trans e3).trans e4) m4 ⟨by rw [Bool.true_and], rfl⟩)
    | false =>
      show (if false = true then _ else _)
      rw [if_neg Bool.false_ne_true]
      exact q _ G3 _ H3 (e2.trans e3) m3 ⟨by rw [Bool.false_and], rfl⟩
theorem ea_nil : EvA tNil σ G M [] M := fun _ _ _ _ m _ q => q [] _ _ (Ex.refl _) m trivial
theorem ea_cons {tr : TA} [Mono P] (h1 : Ev ta σ G M (isP P M1)) (h2 : EvA tr σ G M1 Ps M2) : EvA (tCons ta tr) σ G M (P :: Ps) M2 := fun G1 H F e m Q q =>
  h1 G1 H F e m _ fun v G2 M2' H2 e2 m2 r => by
    obtain ⟨p, rfl⟩ := r
    exact h2 G2 H2 F (e.trans e2) m2 _ fun vs G3 H3 e3 m3 a => q (v :: vs) G3 H3 (e2.trans e3) m3 ⟨Mono.mono _ _ _ e3 p, a⟩
/-- data from arguments -/
theorem allD : ∀ {ds : List PyData} {vs : List V}, AllP G (ds.map fun d => fun G v => Dp K G v d) vs → DpAll K G vs ds
  | [], [], _ => .nil
  | [], _ :: _, h => h.elim
  | _ :: _, [], h => h.elim
  | _ :: _, _ :: _, h => .cons h.1 (allD h.2)
theorem ev_ixL {p : Addr} {xs : List V} (h1 : Ev ta σ G M (isV (.ref p) M1)) (h2 : Ev tb σ G M1 (isV (.int i) M2)) (hL : AtL K G M2 p xs) (hx : atI xs i = some x) : Ev (tOp (rIxL K) ta tb) σ G M (isV x M2) :=
  ev_op h1 h2 fun G1 H F x' y' e m p1 p2 Q q => by
    subst p1 p2
    exact ⟨p, xs, i, x, rfl, rfl, hL G1 H F e m, hx, q _ _ _ _ (Ex.refl _) m ⟨rfl, rfl⟩⟩
theorem ev_fld {p C dx : Addr} {fs : List (Str × V)} {f : Str} (h1 : Ev ta σ G M (isV (.ref p) M1)) (ha : At G M1 p (.ins C dx fs)) (hc : Cls K C) (hn : NoAttr K C f) (hl : fs.lookup f = some x) : Ev (tFld K ta f) σ G M (isV x M1) := fun G1 H F e m Q q =>
  h1 G1 H F e m _ fun v G2 M2' H2 e2 m2 r => by
    obtain ⟨rfl, rfl⟩ := r
    exact ⟨p, C, dx, fs, x, rfl, ha G2 H2 F (e.trans e2) m2, hc, hn, hl, q _ _ _ _ e2 m2 ⟨rfl, rfl⟩⟩
/-- a promise over the symbolic heap -/
def spec {α : Type} (pre : α → Hp → Mem → List V → Prop) (post : α → Mem → Post) : Sp := fun vs H Q _ => ∃ x G M F, Me G (M ++ F) H ∧ pre x G M vs ∧ ∀ v G' M' H', Ex G G' → Me G' (M' ++ F) H' → post x M G' v M' → Q v H'
theorem ev_call {α : Type} {pre : α → Hp → Mem → List V → Prop} {post : α → Mem → Post} {t : TA} {E : XK} (xx : α) (h : EvA t σ G M Ps M1) (hp : ∀ G1 vs, Ex G G1 → AllP G1 Ps vs → pre xx G1 M1 vs) : Ev (tCall (spec pre post) [] E t) σ G M (post xx M1) := fun G1 H F e m Q q =>
  h G1 H F e m _ fun vs G2 H2 e2 m2 a => ⟨xx, G2, M1, F, m2, by rw [List.append_nil]; exact hp G2 vs (e.trans e2) a, fun v G' M' H' e' m' r => q v G' M' H' (e2.trans e') m' r⟩
theorem ev_prop {α : Type} {pre : α → Hp → Mem → List V → Prop} {post : α → Mem → Post} {E : XK} {C p dx : Addr} {fs : List (Str × V)} (xx : α) (h1 : Ev ta σ G M (isV (.ref p) M1)) (ha : At G M1 p (.ins C dx fs))
    (hp : ∀ G1, Ex G G1 → pre xx G1 M1 [.ref p]) : Ev (tProp C (spec pre post) [] E ta) σ G M (post xx M1) := fun G1 H F e mm Q q =>
  h1 G1 H F e mm _ fun v G2 M2' H2 e2 m2 r => by
    obtain ⟨rfl, rfl⟩ := r
    exact ⟨p, dx, fs, rfl, ha G2 H2 F (e.trans e2) m2, xx, G2, M2', F, m2, hp G2 (e.trans e2), fun v G' M' H' e' m' r => q v G' M' H' (e2.trans e') m' r⟩
/-- a built-in by its values -/
theorem ev_CB {r : List V → Hp → VK → Prop} {t : TA} (h : EvA t σ G M Ps M1)
    (hr : ∀ G1 H F vs, Ex G G1 → Me G1 (M1 ++ F) H → AllP G1 Ps vs → ∀ Q : VK, (∀ v G2 M3 H2, Ex G1 G2 → Me G2 (M3 ++ F) H2 → R G2 v M3 → Q v H2) → r vs H Q) : Ev (tCB r t) σ G M R := fun G1 H F e m Q q =>
  h G1 H F e m _ fun vs G2 H2 e2 m2 a => hr G2 H2 F vs (e.trans e2) m2 a Q fun v G3 M3 H3 e3 m3 r3 => q v G3 M3 H3 (e2.trans e3) m3 r3
end
end SX
set_option Elab.async false
set_option linter.all false
set_option maxRecDepth 100000
namespace SX
open PySem PySem.Spec L2
/-- what is wanted: behind the statement, of a return, a break, a continue, an error -/
structure Po where
  nx : Hp → L2.St → Mem → Prop
  rt : Post
  bk : Hp → L2.St → Mem → Prop := fun _ _ _ => False
  ct : Hp → L2.St → Mem → Prop := fun _ _ _ => False
  ex : Value → Option Addr → Hp → Mem → Prop := fun _ _ _ _ => False
structure Has (E : XK) (D : Ends) (P : Po) (G1 : Hp) (F : Mem) : Prop where
  nx : ∀ σ2 G2 M2 H2, Ex G1 G2 → Me G2 (M2 ++ F) H2 → P.nx G2 σ2 M2 → D.nx σ2 H2
  rt : ∀ v G2 M2 H2, Ex G1 G2 → Me G2 (M2 ++ F) H2 → P.rt G2 v M2 → D.rt v H2
  bk : ∀ σ2 G2 M2 H2, Ex G1 G2 → Me G2 (M2 ++ F) H2 → P.bk G2 σ2 M2 → D.bk σ2 H2
  ct : ∀ σ2 G2 M2 H2, Ex G1 G2 → Me G2 (M2 ++ F) H2 → P.ct G2 σ2 M2 → D.ct σ2 H2
  ex : ∀ cls d G2 M2 H2, Ex G1 G2 → Me G2 (M2 ++ F) H2 → P.ex cls d G2 M2 → E cls d H2
def Sv (E : XK) (t : TS) (σ : L2.St) (G : Hp) (M : Mem) (P : Po) : Prop := ∀ G1 H F (D : Ends), Ex G G1 → Me G1 (M ++ F) H → Has E D P G1 F → t D σ H
theorem Has.up {E : XK} {D : Ends} {P : Po} {G1 G2 : Hp} {F : Mem} (h : Has E D P G1 F) (e : Ex G1 G2) : Has E D P G2 F :=
  ⟨fun a b c d e1 => h.nx a b c d (e.trans e1), fun a b c d e1 => h.rt a b c d (e.trans e1), fun a b c d e1 => h.bk a b c d (e.trans e1), fun a b c d e1 => h.ct a b c d (e.trans e1), fun a b c d f e1 => h.ex a b c d f (e.trans e1)⟩
section
variable {E : XK} {K : PySem.W.Frag} {σ : L2.St} {G G' H : Hp} {M M1 M2 M3 F : Mem} {R : Post} {P P' : Po} {te ta : TE} {tt : TT} {t u : TS} {x y z : V} {d : PyData} {a b : Bool} {i : Nat}
theorem Sv.mono (h : Sv E t σ G M P) (e : Ex G G') : Sv E t σ G' M P := fun G1 H F D e1 m hd => h G1 H F D (e.trans e1) m hd
theorem sv_set (h : Ev te σ G M R) (k : ∀ v G' M', Ex G G' → R G' v M' → P.nx G' (σ.set i (some v)) M') : Sv E (tAsg te (gName i)) σ G M P := fun G1 H F D e m hd =>
  h G1 H F e m _ fun v G2 M2 H2 e2 m2 r => hd.nx _ G2 M2 H2 e2 m2 (k v G2 M2 (e.trans e2) r)
theorem sv_drop (h : Ev te σ G M R) (k : ∀ v G' M', Ex G G' → R G' v M' → P.nx G' σ M') : Sv E (tDrop te) σ G M P := fun G1 H F D e m hd =>
  h G1 H F e m _ fun v G2 M2 H2 e2 m2 r => hd.nx _ G2 M2 H2 e2 m2 (k v G2 M2 (e.trans e2) r)
theorem sv_ret (h : Ev te σ G M R) (k : ∀ v G' M', Ex G G' → R G' v M' → P.rt G' v M') : Sv E (tRet te) σ G M P := fun G1 H F D e m hd =>
  h G1 H F e m _ fun v G2 M2 H2 e2 m2 r => hd.rt _ G2 M2 H2 e2 m2 (k v G2 M2 (e.trans e2) r)
theorem sv_next (k : ∀ G', Ex G G' → P.nx G' σ M) : Sv E tNext σ G M P := fun G1 H F D e m hd => hd.nx σ G1 M H (Ex.refl _) m (k G1 e)
theorem sv_seq (h : Sv E t σ G M { P with nx := N }) (k : ∀ G' σ' M', Ex G G' → N G' σ' M' → Sv E u σ' G' M' P) : Sv E (tSeq t u) σ G M P := fun G1 H F D e m hd =>
  h G1 H F _ e m ⟨fun σ2 G2 M2 H2 e2 m2 n => k G2 σ2 M2 (e.trans e2) n G2 H2 F D (Ex.refl _) m2 (hd.up e2), hd.rt, hd.bk, hd.ct, hd.ex⟩
/-- x = e, then the rest -/
theorem sv_let (h : Ev te σ G M R) (k : ∀ v G' M', Ex G G' → R G' v M' → Sv E u (σ.set i (some v)) G' M' P) : Sv E (tSeq (tAsg te (gName i)) u) σ G M P := fun G1 H F D e m hd =>
  h G1 H F e m _ fun v G2 M2 H2 e2 m2 r => k v G2 M2 (e.trans e2) r G2 H2 F D (Ex.refl _) m2 (hd.up e2)
theorem sv_if (h : EvT tt σ G M a M1) (k1 : ∀ G', Ex G G' → a = true → Sv E t σ G' M1 P) (k2 : ∀ G', Ex G G' → a = false → Sv E u σ G' M1 P) : Sv E (tIfS tt t u) σ G M P := fun G1 H F D e m hd =>
  h G1 H F e m _ fun G2 H2 e2 m2 => by
    cases a with
    | true =>
      show (if true = true then _ else _)
      rw [if_pos rfl]
      exact k1 G2 (e.trans e2) rfl G2 H2 F D (Ex.refl _) m2 (hd.up e2)
    | false =>
      show (if false = true then _ else _)
      rw [if_neg Bool.false_ne_true]
      exact k2 G2 (e.trans e2) rfl G2 H2 F D (Ex.refl _) m2 (hd.up e2)
/-- if .. : leaves or not; then the rest -/
theorem sv_ifs {t' : TS} (h : EvT tt σ G M a M1) (k1 : ∀ G', Ex G G' → a = true → Sv E t σ G' M1 { P with nx := fun G2 σ2 M2 => Sv E u σ2 G2 M2 P }) (k2 : ∀ G', Ex G G' → a = false → Sv E t' σ G' M1 { P with nx := fun G2 σ2 M2 => Sv E u σ2 G2 M2 P }) :
    Sv E (tSeq (tIfS tt t t') u) σ G M P := sv_seq (sv_if h k1 k2) fun _ _ _ _ n => n
def tRaise (E : XK) (cls : Value) : TS := fun _ _ H => E cls none H
theorem sv_raise {cls : Value} (k : ∀ G', Ex G G' → P.ex cls none G' M) : Sv E (tRaise E cls) σ G M P := fun G1 H F D e m hd => hd.ex cls none G1 M H (Ex.refl _) m (k G1 e)
theorem Sv.imp (h : Sv E t σ G M P) (nx : ∀ G2 σ2 M2, Ex G G2 → P.nx G2 σ2 M2 → P'.nx G2 σ2 M2) (rt : ∀ G2 v M2, Ex G G2 → P.rt G2 v M2 → P'.rt G2 v M2) (bk : ∀ G2 σ2 M2, Ex G G2 → P.bk G2 σ2 M2 → P'.bk G2 σ2 M2) (ct : ∀ G2 σ2 M2, Ex G G2 → P.ct G2 σ2 M2 → P'.ct G2 σ2 M2)
    (ex : ∀ c d G2 M2, Ex G G2 → P.ex c d G2 M2 → P'.ex c d G2 M2) : Sv E t σ G M P' := fun G1 H F D e m hd => h G1 H F D e m ⟨fun _ _ _ _ e2 m2 n => hd.nx _ _ _ _ e2 m2 (nx _ _ _ (e.trans e2) n), fun _ _ _ _ e2 m2 n => hd.rt _ _ _ _ e2 m2 (rt _ _ _ (e.trans e2) n),
      fun _ _ _ _ e2 m2 n => hd.bk _ _ _ _ e2 m2 (bk _ _ _ (e.trans e2) n), fun _ _ _ _ e2 m2 n => hd.ct _ _ _ _ e2 m2 (ct _ _ _ (e.trans e2) n), fun _ _ _ _ _ e2 m2 n => hd.ex _ _ _ _ _ e2 m2 (ex _ _ _ _ (e.trans e2) n)⟩
/-- l[i] = e of an owned list -/
theorem sv_setIx {tx ti : TE} {l : Addr} {xs : List V} {k : Int} {j n : Nat} (h : Ev te σ G M (isV x M1)) (h1 : Ev tx σ G M1 (isV (.ref l) M1)) (h2 : Ev ti σ G M1 (isV (.int k) M1)) (hl : M1[n]? = some (l, .lst xs)) (hj : ixN xs.length k = some j)
    (q : ∀ G', Ex G G' → P.nx G' σ (M1.set n (l, .lst (xs.set j x)))) : Sv E (tAsg te (gSub tx ti rSetL)) σ G M P := fun G1 H F D e m hd =>
  h G1 H F e m _ fun v G2 M2' H2 e2 m2 r2 => by
    obtain ⟨rfl, rfl⟩ := r2
    refine h1 G2 H2 F (e.trans e2) m2 _ fun v3 G3 M3' H3 e3 m3 r3 => ?_
    obtain ⟨rfl, rfl⟩ := r3
    refine h2 G3 H3 F ((e.trans e2).trans e3) m3 _ fun v4 G4 M4' H4 e4 m4 r4 => ?_
    obtain ⟨rfl, rfl⟩ := r4
    exact ⟨l, xs, k, j, rfl, rfl, m4.getF hl, hj, hd.nx _ _ _ _ ((e2.trans e3).trans e4) (m4.putF hl) (q G4 (((e.trans e2).trans e3).trans e4))⟩
/-- the same where the value is data -/
theorem sv_setIxP {Pp : Hp → V → Prop} [Mono Pp] {tx ti : TE} {l : Addr} {xs : List V} {k : Int} {j n : Nat} (h : Ev te σ G M (isP Pp M1)) (h1 : Ev tx σ G M1 (isV (.ref l) M1)) (h2 : Ev ti σ G M1 (isV (.int k) M1)) (hl : M1[n]? = some (l, .lst xs)) (hj : ixN xs.length k = some j)
    (q : ∀ v G', Ex G G' → Pp G' v → P.nx G' σ (M1.set n (l, .lst (xs.set j v)))) : Sv E (tAsg te (gSub tx ti rSetL)) σ G M P := fun G1 H F D e m hd =>
  h G1 H F e m _ fun v G2 M2' H2 e2 m2 r2 => by
    obtain ⟨pv, rfl⟩ := r2
    refine h1 G2 H2 F (e.trans e2) m2 _ fun v3 G3 M3' H3 e3 m3 r3 => ?_
    obtain ⟨rfl, rfl⟩ := r3
    refine h2 G3 H3 F ((e.trans e2).trans e3) m3 _ fun v4 G4 M4' H4 e4 m4 r4 => ?_
    obtain ⟨rfl, rfl⟩ := r4
    exact ⟨l, xs, k, j, rfl, rfl, m4.getF hl, hj, hd.nx _ _ _ _ ((e2.trans e3).trans e4) (m4.putF hl) (q v G4 (((e.trans e2).trans e3).trans e4) (Mono.mono _ _ _ (e3.trans e4) pv))⟩
def tTgt (g : TG) (x : V) (tb : TS) : TS := fun D σ H => g x σ H fun σ2 H2 => tb D σ2 H2
theorem sv_tgN {tb : TS} (h : Sv E tb (σ.set i (some x)) G M P) : Sv E (tTgt (gName i) x tb) σ G M P := fun G1 H F D e m hd => h G1 H F D e m hd
/-- over a list of data that stands still -/
theorem sv_forD {tl : TE} {g : TG} {tb : TS} {ds : List PyData} (I : Nat → Hp → L2.St → Mem → Prop)
    (hs : Ev tl σ G M (isD K (.list ds) M1)) (h0 : ∀ G', Ex G G' → I 0 G' σ M1)
    (hb : ∀ i d x G' σ' M', Ex G G' → ds[i]? = some d → Dp K G' x d → I i G' σ' M' → Sv E (tTgt g x tb) σ' G' M' { P with nx := I (i + 1), ct := I (i + 1), bk := P.nx })
    (he : ∀ G' σ' M', Ex G G' → I ds.length G' σ' M' → P.nx G' σ' M') : Sv E (tFor (iList K tl) g tb) σ G M P := fun G1 H F D e m hd =>
  hs G1 H F e m _ fun v G2 M2 H2 e2 m2 r2 => by
    obtain ⟨dv, rfl⟩ := r2
    obtain ⟨aa, xs, rfl, hq, ha⟩ := dp_lst dv
    refine ⟨aa, rfl, ⟨xs, ex_l m2.ex hq⟩, for_list (K := K) (a := aa) (xs := xs) (fun i σ' H' => ∃ G' M', Ex G2 G' ∧ Me G' (M' ++ F) H' ∧ I i G' σ' M') ⟨G2, _, Ex.refl _, m2, h0 G2 (e.trans e2)⟩ ?_ ?_ ?_⟩
    · rintro i σ' H' _ ⟨G', M', e', m', ii⟩
      exact ex_l m'.ex (ex_l e' hq)
    · rintro i x σ' H' hx ⟨G', M', e', m', ii⟩
      obtain ⟨d, hd', dx⟩ := dpa_atV ha hx
      refine hb i d x G' σ' M' ((e.trans e2).trans e') hd' (dm dx e') ii G' H' F _ (Ex.refl _) m' ⟨?_, ?_, ?_, ?_, ?_⟩
      · exact fun σ2 G3 M3 H3 e3 m3 n => ⟨G3, M3, e'.trans e3, m3, n⟩
      · exact fun v G3 M3 H3 e3 m3 r => hd.rt v G3 M3 H3 ((e2.trans e').trans e3) m3 r
      · exact fun v G3 M3 H3 e3 m3 r => hd.nx v G3 M3 H3 ((e2.trans e').trans e3) m3 r
      · exact fun σ2 G3 M3 H3 e3 m3 n => ⟨G3, M3, e'.trans e3, m3, n⟩
      · exact fun c v G3 M3 H3 e3 m3 r => hd.ex c v G3 M3 H3 ((e2.trans e').trans e3) m3 r
    · rintro σ' H' ⟨G', M', e', m', ii⟩
      rw [dpa_len ha] at ii
      exact hd.nx σ' G' M' H' (e2.trans e') m' (he G' σ' M' ((e.trans e2).trans e') ii)
/-- range(n) -/
theorem sv_forR {tn : TA} {g : TG} {tb : TS} {n : Int} (I : Nat → Hp → L2.St → Mem → Prop)
    (hs : EvA tn σ G M [fun _ v => v = .int n] M1) (h0 : ∀ G', Ex G G' → I 0 G' σ M1) (hn : -(2 ^ 62) ≤ n ∧ n < 2 ^ 62)
    (hb : ∀ (i : Nat) G' σ' M', Ex G G' → i < n.toNat → I i G' σ' M' → Sv E (tTgt g (.int (0 + (i : Int))) tb) σ' G' M' { P with nx := I (i + 1), ct := I (i + 1), bk := P.nx })
    (he : ∀ G' σ' M', Ex G G' → I n.toNat G' σ' M' → P.nx G' σ' M') : Sv E (tFor (iRng1 tn) g tb) σ G M P := fun G1 H F D e m hd =>
  hs G1 H F e m _ fun vs G2 H2 e2 m2 r2 => by
    match vs, r2 with
    | [v], r2 =>
    obtain ⟨rfl, _⟩ := r2
    refine ⟨n, rfl, hn.1, hn.2, for_range (lo := 0) (n := n.toNat) (fun i σ' H' => ∃ G' M', Ex G2 G' ∧ Me G' (M' ++ F) H' ∧ I i G' σ' M') ⟨G2, _, Ex.refl _, m2, h0 G2 (e.trans e2)⟩ ?_ ?_⟩
    · rintro i σ' H' hi ⟨G', M', e', m', ii⟩
      refine hb i G' σ' M' ((e.trans e2).trans e') hi ii G' H' F _ (Ex.refl _) m' ⟨?_, ?_, ?_, ?_, ?_⟩
      · exact fun σ2 G3 M3 H3 e3 m3 n => ⟨G3, M3, e'.trans e3, m3, n⟩
      · exact fun v G3 M3 H3 e3 m3 r => hd.rt v G3 M3 H3 ((e2.trans e').trans e3) m3 r
      · exact fun v G3 M3 H3 e3 m3 r => hd.nx v G3 M3 H3 ((e2.trans e').trans e3) m3 r
      · exact fun σ2 G3 M3 H3 e3 m3 n => ⟨G3, M3, e'.trans e3, m3, n⟩
      · exact fun c v G3 M3 H3 e3 m3 r => hd.ex c v G3 M3 H3 ((e2.trans e').trans e3) m3 r
    · rintro σ' H' ⟨G', M', e', m', ii⟩
      exact hd.nx σ' G' M' H' (e2.trans e') m' (he G' σ' M' ((e.trans e2).trans e') ii)
/-- a new list that is owned -/
abbrev own (K : PySem.W.Frag) (ds : List PyData) (M : Mem) : Post := fun G v M' => ∃ p vs, v = .ref p ∧ M' = M ++ [(p, .lst vs)] ∧ DpAll K G vs ds
theorem Ev.frz {ds : List PyData} (h : Ev te σ G M (own K ds M1)) : Ev te σ G M (isD K (.list ds) M1) := fun G1 H F e m Q q =>
  h G1 H F e m Q fun v G2 M2 H2 e2 m2 r => by
    obtain ⟨p, vs, rfl, rfl, da⟩ := r
    obtain ⟨m3, e3⟩ := m2.freezeLast
    exact q _ _ M1 H2 (e2.trans e3) m3 ⟨.lst (SqL.of upd_same) (dma da e3), rfl⟩
theorem ev_lstO {t : TA} {ds : List PyData} (h : EvA t σ G M (ds.map fun d => fun G v => Dp K G v d) M1) (hl : ds.length ≤ 1000) : Ev (tLst t) σ G M (own K ds M1) := fun G1 H F e m Q q =>
  h G1 H F e m _ fun vs G2 H2 e2 m2 a => ⟨by rw [dpa_len (allD (K := K) a)]; exact Nat.le_of_lt (small1000 hl), fun p hp => q _ _ _ _ e2 (m2.newMid hp) ⟨p, vs, rfl, rfl, allD a⟩⟩
theorem mem_mid {A F : Mem} {p : Addr × HO} : (A ++ p :: F) = (A ++ [p]) ++ F := by rw [List.append_assoc]; rfl
section comp
variable {own' : List Nat} {k : Nat} {Mi : Nat → Mem} {fd : Nat → PyData} {ds : List PyData} {n : Nat}
/-- one turn of a comprehension -/
theorem lc_turn {b : Bool} {D : Addr} {H' : Hp} {G1 G2 : Hp} {vs : List V} {es : List PyData} (ht : EvT tt (σ.set k (some x)) G2 (Mi i) b (Mi i)) (he : b = true → Ev te (σ.set k (some x)) G2 (Mi i) (isD K (fd i) (Mi (i + 1)))) (hn : b = false → Mi (i + 1) = Mi i)
    (m' : Me G2 (Mi i ++ (D, .lst vs) :: F) H') (e' : Ex G1 G2) (da : DpAll K G2 vs es) (hz : vs.length < sizeLine) {Nx : Hp → Prop}
    (hN : ∀ G3 vs' H3, Ex G1 G3 → Me G3 (Mi (i + 1) ++ (D, .lst vs') :: F) H3 → DpAll K G3 vs' (es ++ if b then [fd i] else []) → Nx H3) :
    tt (σ.set k (some x)) H' fun b H3 => if b = true then te (σ.set k (some x)) H3 fun y H4 => ∃ acc, H4 D = some (.lst acc) ∧ acc.length < sizeLine ∧ Nx (upd H4 D (.lst (acc ++ [y]))) else Nx H3 := by
  refine ht G2 H' _ (Ex.refl _) m' _ fun G3 H3 e3 m3 => ?_
  cases b with
  | true =>
    rw [if_pos rfl]
    refine he rfl G3 H3 _ e3 m3 _ fun y G4 M4 H4 e4 m4 r4 => ?_
    obtain ⟨dy, rfl⟩ := r4
    have hm : ((Mi (i + 1)) ++ (D, HO.lst vs) :: F)[(Mi (i + 1)).length]? = some (D, .lst vs) := by
      rw [List.getElem?_append_right (Nat.le_refl _), Nat.sub_self]
      rfl
    refine ⟨vs, m4.get hm, hz, hN G4 (vs ++ [y]) _ ((e'.trans e3).trans e4) ?_ ?_⟩
    · have := m4.put (o' := .lst (vs ++ [y])) hm
      rw [List.set_append_right _ _ (Nat.le_refl _), Nat.sub_self] at this
      exact this
    · exact dpa_app (dma da (e3.trans e4)) (.cons dy .nil)
  | false =>
    rw [if_neg Bool.false_ne_true]
    refine hN G3 vs H3 (e'.trans e3) (by rw [hn rfl]; exact m3) ?_
    show DpAll K G3 vs (es ++ [])
    rw [List.append_nil]
    exact dma da e3
def kept (n : Nat) (bb : Nat → Bool) (fd : Nat → PyData) : List PyData := (List.range n).flatMap fun i => if bb i then [fd i] else []
theorem kept_succ (n : Nat) (bb : Nat → Bool) (fd : Nat → PyData) : kept (n + 1) bb fd = kept n bb fd ++ if bb n then [fd n] else [] := by
  unfold kept
  rw [List.range_succ, List.flatMap_append]
  simp
theorem kept_len (n : Nat) (bb : Nat → Bool) (fd : Nat → PyData) : (kept n bb fd).length ≤ n := by
  induction n with
  | zero => exact Nat.le_refl _
  | succ n ih =>
    rw [kept_succ, List.length_append]
    split <;> simp <;> omega
theorem kept_all (n : Nat) (fd : Nat → PyData) : kept n (fun _ => true) fd = (List.range n).map fd := by
  induction n with
  | zero => rfl
  | succ n ih => rw [kept_succ, ih, List.range_succ, List.map_append]; rfl
theorem sz_ok {n : Nat} (h : n ≤ 100000) : n < sizeLine := Nat.lt_of_le_of_lt h (by decide)
/-- .. over a tuple -/
theorem ev_lcT {tl : TE} (bb : Nat → Bool) (Mi : Nat → Mem) (fd : Nat → PyData) (hs : Ev tl σ G M (isD K (.tuple ds) (Mi 0))) (hn : ds.length ≤ 100000)
    (ht : ∀ i d x G', ds[i]? = some d → Ex G G' → Dp K G' x d → EvT tt ((wipe σ own').set k (some x)) G' (Mi i) (bb i) (Mi i))
    (he : ∀ i d x G', ds[i]? = some d → Ex G G' → Dp K G' x d → bb i = true → Ev te ((wipe σ own').set k (some x)) G' (Mi i) (isD K (fd i) (Mi (i + 1))))
    (hno : ∀ i, bb i = false → Mi (i + 1) = Mi i) (hw : ∀ x, wipe ((wipe σ own').set k (some x)) own' = wipe σ own') :
    Ev (tLc (iTup K tl) (gName k) tt te own') σ G M (own K (kept ds.length bb fd) (Mi ds.length)) := fun G1 H F e m Q q =>
  hs G1 H F e m _ fun v G2 M2 H2 e2 m2 r2 => by
    obtain ⟨dv, rfl⟩ := r2
    obtain ⟨aa, xs, rfl, hq, ha⟩ := dp_tup dv
    have hln := dpa_len ha
    refine ⟨aa, rfl, ⟨xs, ex_t m2.ex hq⟩, fun D hD => lc_tup (K := K) (a := aa) (xs := xs) (fun i H' => ∃ G' vs, Ex G2 G' ∧ Me G' (Mi i ++ (D, .lst vs) :: F) H' ∧ DpAll K G' vs (kept i bb fd)) ?_ ?_ ?_ ?_⟩
    · exact ⟨G2, [], Ex.refl _, by rw [mem_mid]; exact m2.newMid hD, .nil⟩
    · rintro i H' _ ⟨G', vs, e', m', _⟩
      exact ex_t m'.ex (ex_t e' hq)
    · rintro i x H' hx ⟨G', vs, e', m', da⟩
      obtain ⟨d, hd', dx⟩ := dpa_atV ha hx
      have hi : i < xs.length := (List.getElem?_eq_some_iff.mp hx).1
      refine ⟨hw x, lc_turn (K := K) (fd := fd) (Mi := Mi) (b := bb i) (ht i d x G' hd' ((e.trans e2).trans e') (dm dx e')) (he i d x G' hd' ((e.trans e2).trans e') (dm dx e')) (hno i) m' e' da ?_ ?_⟩
      · rw [dpa_len da]
        have := kept_len i bb fd
        exact sz_ok (by omega)
      · intro G3 vs' H3 e3 m3 d3
        exact ⟨G3, vs', e3, m3, by rw [kept_succ]; exact d3⟩
    · rintro H' ⟨G', vs, e', m', da⟩
      rw [hln] at m' da
      rw [mem_mid] at m'
      exact q _ G' _ H' (e2.trans e') m' ⟨D, vs, rfl, rfl, da⟩
/-- .. over range(n) -/
theorem ev_lcR {tn : TA} {nn : Int} (bb : Nat → Bool) (Mi : Nat → Mem) (fd : Nat → PyData) (hs : EvA tn σ G M [fun _ v => v = .int nn] (Mi 0)) (hn : nn ≤ 100000) (hn0 : -100000 ≤ nn)
    (ht : ∀ (i : Nat) G', i < nn.toNat → Ex G G' → EvT tt ((wipe σ own').set k (some (.int (0 + (i : Int))))) G' (Mi i) (bb i) (Mi i))
    (he : ∀ (i : Nat) G', i < nn.toNat → Ex G G' → bb i = true → Ev te ((wipe σ own').set k (some (.int (0 + (i : Int))))) G' (Mi i) (isD K (fd i) (Mi (i + 1))))
    (hno : ∀ i, bb i = false → Mi (i + 1) = Mi i) (hw : ∀ x, wipe ((wipe σ own').set k (some x)) own' = wipe σ own') :
    Ev (tLc (iRng1 tn) (gName k) tt te own') σ G M (own K (kept nn.toNat bb fd) (Mi nn.toNat)) := fun G1 H F e m Q q =>
  hs G1 H F e m _ fun vs0 G2 H2 e2 m2 r2 => by
    match vs0, r2 with
    | [v], r2 =>
    obtain ⟨rfl, _⟩ := r2
    refine ⟨nn, rfl, by omega, by omega, fun D hD => lc_range (lo := 0) (n := nn.toNat) (fun i H' => ∃ G' vs, Ex G2 G' ∧ Me G' (Mi i ++ (D, .lst vs) :: F) H' ∧ DpAll K G' vs (kept i bb fd)) ?_ ?_ ?_⟩
    · exact ⟨G2, [], Ex.refl _, by rw [mem_mid]; exact m2.newMid hD, .nil⟩
    · rintro i H' hi ⟨G', vs, e', m', da⟩
      refine ⟨hw _, lc_turn (K := K) (fd := fd) (Mi := Mi) (b := bb i) (ht i G' hi ((e.trans e2).trans e')) (he i G' hi ((e.trans e2).trans e')) (hno i) m' e' da ?_ ?_⟩
      · rw [dpa_len da]
        have := kept_len i bb fd
        exact sz_ok (by omega)
      · intro G3 vs' H3 e3 m3 d3
        exact ⟨G3, vs', e3, m3, by rw [kept_succ]; exact d3⟩
    · rintro H' ⟨G', vs, e', m', da⟩
      rw [mem_mid] at m'
      exact q _ G' _ H' (e2.trans e') m' ⟨D, vs, rfl, rfl, da⟩
end comp
end
end SX
set_option Elab.async false
set_option linter.all false
set_option maxRecDepth 100000
namespace SX
open PySem PySem.Spec L2
section
variable {P : Program} {w : World} {K : PySem.W.Frag} {mg : Str → Option Value} {base : Heap}
/-- a def that raises nothing -/
theorem fn_sv {α : Type} {pre : α → Hp → Mem → List V → Prop} {post : α → Mem → Post} {x qual : Str} {st : Stmt} {f : Addr} {fd : FuncData} {N ps : List Str} {k : Nat} (F : Fun K x qual st f fd) (S : FnScope N ps (defScope st))
    (len : ∀ x G M vs, pre x G M vs → vs.length = ps.length)
    (body : ∀ (cdv : Value) (A : Around) (outer : List Env) (s : Shared) (H : Hp) (E : XK), Room k (A.deeper (PyProof.Rows.envOfC qual (defScope st) s.heap.objs.size f cdv)) →
      ∃ t, PSs (cxOf CX0 P w K mg base N qual (defScope st) f cdv A outer s H E).nox (defBody st) t ∧ ∀ x G M vs, pre x G M vs → Sv E t (start N vs) G M { nx := fun G' _ M' => post x M G' .non M', rt := post x M }) :
    FnOk P w K mg base CX0 (k + 1) f fd ps (spec pre post) := by
  refine F.ok S (fun vs H Q E h => ?_) (fun cdv A outer s H vs Q E hr h => ?_)
  · obtain ⟨x, G, M, Fr, m, p, q⟩ := h
    exact len x G M vs p
  · obtain ⟨x, G, M, Fr, m, p, q⟩ := h
    obtain ⟨t, ht, hs⟩ := body cdv A outer s H E hr
    refine ⟨t, ht, hs x G M vs p G H Fr _ (Ex.refl _) m ⟨?_, ?_, ?_, ?_, ?_⟩⟩
    · exact fun σ2 G2 M2 H2 e2 m2 n => q _ G2 M2 H2 e2 m2 n
    · exact fun v G2 M2 H2 e2 m2 n => q v G2 M2 H2 e2 m2 n
    · exact fun σ2 G2 M2 H2 e2 m2 n => n.elim
    · exact fun σ2 G2 M2 H2 e2 m2 n => n.elim
    · exact fun c d G2 M2 H2 e2 m2 n => n.elim
/-- a promise with errors -/
def specX {α : Type} (pre : α → Hp → Mem → List V → Prop) (post : α → Mem → Post) (exc : α → Mem → Value → Option Addr → Hp → Mem → Prop) : Sp := fun vs H Q E => ∃ x G M F, Me G (M ++ F) H ∧ pre x G M vs ∧
  (∀ v G' M' H', Ex G G' → Me G' (M' ++ F) H' → post x M G' v M' → Q v H') ∧ (∀ c d G' M' H', Ex G G' → Me G' (M' ++ F) H' → exc x M c d G' M' → E c d H')
theorem fn_svX {α : Type} {pre : α → Hp → Mem → List V → Prop} {post : α → Mem → Post} {exc : α → Mem → Value → Option Addr → Hp → Mem → Prop} {x qual : Str} {st : Stmt} {f : Addr} {fd : FuncData} {N ps : List Str} {k : Nat} (F : Fun K x qual st f fd) (S : FnScope N ps (defScope st))
    (len : ∀ x G M vs, pre x G M vs → vs.length = ps.length)
    (body : ∀ (cdv : Value) (A : Around) (outer : List Env) (s : Shared) (H : Hp) (E : XK), Room k (A.deeper (PyProof.Rows.envOfC qual (defScope st) s.heap.objs.size f cdv)) →
      ∃ t, PSs (cxOf (L2.CX P w) P w K mg base N qual (defScope st) f cdv A outer s H E) (defBody st) t ∧ ∀ x G M vs, pre x G M vs → Sv E t (start N vs) G M { nx := fun G' _ M' => post x M G' .non M', rt := post x M, ex := exc x M }) :
    FnOk P w K mg base (L2.CX P w) (k + 1) f fd ps (specX pre post exc) := by
  refine F.okX S (fun vs H Q E h => ?_) (fun cdv A outer s H vs Q E hr h => ?_)
  · obtain ⟨x, G, M, Fr, m, p, q⟩ := h
    exact len x G M vs p
  · obtain ⟨x, G, M, Fr, m, p, q, qx⟩ := h
    obtain ⟨t, ht, hs⟩ := body cdv A outer s H E hr
    refine ⟨t, ht, hs x G M vs p G H Fr _ (Ex.refl _) m ⟨?_, ?_, ?_, ?_, ?_⟩⟩
    · exact fun σ2 G2 M2 H2 e2 m2 n => q _ G2 M2 H2 e2 m2 n
    · exact fun v G2 M2 H2 e2 m2 n => q v G2 M2 H2 e2 m2 n
    · exact fun σ2 G2 M2 H2 e2 m2 n => n.elim
    · exact fun σ2 G2 M2 H2 e2 m2 n => n.elim
    · exact fun c d G2 M2 H2 e2 m2 n => qx c d G2 M2 H2 e2 m2 n
/-- where the errors cannot come, it is a plain promise -/
theorem FnOk.calm {α : Type} {pre pre' : α → Hp → Mem → List V → Prop} {post : α → Mem → Post} {exc : α → Mem → Value → Option Addr → Hp → Mem → Prop} {CX : CXT} {k : Nat} {f : Addr} {fd : FuncData} {ps : List Str} (F : FnOk P w K mg base CX k f fd ps (specX pre post exc))
    (hp : ∀ x G M vs, pre' x G M vs → pre x G M vs) (hx : ∀ x G M vs c d G' M', pre' x G M vs → ¬ exc x M c d G' M') : FnOk P w K mg base CX k f fd ps (spec pre' post) :=
  F.imp fun vs H Q E h => by
    obtain ⟨x, G, M, Fr, m, p, q⟩ := h
    exact ⟨x, G, M, Fr, m, hp _ _ _ _ p, q, fun c d G' M' H' _ _ z => absurd z (hx x G M vs c d G' M' p)⟩
end
section
variable {X : Cx} {CX : CXT} {k : Nat} {C f : Addr} {fd : FuncData} {ps : List Str} {sp : Sp} {E : XK}
theorem run_in1 {pins : List (Addr × Obj)} {σ : L2.St} {H : Hp} {s : Shared} {Q : VK} {us : List Value} {vs : List V} (F : FnOk X.prog X.w X.K X.mg X.base CX k f fd ps sp) (hr : Room (k + 1) X.A) (hb : Binds X.K fd ps []) (hx : Passes CX X E)
    (I : Inv X pins σ H s) (r : Vals vs us) (h : sp vs H Q E) : wpAny (model X.prog X.w) X.A.in1 (call (.ref f) us) (EP X pins σ Q) X.xe s := by
  have hl : (us ++ []).length = ps.length := by rw [List.append_nil, ← r.length]; exact F.len _ _ _ _ h
  have hb' := hb s us I.kIn hl
  rw [List.append_nil] at hb'
  refine wpAny_call (codeAny_mono (F.run X.A.in1 X.stack s H ⟨us, []⟩ us vs Q E hr.in1 I.env0.in1 hb' r h) fun rr s' hq => ?_)
  cases rr with
  | error e => exact hx pins σ H s e s' I hq
  | ok fl =>
    cases fl with
    | ret u => exact I.after hq
    | next => exact False.elim hq
    | brk => exact False.elim hq
    | cont => exact False.elim hq
theorem run_at {pins : List (Addr × Obj)} {σ : L2.St} {H : Hp} {s : Shared} {Q : VK} {us : List Value} {vs : List V} (F : FnOk X.prog X.w X.K X.mg X.base CX k f fd ps sp) (hr : Room k X.A) (hb : Binds X.K fd ps []) (hx : Passes CX X E)
    (I : Inv X pins σ H s) (r : Vals vs us) (h : sp vs H Q E) : wpAny (model X.prog X.w) X.A (call (.ref f) us) (EP X pins σ Q) X.xe s :=
  run_fn F hr hb .nil hx I r (by rw [List.append_nil]; exact h)
/-- len(o) by the own __len__ -/
def rLenO (C : Addr) (sp : Sp) (E : XK) : List V → Hp → VK → Prop := fun xs H Q => ∃ a dx fs, xs = [.ref a] ∧ H a = some (.ins C dx fs) ∧ sp [.ref a] H (fun v H2 => ∃ n : Int, v = .int n ∧ (0 ≤ n ∧ n < 2 ^ 63) ∧ Q (.int n) H2) E
theorem call_lenO (hm : Meth X.K C "__len__" f) (F : FnOk X.prog X.w X.K X.mg X.base CX k f fd ps sp) (hr : Room (k + 1) X.A) (hb : Binds X.K fd ps []) (hx : Passes CX X E) : CallR X (.builtin "len") (rLenO C sp E) := by
  intro pins s σ H xs us Q I r h
  obtain ⟨a, dx, fs, rfl, ea, q⟩ := h
  obtain ⟨u, rfl, ru⟩ := vals1 r
  cases (show u = Value.ref a from ru)
  obtain ⟨mA, O, _⟩ := ins_get I.hok ea
  obtain ⟨od, J, _⟩ := O.look
  obtain ⟨m, fr⟩ := I.fr
  refine PySem.W.len_K fr I.ok.mod.kin J hm.at_ hm.fn (wpAny_mono (run_in1 F hr hb hx I r q) (fun u s1 h1 => ?_) fun _ _ e => e)
  obtain ⟨v, H2, I2, rv, n, rfl, hn, q2⟩ := h1
  obtain ⟨t, rfl⟩ := rv
  exact ⟨hn, .int n, H2, I2.tok _, ⟨_, rfl⟩, q2⟩
/-- o[i] by the own __getitem__ -/
def rIxO (C : Addr) (sp : Sp) (E : XK) : R2 := fun x y H Q => ∃ a dx fs, x = .ref a ∧ H a = some (.ins C dx fs) ∧ sp [.ref a, y] H Q E
/-- o[i] = e by the own __setitem__ -/
def rSetO (C : Addr) (sp : Sp) (E : XK) : TSet := fun o i v H Q => ∃ a dx fs, o = .ref a ∧ H a = some (.ins C dx fs) ∧ sp [.ref a, i, v] H (fun _ H2 => Q H2) E
theorem set_own (hm : Meth X.K C "__setitem__" f) (hq : PySem.W.noSeq X.K C = true) (F : FnOk X.prog X.w X.K X.mg X.base CX k f fd ps sp) (hr : Room k X.A) (hb : Binds X.K fd ps []) (hx : Passes CX X E) : PSet X (rSetO C sp E) := by
  intro pins s σ H o i v ov iv u Q I ro ri rv h
  obtain ⟨a, dx, fs, rfl, ea, q⟩ := h
  cases (show ov = Value.ref a from ro)
  obtain ⟨mA, O, _⟩ := ins_get I.hok ea
  obtain ⟨od, J, _⟩ := O.look
  obtain ⟨m, fr⟩ := I.fr
  refine PySem.W.ksp_setItem fr I.ok.mod.kin J hq hm.at_ hm.fn (wpAny_mono (run_at F hr hb hx I (.cons (show RelV (.ref a) (.ref a) from rfl) (.cons ri (.cons rv .nil))) q) (fun u s1 h1 => ?_) fun _ _ e => e)
  obtain ⟨v, H2, I2, _, q2⟩ := h1
  exact ⟨H2, I2, q2⟩
/-- neither NotImplemented .. is handed back: every V is fine -/
theorem cmpBack {pins : List (Addr × Obj)} {σ : L2.St} {Q : VK} {u : Value} {s : Shared} (h : EP X pins σ Q u s) : PySem.W.CmpBack (EP X pins σ Q) u s := by
  obtain ⟨v, H2, I2, rv, q2⟩ := h
  cases v with
  | non => cases rv; exact ⟨.non, H2, I2, rfl, q2⟩
  | bl b => cases rv; exact ⟨.bl b, H2, I2, rfl, q2⟩
  | int i => obtain ⟨t, rfl⟩ := rv; exact ⟨.int i, H2, I2, ⟨_, rfl⟩, q2⟩
  | str i => obtain ⟨t, rfl⟩ := rv; exact ⟨.str i, H2, I2, ⟨_, rfl⟩, q2⟩
  | byt i => obtain ⟨t, rfl⟩ := rv; exact ⟨.byt i, H2, I2, ⟨_, rfl⟩, q2⟩
  | flt i => obtain ⟨t, rfl⟩ := rv; exact ⟨.flt i, H2, I2, ⟨_, rfl⟩, q2⟩
  | ref i => cases rv; exact ⟨.ref i, H2, I2, rfl, q2⟩
  | ty i => cases rv; exact ⟨.ty i, H2, I2, rfl, q2⟩
/-- one op other, both instances of C -/
def rBinO (C : Addr) (sp : Sp) (E : XK) : R2 := fun x y H Q => ∃ a dx fs b dy gs, x = .ref a ∧ y = .ref b ∧ H a = some (.ins C dx fs) ∧ H b = some (.ins C dy gs) ∧ sp [.ref a, .ref b] H Q E
theorem op_binO {op : Operator} (hs : PySem.W.findIn X.K (.ref C) (PySem.dunder op.info.2) = some (some (.ref f))) (hfn : PySem.W.isFn X.K (.ref f) = true) (hc : PySem.W.selfFirst X.K C = true) (F : FnOk X.prog X.w X.K X.mg X.base CX k f fd ps sp) (hr : Room k X.A) (hb : Binds X.K fd ps []) (hx : Passes CX X E) : OpR X (binaryOp op) (rBinO C sp E) := by
  intro pins s σ H x y v u Q I rx ry h
  obtain ⟨a, dx, fs, b, dy, gs, rfl, rfl, ea, eb, q⟩ := h
  cases (show v = Value.ref a from rx)
  cases (show u = Value.ref b from ry)
  obtain ⟨mA, O, _⟩ := ins_get I.hok ea
  obtain ⟨od, J, _⟩ := O.look
  obtain ⟨mB, O2, _⟩ := ins_get I.hok eb
  obtain ⟨od2, J2, _⟩ := O2.look
  obtain ⟨m, fr⟩ := I.fr
  exact PySem.W.binop_K fr I.ok.mod.kin J J2.type hc hs hfn (wpAny_mono (run_at F hr hb hx I (.cons (show RelV (.ref a) (.ref a) from rfl) (.cons (show RelV (.ref b) (.ref b) from rfl) .nil)) q) (fun u s1 h1 => cmpBack h1) fun _ _ e => e)
/-- a comparison by the own method; the other one is of the same class -/
def rCmpO (C : Addr) (sp : Sp) (E : XK) : R2 := fun x y H Q => ∃ a dx fs b dy gs, x = .ref a ∧ y = .ref b ∧ H a = some (.ins C dx fs) ∧ H b = some (.ins C dy gs) ∧ sp [.ref a, .ref b] H Q E
theorem op_cmpO {op : CmpOp} (hop : compareOp op = richCompare op) (hs : PySem.W.findIn X.K (.ref C) (cmpInfo op).2.1 = some (some (.ref f))) (hfn : PySem.W.isFn X.K (.ref f) = true) (F : FnOk X.prog X.w X.K X.mg X.base CX k f fd ps sp) (hr : Room k X.A) (hb : Binds X.K fd ps []) (hx : Passes CX X E) : OpR X (compareOp op) (rCmpO C sp E) := by
  intro pins s σ H x y v u Q I rx ry h
  obtain ⟨a, dx, fs, b, dy, gs, rfl, rfl, ea, eb, q⟩ := h
  cases (show v = Value.ref a from rx)
  cases (show u = Value.ref b from ry)
  obtain ⟨mA, O, _⟩ := ins_get I.hok ea
  obtain ⟨od, J, _⟩ := O.look
  obtain ⟨mB, O2, _⟩ := ins_get I.hok eb
  obtain ⟨od2, J2, _⟩ := O2.look
  obtain ⟨m, fr⟩ := I.fr
  rw [hop]
  exact PySem.W.cmp_K (by have := hr.units; omega) fr I.ok.mod.kin J J2.type (by unfold PySem.W.notFirst; simp) hs hfn (wpAny_mono (run_at F hr hb hx I (.cons (show RelV (.ref a) (.ref a) from rfl) (.cons (show RelV (.ref b) (.ref b) from rfl) .nil)) q) (fun u s1 h1 => cmpBack h1) fun _ _ e => e)
/-- sum of a tuple of ints -/
def rSumT (K : PySem.W.Frag) : List V → Hp → VK → Prop := fun vs H Q => ∃ (a : Addr) (ns : List Int), vs = [V.ref a] ∧ SqT K H a (ns.map V.int) ∧ Q (.int ns.sum) H
theorem cr_sumT (hc : X.calm = true) : CallR X (.builtin "sum") (rSumT X.K) := by
  intro pins s σ H vs us Q I r h
  obtain ⟨a, ns, rfl, hs, q⟩ := h
  obtain ⟨its, rv, ⟨o, ho, hcl, n, hd⟩, _⟩ := I.tuple hs
  rw [Vals.ref1 r]
  have hi := rv.ints
  obtain ⟨xs, e⟩ := hi.allInts.items
  have hn : numsOf (intItems xs).toList = ns := by rw [← e]; exact hi.numsOf
  rw [nums_intItems] at hn
  have ht : s.heap.IsTuple a (intItems xs) := by
    rw [← e]
    exact ⟨o, ho, hcl, n, hd⟩
  refine PySem.W.ktm_sumG (I.ok.hd hc) ht fun h' tk t' hk => ⟨.int _, H, I.kept hk, ⟨_, rfl⟩, ?_⟩
  rw [preSum_eq, List.take_of_length_le (by simp), hn]
  exact q
end
section
variable {K : PySem.W.Frag} {σ : L2.St} {G G' H : Hp} {M M1 M2 M3 F : Mem} {R : Post} {ta tb te : TE} {x y : V} {d e : PyData} {ds : List PyData} {a : Bool} {i : Int}
def tyName : PyData → String
  | .none => "NoneType"
  | .bool _ => "bool"
  | .int _ => "int"
  | .str _ => "str"
  | .list _ => "list"
  | .tuple _ => "tuple"
  | .dict _ => "dict"
theorem tyx_of {v : V} (h : Dp K H v d) : TyX K H v (.type (tyName d)) := by
  cases h with
  | non => exact .base .non
  | bl b => exact .base (.bl b)
  | int i => exact .base (.int i)
  | str s => exact .base (.str s)
  | lst hs _ =>
    rcases hs with (hs | ⟨o, hs⟩) | ⟨o, its, n, hk, hc, _⟩
    · exact .base (.lst hs)
    · exact .base (.frz hs)
    · exact .kList hk hc
  | tup hs _ =>
    rcases hs with (hs | ⟨o, hs⟩) | ⟨o, its, n, hk, hc, _⟩
    · exact .base (.tup hs)
    · exact .fTuple hs
    · exact .kTuple hk hc
def isTyS (n T : String) : Bool := n == T || (n == "bool" && T == "int")
def isTy (d : PyData) (T : String) : Bool := isTyS (tyName d) T
/-- isinstance(x, T) of data, T one of these -/
theorem ev_isi {T : String} (hT : T = "int" ∨ T = "bool" ∨ T = "tuple" ∨ T = "list" ∨ T = "str") (h : Ev ta σ G M (isD K d M1)) : Ev (tCB (rIsi K) (tCons ta (tCons (tC (.ty T)) tNil))) σ G M (isV (.bl (isTy d T)) M1) :=
  ev_CB (Ps := [fun G v => Dp K G v d, fun _ v => v = .ty T]) (ea_cons h (ea_cons ev_c ea_nil)) fun G1 H F vs e m p Q q => by
    match vs, p with
    | [v, c], ⟨p1, p2, _⟩ =>
      subst p2
      refine ⟨v, .ty T, .type (tyName d), .type T, isTy d T, rfl, .ty T, tyx_of (dm p1 m.ex), kit_ty ?_, q _ _ _ _ (Ex.refl _) m ⟨rfl, rfl⟩⟩
      unfold isTy
      cases p1 <;> dsimp only [tyName] <;> rcases hT with rfl | rfl | rfl | rfl | rfl <;> decide +kernel
/-- all([..]), any([..]) over bools -/
theorem ev_all {bs : List Bool} (h : Ev ta σ G M (isD K (.list (bs.map .bool)) M1)) : Ev (tCB (rAll K) (tCons ta tNil)) σ G M (isV (.bl (bs.all id)) M1) :=
  ev_CB (Ps := [fun G v => Dp K G v (.list (bs.map .bool))]) (ea_cons h ea_nil) fun G1 H F vs e m p Q q => by
    match vs, p with
    | [v], ⟨p1, _⟩ =>
      obtain ⟨a, xs, rfl, hs, ha⟩ := dp_lst p1
      rw [dpAll_bls ha] at hs
      exact ⟨a, bs, rfl, ex_l m.ex hs, q _ _ _ _ (Ex.refl _) m ⟨rfl, rfl⟩⟩
theorem ev_sumT {ns : List Int} (h : Ev ta σ G M (isD K (.tuple (ns.map .int)) M1)) : Ev (tCB (rSumT K) (tCons ta tNil)) σ G M (isV (.int ns.sum) M1) :=
  ev_CB (Ps := [fun G v => Dp K G v (.tuple (ns.map .int))]) (ea_cons h ea_nil) fun G1 H F vs e m p Q q => by
    match vs, p with
    | [v], ⟨p1, _⟩ =>
      obtain ⟨a, xs, rfl, hs, ha⟩ := dp_tup p1
      rw [dpAll_ints ha] at hs
      exact ⟨a, ns, rfl, ex_t m.ex hs, q _ _ _ _ (Ex.refl _) m ⟨rfl, rfl⟩⟩
def rLenS (K : PySem.W.Frag) : List V → Hp → VK → Prop := fun xs H Q => ∃ p ys, xs = [.ref p] ∧ (SqL K H p ys ∨ SqT K H p ys) ∧ Q (.int ys.length) H
def rListS (K : PySem.W.Frag) : List V → Hp → VK → Prop := fun xs H Q => ∃ p ys, xs = [.ref p] ∧ (SqL K H p ys ∨ SqT K H p ys) ∧ ∀ l, H l = none → Q (.ref l) (upd H l (.lst ys))
def rTupS (K : PySem.W.Frag) : List V → Hp → VK → Prop := fun xs H Q => ∃ p ys, xs = [.ref p] ∧ ((SqL K H p ys ∧ ∀ l, H l = none → Q (.ref l) (upd H l (.tup ys))) ∨ (SqT K H p ys ∧ Q (.ref p) H))
def rInt1 : List V → Hp → VK → Prop := fun xs H Q => (∃ i, xs = [.int i] ∧ Q (.int i) H) ∨ ∃ k, xs = [.bl k] ∧ Q (.int (if k then 1 else 0)) H
theorem c_len {X : Cx} : CallR X (.builtin "len") (rLenS X.K) := call_len_seq
theorem c_list {X : Cx} : CallR X (.type "list") (rListS X.K) := call_list_of
theorem c_tup {X : Cx} : CallR X (.type "tuple") (rTupS X.K) := call_tuple_of
theorem c_int {X : Cx} : CallR X (.type "int") rInt1 := call_int1
theorem ev_lenT (h : Ev ta σ G M (isD K (.tuple ds) M1)) : Ev (tCB (rLenS K) (tCons ta tNil)) σ G M (isV (.int (ds.length : Int)) M1) :=
  ev_CB (Ps := [fun G v => Dp K G v (.tuple ds)]) (ea_cons h ea_nil) fun G1 H F vs e m p Q q => by
    match vs, p with
    | [v], ⟨p1, _⟩ =>
      obtain ⟨a, xs, rfl, hs, ha⟩ := dp_tup p1
      exact ⟨a, xs, rfl, .inr (ex_t m.ex hs), q _ _ _ _ (Ex.refl _) m ⟨by rw [dpa_len ha], rfl⟩⟩
/-- len of a list at an address -/
theorem ev_lenA {p : Addr} {xs : List V} (h : Ev ta σ G M (isV (.ref p) M1)) (hl : AtL K G M1 p xs) : Ev (tCB (rLenS K) (tCons ta tNil)) σ G M (isV (.int (xs.length : Int)) M1) :=
  ev_CB (Ps := [fun _ v => v = .ref p]) (ea_cons h ea_nil) fun G1 H F vs e m p' Q q => by
    match vs, p' with
    | [v], ⟨p1, _⟩ =>
      subst p1
      exact ⟨p, xs, rfl, .inl (hl G1 H F e m), q _ _ _ _ (Ex.refl _) m ⟨rfl, rfl⟩⟩
/-- list(..): a new list, owned -/
theorem ev_listA {p : Addr} {xs : List V} (h : Ev ta σ G M (isV (.ref p) M1)) (hl : AtL K G M1 p xs) (hd : DpAll K G xs ds) : Ev (tCB (rListS K) (tCons ta tNil)) σ G M (own K ds M1) :=
  ev_CB (Ps := [fun _ v => v = .ref p]) (ea_cons h ea_nil) fun G1 H F vs e m p' Q q => by
    match vs, p' with
    | [v], ⟨p1, _⟩ =>
      subst p1
      exact ⟨p, xs, rfl, .inl (hl G1 H F e m), fun l hl => q _ G1 _ _ (Ex.refl _) (m.newMid hl) ⟨l, xs, rfl, rfl, dma hd e⟩⟩
theorem ev_tupD (h : Ev ta σ G M (isD K (.list ds) M1)) : Ev (tCB (rTupS K) (tCons ta tNil)) σ G M (isD K (.tuple ds) M1) :=
  ev_CB (Ps := [fun G v => Dp K G v (.list ds)]) (ea_cons h ea_nil) fun G1 H F vs e m p Q q => by
    match vs, p with
    | [v], ⟨p1, _⟩ =>
      obtain ⟨a, xs, rfl, hs, ha⟩ := dp_lst p1
      refine ⟨a, xs, rfl, .inl ⟨ex_l m.ex hs, fun l hl => ?_⟩⟩
      have g1 := m.free hl
      exact q _ _ _ _ (Ex.new g1) (m.newF hl) ⟨.tup (SqT.of upd_same) (dma ha (Ex.new g1)), rfl⟩
theorem ev_tupT (h : Ev ta σ G M (isD K (.tuple ds) M1)) : Ev (tCB (rTupS K) (tCons ta tNil)) σ G M (isD K (.tuple ds) M1) :=
  ev_CB (Ps := [fun G v => Dp K G v (.tuple ds)]) (ea_cons h ea_nil) fun G1 H F vs e m p Q q => by
    match vs, p with
    | [v], ⟨p1, _⟩ =>
      obtain ⟨a, xs, rfl, hs, ha⟩ := dp_tup p1
      exact ⟨a, xs, rfl, .inr ⟨ex_t m.ex hs, q _ _ _ _ (Ex.refl _) m ⟨p1, rfl⟩⟩⟩
theorem ev_int (h : Ev ta σ G M (isV (.int i) M1)) : Ev (tCB rInt1 (tCons ta tNil)) σ G M (isV (.int i) M1) :=
  ev_CB (Ps := [fun _ v => v = .int i]) (ea_cons h ea_nil) fun G1 H F vs e m p' Q q => by
    match vs, p' with
    | [v], ⟨p1, _⟩ =>
      subst p1
      exact .inl ⟨i, rfl, q _ _ _ _ (Ex.refl _) m ⟨rfl, rfl⟩⟩
/-- slices -/
theorem dpa_drop : ∀ {vs : List V} {ds : List PyData} (n : Nat), DpAll K G vs ds → DpAll K G (vs.drop n) (ds.drop n)
  | _, _, 0, h => h
  | _, [], n + 1, h => by cases h; exact .nil
  | _, d :: ds, n + 1, h => by
    cases h with
    | cons _ h2 => exact dpa_drop n h2
theorem dpa_take : ∀ {vs : List V} {ds : List PyData} (n : Nat), DpAll K G vs ds → DpAll K G (vs.take n) (ds.take n)
  | _, _, 0, h => .nil
  | _, [], n + 1, h => by cases h; exact .nil
  | _, d :: ds, n + 1, h => by
    cases h with
    | cons h1 h2 => exact .cons h1 (dpa_take n h2)
theorem dpa_rev : ∀ {vs : List V} {ds : List PyData}, DpAll K G vs ds → DpAll K G vs.reverse ds.reverse
  | _, [], h => by cases h; exact .nil
  | _, d :: ds, h => by
    cases h with
    | cons h1 h2 =>
      rw [List.reverse_cons, List.reverse_cons]
      exact dpa_app (dpa_rev h2) (.cons h1 .nil)
def cutD (ds : List PyData) (lo hi : Option Int) : List PyData := (ds.drop (HT.sIx ds.length 0 lo)).take (HT.sIx ds.length ds.length hi - HT.sIx ds.length 0 lo)
theorem dpa_cut {vs : List V} (h : DpAll K G vs ds) (lo hi : Option Int) : DpAll K G (cutV vs lo hi) (cutD ds lo hi) := by
  unfold cutV cutD
  rw [dpa_len h]
  exact dpa_take _ (dpa_drop _ h)
def EvO (to : TO) (σ : L2.St) (G : Hp) (M : Mem) (o : Option Int) (M' : Mem) : Prop := ∀ G1 H F, Ex G G1 → Me G1 (M ++ F) H → ∀ Q : Option Int → Hp → Prop, (∀ G2 H2, Ex G1 G2 → Me G2 (M' ++ F) H2 → Q o H2) → to σ H Q
theorem eo_none : EvO tNoPart σ G M none M := fun G1 H F e m Q q => q G1 H (Ex.refl _) m
theorem eo_some (h : Ev ta σ G M (isV (.int i) M1)) : EvO (tPart ta) σ G M (some i) M1 := fun G1 H F e m Q q => h G1 H F e m _ fun v G2 M2 H2 e2 m2 r => by
  obtain ⟨rfl, rfl⟩ := r
  exact ⟨i, rfl, q _ _ e2 m2⟩
theorem ev_slL {tl th : TO} {lo hi : Option Int} (h : Ev te σ G M (isD K (.list ds) M1)) (hl : EvO tl σ G M1 lo M1) (hh : EvO th σ G M1 hi M1) : Ev (tSl (rSlL K) te tl th) σ G M (own K (cutD ds lo hi) M1) := fun G1 H F e m Q q =>
  h G1 H F e m _ fun v G2 M2 H2 e2 m2 r => by
    obtain ⟨dv, rfl⟩ := r
    refine hl G2 H2 F (e.trans e2) m2 _ fun G3 H3 e3 m3 => hh G3 H3 F ((e.trans e2).trans e3) m3 _ fun G4 H4 e4 m4 => ?_
    obtain ⟨a, xs, rfl, hs, ha⟩ := dp_lst (dm dv (e3.trans e4))
    exact ⟨a, xs, rfl, ex_l m4.ex hs, fun p hp => q _ G4 _ _ ((e2.trans e3).trans e4) (m4.newMid hp) ⟨p, _, rfl, rfl, dpa_cut ha lo hi⟩⟩
theorem ev_slLA {tl th : TO} {lo hi : Option Int} {p : Addr} {xs : List V} (h : Ev te σ G M (isV (.ref p) M1)) (hA : AtL K G M1 p xs) (hd : DpAll K G xs ds) (hl : EvO tl σ G M1 lo M1) (hh : EvO th σ G M1 hi M1) : Ev (tSl (rSlL K) te tl th) σ G M (own K (cutD ds lo hi) M1) := fun G1 H F e m Q q =>
  h G1 H F e m _ fun v G2 M2 H2 e2 m2 r => by
    obtain ⟨rfl, rfl⟩ := r
    refine hl G2 H2 F (e.trans e2) m2 _ fun G3 H3 e3 m3 => hh G3 H3 F ((e.trans e2).trans e3) m3 _ fun G4 H4 e4 m4 => ?_
    have e14 := ((e.trans e2).trans e3).trans e4
    exact ⟨p, xs, rfl, hA _ _ _ e14 m4, fun p hp => q _ G4 _ _ ((e2.trans e3).trans e4) (m4.newMid hp) ⟨p, _, rfl, rfl, dpa_cut (dma hd e14) lo hi⟩⟩
theorem ev_revL (h : Ev te σ G M (isD K (.list ds) M1)) : Ev (tRevL K te) σ G M (own K ds.reverse M1) := fun G1 H F e m Q q =>
  h G1 H F e m _ fun v G2 M2 H2 e2 m2 r => by
    obtain ⟨dv, rfl⟩ := r
    obtain ⟨a, xs, rfl, hs, ha⟩ := dp_lst dv
    exact ⟨a, xs, rfl, ex_l m2.ex hs, fun p hp => q _ G2 _ _ e2 (m2.newMid hp) ⟨p, _, rfl, rfl, dpa_rev ha⟩⟩
end
section
variable {X : Cx} {K : PySem.W.Frag}
theorem k_len (hK : X.K = K) : CallR X (.builtin "len") (rLenS K) := hK ▸ c_len
theorem k_list (hK : X.K = K) : CallR X (.type "list") (rListS K) := hK ▸ c_list
theorem k_tup (hK : X.K = K) : CallR X (.type "tuple") (rTupS K) := hK ▸ c_tup
theorem k_isi (hK : X.K = K) : CallR X (.builtin "isinstance") (rIsi K) := hK ▸ call_isi
theorem k_isiT (hK : X.K = K) : CallR X (.builtin "isinstance") (rIsiT K) := hK ▸ call_isiT
theorem k_all (hK : X.K = K) (hc : X.calm = true) : CallR X (.builtin "all") (rAll K) := hK ▸ cr_all hc
theorem k_sum (hK : X.K = K) (hc : X.calm = true) : CallR X (.builtin "sum") (rSum K) := hK ▸ cr_sum hc
theorem k_sumT (hK : X.K = K) (hc : X.calm = true) : CallR X (.builtin "sum") (rSumT K) := hK ▸ cr_sumT hc
theorem k_eqD (hK : X.K = K) (hu : X.A.units + 64 < cLine) : OpR X (compareOp .Eq) (rEqD K) := hK ▸ op_eqD hu
theorem k_neD (hK : X.K = K) (hu : X.A.units + 64 < cLine) : OpR X (compareOp .NotEq) (rNeD K) := hK ▸ op_neD hu
theorem k_ixL (hK : X.K = K) : IxR X (rIxL K) := hK ▸ ix_list
theorem k_ixT (hK : X.K = K) : IxR X (rIxT K) := hK ▸ ix_tup
theorem k_slL (hK : X.K = K) : SlR X (rSlL K) := hK ▸ sl_list
theorem k_fld {e : Expr} {ta : TE} {f : Str} {pos : Pos} (hK : X.K = K) (he : PE X e ta) (hb : attributeBase e f X.env (eval e X.env) = eval e X.env) : PE X (.Attribute e f pos) (tFld K ta f) := hK ▸ pe_fld he hb
end
end SX
set_option Elab.async false
set_option linter.all false
set_option maxRecDepth 100000
namespace SX
open PySem PySem.Spec L2
/-- data as it stands in the heap itself -/
def Da (K : PySem.W.Frag) (G : Hp) (M : Mem) (v : V) (d : PyData) : Prop := ∀ G1 H F, Ex G G1 → Me G1 (M ++ F) H → Dp K H v d
section
variable {E : XK} {K : PySem.W.Frag} {σ : L2.St} {G G' H : Hp} {M M1 M2 M3 F : Mem} {R : Post} {P P' : Po} {te ta tb : TE} {tt : TT} {t u : TS} {x y z v : V} {d e : PyData} {ds : List PyData} {a b : Bool} {i : Nat}
theorem Da.of (h : Dp K G v d) : Da K G M v d := fun _ _ _ e m => dm h (e.trans m.ex)
theorem Da.ex (h : Da K G M v d) (e : Ex G G') : Da K G' M v d := fun G1 H F e1 m => h G1 H F (e.trans e1) m
theorem Da.lst {p : Addr} {xs : List V} (h : AtL K G M p xs) (hd : DpAll K G xs ds) : Da K G M (.ref p) (.list ds) := fun G1 H F e m => .lst (h G1 H F e m) (dma hd (e.trans m.ex))
theorem ev_isiA {T : String} (hT : T = "int" ∨ T = "bool" ∨ T = "tuple" ∨ T = "list" ∨ T = "str") (h : Ev ta σ G M (isV x M1)) (hd : Da K G M1 x d) : Ev (tCB (rIsi K) (tCons ta (tCons (tC (.ty T)) tNil))) σ G M (isV (.bl (isTy d T)) M1) :=
  ev_CB (Ps := [fun _ v => v = x, fun _ v => v = .ty T]) (ea_cons h (ea_cons ev_c ea_nil)) fun G1 H F vs e m p Q q => by
    match vs, p with
    | [v, c], ⟨p1, p2, _⟩ =>
      subst p1 p2
      have p1 := hd G1 H F e m
      refine ⟨v, .ty T, .type (tyName d), .type T, isTy d T, rfl, .ty T, tyx_of p1, kit_ty ?_, q _ _ _ _ (Ex.refl _) m ⟨rfl, rfl⟩⟩
      unfold isTy
      cases p1 <;> dsimp only [tyName] <;> rcases hT with rfl | rfl | rfl | rfl | rfl <;> decide +kernel
/-- a new instance -/
theorem ev_make {α : Type} {pre : α → Hp → Mem → List V → Prop} {post : α → Mem → Post} {tA : TA} {E : XK} {C : Addr} {Ps : List (Hp → V → Prop)} (xx : Addr → Addr → α) (h : EvA tA σ G M Ps M1)
    (hp : ∀ G1 p dx vs, Ex G G1 → AllP G1 Ps vs → pre (xx p dx) G1 (M1 ++ [(p, .ins C dx [])]) (.ref p :: vs))
    (hq : ∀ G1 p dx v M2, Ex G G1 → post (xx p dx) (M1 ++ [(p, .ins C dx [])]) G1 v M2 → v = .non ∧ R G1 (.ref p) M2) : Ev (tMake C (spec pre post) [] E tA) σ G M R := fun G1 H F e m Q q =>
  h G1 H F e m _ fun vs G2 H2 e2 m2 a p dx hpn hdn hne => by
    have hp2 : upd H2 dx (.own p) p = none := by rw [upd_ne hne.symm]; exact hpn
    refine ⟨xx p dx, G2, _, F, (m2.new hdn).newMid hp2, by rw [List.append_nil]; exact hp G2 p dx vs (e.trans e2) a, fun v G3 M3 H3 e3 m3 r => ?_⟩
    obtain ⟨rfl, r3⟩ := hq G3 p dx v M3 ((e.trans e2).trans e3) r
    exact ⟨rfl, q _ G3 M3 H3 (e2.trans e3) m3 r3⟩
/-- o.f = e -/
theorem sv_fld {tv : TE} {f : Str} {p C dx : Addr} {fs : List (Str × V)} {n : Nat} (h : Ev tv σ G M R) (h1 : ∀ G1 v M1, Ex G G1 → R G1 v M1 → Ev ta σ G1 M1 (isV (.ref p) M1) ∧ M1[n]? = some (p, .ins C dx fs)) (hc : Cls K C) (hn : NoAttr K C f) (hl : fs.length < 1000)
    (q : ∀ G1 G2 v M1, Ex G G1 → Ex G1 G2 → R G1 v M1 → P.nx G2 σ (M1.set n (p, .ins C dx (putF f v fs)))) : Sv E (sFld K ta tv f) σ G M P := fun G1 H F D e m hd =>
  h G1 H F e m _ fun v G2 M2 H2 e2 m2 r2 => by
    obtain ⟨ha, hM⟩ := h1 G2 v M2 (e.trans e2) r2
    refine ha G2 H2 F (Ex.refl _) m2 _ fun w G3 M3 H3 e3 m3 r3 => ?_
    obtain ⟨rfl, rfl⟩ := r3
    exact ⟨p, C, dx, fs, rfl, m3.getF hM, hc, hn, hl, hd.nx _ _ _ _ (e2.trans e3) (m3.putF hM) (q G2 G3 v _ (e.trans e2) e3 r2)⟩
end
structure Deck where
  a : Int
  b : Int
  c : Int
def Deck.ho (D : Deck) : HO := .lst [.int D.a, .int D.b, .int D.c]
def stir (c b : Int) : Int := ((((c * 48271 + b * 69621) % 2147483647) * ((c * 48271 + b * 69621) % 2147483647) + b) % 2147483629 * 40692) % 2147483399
/-- what is drawn, the deck then -/
def dv (D : Deck) (n : Int) : Int := if D.a > 0 then D.a % n else (stir D.c (D.b + 1) / 8) % n
def dn (D : Deck) (n : Int) : Deck := if D.a > 0 then ⟨D.a / n, D.b, D.c⟩ else ⟨D.a, D.b + 1, D.c⟩
theorem dv_lo {D : Deck} {n : Int} (h : 0 < n) : 0 ≤ dv D n := by
  unfold dv
  split <;> exact Int.emod_nonneg _ (by omega)
theorem dv_hi {D : Deck} {n : Int} (h : 0 < n) : dv D n < n := by
  unfold dv
  split <;> exact Int.emod_lt_of_pos _ h
abbrev drawPre : (Addr × Nat × Deck × Int) → Hp → Mem → List V → Prop := fun x G M vs => vs = [.ref x.1, .int x.2.2.2] ∧ 0 < x.2.2.2 ∧ x.2.2.2 < 2 ^ 200 ∧ M[x.2.1]? = some (x.1, x.2.2.1.ho)
abbrev drawPost : (Addr × Nat × Deck × Int) → Mem → Post := fun x M => isV (.int (dv x.2.2.1 x.2.2.2)) (M.set x.2.1 (x.1, (dn x.2.2.1 x.2.2.2).ho))
theorem ev_draw {σ : L2.St} {G : Hp} {M : Mem} {tA : TA} {E : XK} {dk : Addr} {D : Deck} {n : Int} {M1 : Mem} (i : Nat) (h : EvA tA σ G M [fun _ v => v = .ref dk, fun _ v => v = .int n] M1) (hi : M1[i]? = some (dk, D.ho)) (h0 : 0 < n) (h1 : n < 2 ^ 200) :
    Ev (tCall (spec drawPre drawPost) [] E tA) σ G M (isV (.int (dv D n)) (M1.set i (dk, (dn D n).ho))) :=
  ev_call (dk, i, D, n) h fun G1 vs e a => by
    match vs, a with
    | [v, w], ⟨p1, p2, _⟩ =>
      subst p1 p2
      exact ⟨rfl, h0, h1, hi⟩
end SX
set_option Elab.async false
set_option linter.all false
set_option maxRecDepth 100000
namespace SX
open PySem PySem.Spec L2
def isInt : PyData → Bool
  | .int _ => true
  | _ => false
def intOf : PyData → Int
  | .int n => n
  | _ => 0
def isWhole (d : PyData) (lo hi : Int) : Bool := isInt d && (decide (lo ≤ intOf d) && decide (intOf d ≤ hi))
theorem isInt_of {d : PyData} (h : isTy d "int" = true) (h2 : isTy d "bool" = false) : d = .int (intOf d) := by
  cases d with
  | int n => rfl
  | bool b =>
    have : isTy (.bool b) "bool" = true := by show isTyS "bool" "bool" = true; decide +kernel
    rw [this] at h2
    cases h2
  | none => exact absurd h (by show ¬ (isTyS "NoneType" "int" = true); decide +kernel)
  | str s => exact absurd h (by show ¬ (isTyS "str" "int" = true); decide +kernel)
  | list s => exact absurd h (by show ¬ (isTyS "list" "int" = true); decide +kernel)
  | tuple s => exact absurd h (by show ¬ (isTyS "tuple" "int" = true); decide +kernel)
  | dict s => exact absurd h (by show ¬ (isTyS "dict" "int" = true); decide +kernel)
theorem isTy_int (n : Int) : isTy (.int n) "int" = true := by show isTyS "int" "int" = true; decide +kernel
theorem isTy_int_b (n : Int) : isTy (.int n) "bool" = false := by show isTyS "int" "bool" = false; decide +kernel
theorem isTy_tup (n : List PyData) : isTy (.tuple n) "tuple" = true := by show isTyS "tuple" "tuple" = true; decide +kernel
theorem isTy_lst (n : List PyData) : isTy (.list n) "list" = true := by show isTyS "list" "list" = true; decide +kernel
theorem isInt_ty (d : PyData) : (isTy d "int" && !isTy d "bool") = isInt d := by
  cases h : (isTy d "int" && !isTy d "bool") with
  | true =>
    simp only [Bool.and_eq_true, Bool.not_eq_true'] at h
    rw [isInt_of h.1 h.2]
    rfl
  | false =>
    cases d with
    | int n =>
      rw [isTy_int, isTy_int_b] at h
      cases h
    | _ => rfl
theorem tup_of {d : PyData} (h : isTy d "tuple" = true) : ∃ ds, d = .tuple ds := by
  cases d with
  | tuple ds => exact ⟨ds, rfl⟩
  | int n => exact absurd h (by show ¬ (isTyS "int" "tuple" = true); decide +kernel)
  | bool b => exact absurd h (by show ¬ (isTyS "bool" "tuple" = true); decide +kernel)
  | none => exact absurd h (by show ¬ (isTyS "NoneType" "tuple" = true); decide +kernel)
  | str s => exact absurd h (by show ¬ (isTyS "str" "tuple" = true); decide +kernel)
  | list s => exact absurd h (by show ¬ (isTyS "list" "tuple" = true); decide +kernel)
  | dict s => exact absurd h (by show ¬ (isTyS "dict" "tuple" = true); decide +kernel)
theorem lst_of {d : PyData} (h : isTy d "list" = true) : ∃ ds, d = .list ds := by
  cases d with
  | list ds => exact ⟨ds, rfl⟩
  | int n => exact absurd h (by show ¬ (isTyS "int" "list" = true); decide +kernel)
  | bool b => exact absurd h (by show ¬ (isTyS "bool" "list" = true); decide +kernel)
  | none => exact absurd h (by show ¬ (isTyS "NoneType" "list" = true); decide +kernel)
  | str s => exact absurd h (by show ¬ (isTyS "str" "list" = true); decide +kernel)
  | tuple s => exact absurd h (by show ¬ (isTyS "tuple" "list" = true); decide +kernel)
  | dict s => exact absurd h (by show ¬ (isTyS "dict" "list" = true); decide +kernel)
abbrev wholePre (K : PySem.W.Frag) : (PyData × Int × Int) → Hp → Mem → List V → Prop := fun x G M vs => ∃ v, vs = [v, .int x.2.1, .int x.2.2] ∧ Dp K G v x.1
abbrev wholePost : (PyData × Int × Int) → Mem → Post := fun x M => isV (.bl (isWhole x.1 x.2.1 x.2.2)) M
/-- one argument, any data; a truth value back -/
abbrev d1Pre (K : PySem.W.Frag) : PyData → Hp → Mem → List V → Prop := fun d G M vs => ∃ v, vs = [v] ∧ Dp K G v d
abbrev b1Post (f : PyData → Bool) : PyData → Mem → Post := fun d M => isV (.bl (f d)) M
theorem ev_whole {K : PySem.W.Frag} {σ : L2.St} {G : Hp} {M M1 : Mem} {tA : TA} {E : XK} {d : PyData} {lo hi : Int} (h : EvA tA σ G M [fun G v => Dp K G v d, fun _ v => v = .int lo, fun _ v => v = .int hi] M1) :
    Ev (tCall (spec (wholePre K) wholePost) [] E tA) σ G M (isV (.bl (isWhole d lo hi)) M1) :=
  ev_call (d, lo, hi) h fun G1 vs e a => by
    match vs, a with
    | [v, w, u], ⟨p1, p2, p3, _⟩ =>
      subst p2 p3
      exact ⟨v, rfl, p1⟩
theorem ev_d1 {K : PySem.W.Frag} {σ : L2.St} {G : Hp} {M M1 : Mem} {ta : TE} {E : XK} {d : PyData} {f : PyData → Bool} (h : Ev ta σ G M (isD K d M1)) :
    Ev (tCall (spec (d1Pre K) (b1Post f)) [] E (tCons ta tNil)) σ G M (isV (.bl (f d)) M1) :=
  ev_call d (ea_cons h ea_nil) fun G1 vs e a => by
    match vs, a with
    | [v], ⟨p1, _⟩ => exact ⟨v, rfl, p1⟩
def horner (base : Int) (figs : List Int) (last : Int) : Int := figs.foldr (fun f v => v * base + f) last
def colD (c : List Int) : PyData := .tuple (c.map .int)
def isCol (base rows : Int) : PyData → Bool
  | .tuple ds => decide ((ds.length : Int) = rows) && ds.all fun d => isWhole d 0 (base - 1)
  | _ => false
def areCols (base rows : Int) : PyData → Bool
  | .list ds => ds.all fun d => isCol base rows d
  | _ => false
def GoodCol (b r : Int) (c : List Int) : Prop := (c.length : Int) = r ∧ ∀ f ∈ c, 0 ≤ f ∧ f < b
theorem isCol_good {b r : Int} {c : List Int} (h : GoodCol b r c) : isCol b r (colD c) = true := by
  unfold isCol colD
  simp only [List.length_map, Bool.and_eq_true, decide_eq_true_eq, List.all_eq_true, List.mem_map]
  refine ⟨h.1, ?_⟩
  rintro d ⟨f, hf, rfl⟩
  have := h.2 f hf
  exact Bool.and_eq_true_iff.mpr ⟨rfl, Bool.and_eq_true_iff.mpr ⟨decide_eq_true this.1, decide_eq_true (show f ≤ b - 1 by omega)⟩⟩
theorem areCols_good {b r : Int} {cs : List (List Int)} (h : ∀ c ∈ cs, GoodCol b r c) : areCols b r (.list (cs.map colD)) = true := by
  unfold areCols
  simp only [List.all_eq_true, List.mem_map]
  rintro d ⟨c, hc, rfl⟩
  exact isCol_good (h c hc)
def valueOf (b : Int) (cs : List (List Int)) : Int := horner b (cs.map List.sum) 0
theorem s_br : ¬ (("_base" : Str) = "_rows") := by decide +kernel
theorem s_bc : ¬ (("_base" : Str) = "_columns") := by decide +kernel
theorem s_rc : ¬ (("_rows" : Str) = "_columns") := by decide +kernel
def shF (b r : V) (l : V) : List (Str × V) := putF "_columns" l (putF "_rows" r (putF "_base" b []))
theorem shF_b {b r l : V} : (shF b r l).lookup ("_base" : Str) = some b := by
  unfold shF
  rw [lookup_putF, if_neg s_bc, lookup_putF, if_neg s_br, lookup_putF, if_pos rfl]
theorem shF_r {b r l : V} : (shF b r l).lookup ("_rows" : Str) = some r := by
  unfold shF
  rw [lookup_putF, if_neg s_rc, lookup_putF, if_pos rfl]
theorem shF_c {b r l : V} : (shF b r l).lookup ("_columns" : Str) = some l := by
  unfold shF
  rw [lookup_putF, if_pos rfl]
theorem shF_no {b r l : V} {m : Str} (h1 : ¬ m = "_base") (h2 : ¬ m = "_rows") (h3 : ¬ m = "_columns") : (shF b r l).lookup m = none := by
  unfold shF
  rw [lookup_putF, if_neg h3, lookup_putF, if_neg h2, lookup_putF, if_neg h1]
  rfl
/-- a sheet at p, whoever owns its list -/
def ShAt (K : PySem.W.Frag) (C : Addr) (G : Hp) (M : Mem) (p : Addr) (b r : Int) (cs : List (List Int)) : Prop :=
  ∃ dx l xs, At G M p (.ins C dx (shF (.int b) (.int r) (.ref l))) ∧ AtL K G M l xs ∧ DpAll K G xs (cs.map colD)
theorem ShAt.ex {K : PySem.W.Frag} {C : Addr} {G G' : Hp} {M : Mem} {p : Addr} {b r : Int} {cs : List (List Int)} (h : ShAt K C G M p b r cs) (e : Ex G G') : ShAt K C G' M p b r cs := by
  obtain ⟨dx, l, xs, h1, h2, h3⟩ := h
  exact ⟨dx, l, xs, h1.ex e, h2.ex e, dma h3 e⟩
/-- a promise of a sheet's reading method -/
abbrev shPre (K : PySem.W.Frag) (C : Addr) : (Addr × Int × Int × List (List Int)) → Hp → Mem → List V → Prop := fun x G M vs => vs = [.ref x.1] ∧ ShAt K C G M x.1 x.2.1 x.2.2.1 x.2.2.2
theorem kept_map {α : Type} (l : List α) (f : α → PyData) : kept (l.map f).length (fun _ => true) (fun i => ((l.map f)[i]?).getD .none) = l.map f := by
  rw [kept_all]
  apply List.ext_getElem?
  intro i
  rw [List.getElem?_map, List.getElem?_map]
  by_cases h : i < l.length
  · rw [List.getElem?_range (by rw [List.length_map]; exact h), List.getElem?_eq_getElem h]
    simp [List.getElem?_map, h]
  · rw [List.getElem?_eq_none (by simp; omega), List.getElem?_eq_none (by omega)]
    rfl
theorem kept_ids (ds : List PyData) : kept ds.length (fun _ => true) (fun i => (ds[i]?).getD .none) = ds := by
  have := kept_map ds id
  simpa using this
theorem kept_ext {n : Nat} {ds : List PyData} {fd : Nat → PyData} (hl : ds.length = n) (h : ∀ i d, ds[i]? = some d → fd i = d) : kept n (fun _ => true) fd = ds := by
  rw [kept_all]
  apply List.ext_getElem?
  intro i
  rw [List.getElem?_map]
  by_cases hi : i < n
  · rw [List.getElem?_range hi]
    have e : ds[i]? = some ds[i] := List.getElem?_eq_getElem (by omega)
    rw [e]
    exact congrArg some (h i _ e)
  · rw [List.getElem?_eq_none (by simp; omega), List.getElem?_eq_none (by omega)]
    rfl
/-- the list of the script -/
def spLaw (K : PySem.W.Frag) : Sp := fun vs H Q _ => ∃ (a : Addr) (ns : List Int), vs = [.ref a] ∧ SqL K H a (ns.map V.int) ∧ ns.length ≤ 63 ∧ ∀ H', Q (.bl true) H'
abbrev lawPre (K : PySem.W.Frag) : List Int → Hp → Mem → List V → Prop := fun ns G M vs => ∃ v, vs = [v] ∧ Dp K G v (.list (ns.map .int)) ∧ ns.length ≤ 63 ∧ M = []
abbrev lawPost : List Int → Mem → Post := fun _ M G v M' => v = .bl true
theorem law_fin {P : Program} {w : World} {K : PySem.W.Frag} {mg : Str → Option Value} {base : Heap} {CX : CXT} {k : Nat} {f : Addr} {fd : FuncData} {ps : List Str} (F : FnOk P w K mg base CX k f fd ps (spec (lawPre K) lawPost)) : FnOk P w K mg base CX k f fd ps (spLaw K) :=
  F.imp fun vs H Q E h => by
    obtain ⟨a, ns, rfl, hs, hl, q⟩ := h
    refine ⟨ns, H, [], [], ⟨Ex.refl H, fun p hp => (by cases hp), List.nodup_nil⟩, ⟨.ref a, rfl, .lst hs (ints_dpAll ns), hl, rfl⟩, fun v G' M' H' _ _ r => ?_⟩
    subst r
    exact q H'
end SX
namespace SX
open PySem PySem.Spec L2
section
variable {K : PySem.W.Frag} {σ : L2.St} {G : Hp} {M M1 : Mem} {tl te : TE} {own' : List Nat} {k : Nat} {ds : List PyData}
theorem et_yes : EvT tYes σ G M true M := fun _ _ _ _ m _ q => q _ _ (Ex.refl _) m
theorem kept_bools {f : PyData → Bool} : kept ds.length (fun _ => true) (fun i => .bool (f ((ds[i]?).getD .none))) = (ds.map f).map .bool := by
  refine kept_ext (by simp) fun i d hd => ?_
  rw [List.map_map, List.getElem?_map] at hd
  cases q : ds[i]? with
  | none => rw [q] at hd; cases hd
  | some z => rw [q] at hd; simpa using hd
theorem all_map_id {f : PyData → Bool} : (ds.map f).all id = ds.all f := by simp [List.all_map, Function.comp_def]
theorem ev_bsT {f : PyData → Bool} (hs : Ev tl σ G M (isD K (.tuple ds) M1)) (hn : ds.length ≤ 100000)
    (he : ∀ (i : Nat) d x G', ds[i]? = some d → Ex G G' → Dp K G' x d → Ev te ((wipe σ own').set k (some x)) G' M1 (isV (.bl (f d)) M1)) (hw : ∀ x, wipe ((wipe σ own').set k (some x)) own' = wipe σ own') :
    Ev (tLc (iTup K tl) (gName k) tYes te own') σ G M (isD K (.list ((ds.map f).map .bool)) M1) := by
  rw [← kept_bools]
  refine Ev.frz (ev_lcT (K := K) (fun _ => true) (fun _ => M1) _ hs hn (fun _ _ _ _ _ _ _ => et_yes) (fun i d x G' hd e dx _ => ?_) (fun _ _ => rfl) hw)
  rw [hd]
  exact ev_bD (he i d x G' hd e dx)
theorem ev_allT {f : PyData → Bool} (hs : Ev tl σ G M (isD K (.tuple ds) M1)) (hn : ds.length ≤ 100000)
    (he : ∀ (i : Nat) d x G', ds[i]? = some d → Ex G G' → Dp K G' x d → Ev te ((wipe σ own').set k (some x)) G' M1 (isV (.bl (f d)) M1)) (hw : ∀ x, wipe ((wipe σ own').set k (some x)) own' = wipe σ own') :
    Ev (tCB (rAll K) (tCons (tLc (iTup K tl) (gName k) tYes te own') tNil)) σ G M (isV (.bl (ds.all f)) M1) := by
  rw [← all_map_id]
  exact ev_all (ev_bsT hs hn he hw)
end
end SX
namespace SX
open PySem PySem.Spec L2
abbrev placePre (K : PySem.W.Frag) : (Int × List Int × Int) → Hp → Mem → List V → Prop := fun x G M vs => ∃ v, vs = [.int x.1, v, .int x.2.2] ∧ Dp K G v (.list (x.2.1.map .int)) ∧ -(2 ^ 64) < x.1 ∧ x.1 < 2 ^ 64
abbrev placePost : (Int × List Int × Int) → Mem → Post := fun x M => isV (.int (horner x.1 x.2.1 x.2.2)) M
def dlen : PyData → Nat
  | .tuple ds => ds.length
  | .list ds => ds.length
  | _ => 0
/-- (base, rows, data): a truth value back; what is long is not let -/
abbrev colPre (K : PySem.W.Frag) : (Int × Int × PyData) → Hp → Mem → List V → Prop := fun x G M vs => ∃ v, vs = [.int x.1, .int x.2.1, v] ∧ Dp K G v x.2.2 ∧ dlen x.2.2 ≤ 100000
abbrev colPost (f : Int → Int → PyData → Bool) : (Int × Int × PyData) → Mem → Post := fun x M => isV (.bl (f x.1 x.2.1 x.2.2)) M
theorem ev_col {K : PySem.W.Frag} {σ : L2.St} {G : Hp} {M M1 : Mem} {tA : TA} {E : XK} {f : Int → Int → PyData → Bool} {d : PyData} {b r : Int} (h : EvA tA σ G M [fun _ v => v = .int b, fun _ v => v = .int r, fun G v => Dp K G v d] M1) (hz : dlen d ≤ 100000) :
    Ev (tCall (spec (colPre K) (colPost f)) [] E tA) σ G M (isV (.bl (f b r d)) M1) :=
  ev_call (b, r, d) h fun G1 vs e a => by
    match vs, a with
    | [v, w, u], ⟨p1, p2, p3, _⟩ =>
      subst p1 p2
      exact ⟨u, rfl, p3, hz⟩
end SX
namespace SX
open PySem PySem.Spec L2
theorem At.more {G : Hp} {M M' : Mem} {a : Addr} {o : HO} (h : At G M a o) : At G (M ++ M') a o := fun G1 H F e m => h G1 H (M' ++ F) e (by rw [List.append_assoc] at m; exact m)
theorem AtL.more {K : PySem.W.Frag} {G : Hp} {M M' : Mem} {a : Addr} {xs : List V} (h : AtL K G M a xs) : AtL K G (M ++ M') a xs := fun G1 H F e m => h G1 H (M' ++ F) e (by rw [List.append_assoc] at m; exact m)
/-- data; a list may be owned, its items stand still -/
def Dt (K : PySem.W.Frag) (G : Hp) (M : Mem) (v : V) (d : PyData) : Prop := Dp K G v d ∨ ∃ a xs ds, v = .ref a ∧ d = .list ds ∧ AtL K G M a xs ∧ DpAll K G xs ds
theorem Dt.ex {K : PySem.W.Frag} {G G' : Hp} {M : Mem} {v : V} {d : PyData} (h : Dt K G M v d) (e : Ex G G') : Dt K G' M v d := by
  rcases h with h | ⟨a, xs, ds, h1, h2, h3, h4⟩
  · exact .inl (dm h e)
  · exact .inr ⟨a, xs, ds, h1, h2, h3.ex e, dma h4 e⟩
theorem Dt.da {K : PySem.W.Frag} {G : Hp} {M : Mem} {v : V} {d : PyData} (h : Dt K G M v d) : Da K G M v d := by
  rcases h with h | ⟨a, xs, ds, rfl, rfl, h3, h4⟩
  · exact .of h
  · exact .lst h3 h4
theorem Dt.lst {K : PySem.W.Frag} {G : Hp} {M : Mem} {v : V} {ds : List PyData} (h : Dt K G M v (.list ds)) : ∃ a xs, v = .ref a ∧ AtL K G M a xs ∧ DpAll K G xs ds := by
  rcases h with h | ⟨a, xs, ds', h1, h2, h3, h4⟩
  · obtain ⟨a, xs, h1, h2, h3⟩ := dp_lst h
    exact ⟨a, xs, h1, .G h2, h3⟩
  · cases h2
    exact ⟨a, xs, h1, h3, h4⟩
abbrev colsPre (K : PySem.W.Frag) : (Int × Int × PyData) → Hp → Mem → List V → Prop := fun x G M vs => ∃ v, vs = [.int x.1, .int x.2.1, v] ∧ Dt K G M v x.2.2 ∧ dlen x.2.2 ≤ 100000 ∧ ∀ ds, x.2.2 = .list ds → ∀ c ∈ ds, dlen c ≤ 100000
theorem ev_cols {K : PySem.W.Frag} {σ : L2.St} {G : Hp} {M M1 : Mem} {tA : TA} {E : XK} {f : Int → Int → PyData → Bool} {d : PyData} {b r : Int} {x : V} (h : EvA tA σ G M [fun _ v => v = .int b, fun _ v => v = .int r, fun _ v => v = x] M1) (hd : Dt K G M1 x d) (hz : dlen d ≤ 100000) (hy : ∀ ds, d = .list ds → ∀ c ∈ ds, dlen c ≤ 100000) :
    Ev (tCall (spec (colsPre K) (colPost f)) [] E tA) σ G M (isV (.bl (f b r d)) M1) :=
  ev_call (b, r, d) h fun G1 vs e a => by
    match vs, a with
    | [v, w, u], ⟨p1, p2, p3, _⟩ =>
      subst p1 p2 p3
      exact ⟨u, rfl, hd.ex e, hz, hy⟩
/-- good arguments of a sheet -/
structure GoodSh (b r : Int) (cs : List (List Int)) : Prop where
  b2 : 2 ≤ b
  b12 : b ≤ 12
  r1 : 1 ≤ r
  r4 : r ≤ 4
  len : cs.length ≤ 10000
  col : ∀ c ∈ cs, GoodCol b r c
theorem dlen_colD (c : List Int) : dlen (colD c) = c.length := by simp [dlen, colD]
theorem GoodSh.clen {b r : Int} {cs : List (List Int)} (h : GoodSh b r cs) {c : List Int} (hc : c ∈ cs) : c.length ≤ 4 := by
  have := (h.col c hc).1
  have := h.r4
  omega
/-- a sheet is made: x = (p, dx, b, r, cs); columns a list of data that may be owned -/
abbrev mkShPre (K : PySem.W.Frag) (C : Addr) : (Addr × Addr × Int × Int × List (List Int)) → Hp → Mem → List V → Prop := fun x G M vs => ∃ a xs M0, vs = [.ref x.1, .int x.2.2.1, .int x.2.2.2.1, .ref a] ∧ M = M0 ++ [(x.1, .ins C x.2.1 [])] ∧ AtL K G M0 a xs ∧ DpAll K G xs (x.2.2.2.2.map colD) ∧ GoodSh x.2.2.1 x.2.2.2.1 x.2.2.2.2
abbrev mkShPost (K : PySem.W.Frag) (C : Addr) : (Addr × Addr × Int × Int × List (List Int)) → Mem → Post := fun x M G v M' => v = .non ∧ ∃ l xs M0, M = M0 ++ [(x.1, .ins C x.2.1 [])] ∧ M' = M0 ++ [(x.1, .ins C x.2.1 (shF (.int x.2.2.1) (.int x.2.2.2.1) (.ref l))), (l, .lst xs)] ∧ DpAll K G xs (x.2.2.2.2.map colD)
end SX
namespace SX
open PySem PySem.Spec L2
theorem ev_place {K : PySem.W.Frag} {σ : L2.St} {G : Hp} {M M1 : Mem} {tA : TA} {E : XK} {figs : List Int} {b last : Int} (h : EvA tA σ G M [fun _ v => v = .int b, fun G v => Dp K G v (.list (figs.map .int)), fun _ v => v = .int last] M1) (hb : -(2 ^ 64) < b ∧ b < 2 ^ 64) :
    Ev (tCall (spec (placePre K) placePost) [] E tA) σ G M (isV (.int (horner b figs last)) M1) :=
  ev_call (b, figs, last) h fun G1 vs e a => by
    match vs, a with
    | [v, w, u], ⟨p1, p2, p3, _⟩ =>
      subst p1 p3
      exact ⟨w, rfl, p2, hb⟩
abbrev shGPre (K : PySem.W.Frag) (C : Addr) : (Addr × Int × Int × List (List Int)) → Hp → Mem → List V → Prop := fun x G M vs => shPre K C x G M vs ∧ x.2.2.2.length ≤ 100000 ∧ (-(2 ^ 64) < x.2.1 ∧ x.2.1 < 2 ^ 64)
abbrev shIxPre (K : PySem.W.Frag) (C : Addr) : ((Addr × Int × Int × List (List Int)) × Int × List Int) → Hp → Mem → List V → Prop := fun x G M vs => vs = [.ref x.1.1, .int x.2.1] ∧ ShAt K C G M x.1.1 x.1.2.1 x.1.2.2.1 x.1.2.2.2 ∧ 0 ≤ x.2.1 ∧ x.1.2.2.2[x.2.1.toNat]? = some x.2.2
/-- [e for x in l] over a list at an address that stands still -/
theorem ev_mapA {K : PySem.W.Frag} {σ : L2.St} {G : Hp} {M M1 : Mem} {tl te : TE} {own' : List Nat} {k : Nat} {p : Addr} {xs : List V} {ds es : List PyData} (fd : Nat → PyData) (hs : Ev tl σ G M (isV (.ref p) M1)) (hA : AtL K G M1 p xs) (hd : DpAll K G xs ds) (hn : ds.length ≤ 100000)
    (he : ∀ (i : Nat) d x G', ds[i]? = some d → Ex G G' → Dp K G' x d → Ev te ((wipe σ own').set k (some x)) G' M1 (isD K (fd i) M1)) (hw : ∀ x, wipe ((wipe σ own').set k (some x)) own' = wipe σ own')
    (hk : kept ds.length (fun _ => true) fd = es) : Ev (tLc (iList K tl) (gName k) tYes te own') σ G M (own K es M1) := fun G1 H F e m Q q =>
  hs G1 H F e m _ fun v G2 M2 H2 e2 m2 r2 => by
    obtain ⟨rfl, rfl⟩ := r2
    have hln := dpa_len hd
    refine ⟨p, rfl, ⟨xs, hA _ _ _ (e.trans e2) m2⟩, fun D hD => lc_list (K := K) (a := p) (xs := xs) (fun i H' => ∃ G' vs, Ex G2 G' ∧ Me G' (M2 ++ (D, .lst vs) :: F) H' ∧ DpAll K G' vs (kept i (fun _ => true) fd)) ?_ ?_ ?_ ?_⟩
    · exact ⟨G2, [], Ex.refl _, by rw [mem_mid]; exact m2.newMid hD, .nil⟩
    · rintro i H' _ ⟨G', vs, e', m', _⟩
      exact hA _ _ _ ((e.trans e2).trans e') m'
    · rintro i x H' hx ⟨G', vs, e', m', da⟩
      obtain ⟨d, hd', dx⟩ := dpa_atV hd hx
      have hi : i < xs.length := (List.getElem?_eq_some_iff.mp hx).1
      refine ⟨hw x, lc_turn (K := K) (fd := fd) (Mi := fun _ => M2) (b := true) et_yes (fun _ => he i d x G' hd' ((e.trans e2).trans e') (dm dx ((e.trans e2).trans e'))) (fun z => by cases z) m' e' da ?_ ?_⟩
      · rw [dpa_len da]
        have := kept_len i (fun _ => true) fd
        exact sz_ok (by omega)
      · intro G3 vs' H3 e3 m3 d3
        exact ⟨G3, vs', e3, m3, by rw [kept_succ]; exact d3⟩
    · rintro H' ⟨G', vs, e', m', da⟩
      rw [hln, hk] at da
      rw [mem_mid] at m'
      exact q _ G' _ H' (e2.trans e') m' ⟨D, vs, rfl, rfl, da⟩
end SX
namespace SX
open PySem PySem.Spec L2
section
variable {K : PySem.W.Frag} {σ : L2.St} {G : Hp} {M M1 : Mem} {tl te : TE} {own' : List Nat} {k : Nat} {ds : List PyData} {p : Addr} {xs : List V}
theorem ev_allA {f : PyData → Bool} (hs : Ev tl σ G M (isV (.ref p) M1)) (hA : AtL K G M1 p xs) (hd : DpAll K G xs ds) (hn : ds.length ≤ 100000)
    (he : ∀ (i : Nat) d x G', ds[i]? = some d → Ex G G' → Dp K G' x d → Ev te ((wipe σ own').set k (some x)) G' M1 (isV (.bl (f d)) M1)) (hw : ∀ x, wipe ((wipe σ own').set k (some x)) own' = wipe σ own') :
    Ev (tCB (rAll K) (tCons (tLc (iList K tl) (gName k) tYes te own') tNil)) σ G M (isV (.bl (ds.all f)) M1) := by
  rw [← all_map_id]
  refine ev_all (Ev.frz (ev_mapA (K := K) (fun i => .bool (f ((ds[i]?).getD .none))) hs hA hd hn (fun i d x G' h e dx => ?_) hw kept_bools))
  rw [h]
  exact ev_bD (he i d x G' h e dx)
/-- a sheet is made: the instance stands still, its list is owned -/
theorem ev_mkSh {tA : TA} {E : XK} {C a : Addr} {b r : Int} {cs : List (List Int)} (h : EvA tA σ G M [fun _ v => v = .int b, fun _ v => v = .int r, fun _ v => v = .ref a] M1) (hA : AtL K G M1 a xs) (hd : DpAll K G xs (cs.map colD)) (g : GoodSh b r cs) :
    Ev (tMake C (spec (mkShPre K C) (mkShPost K C)) [] E tA) σ G M (fun G1 v M' => ∃ p dx l ys, v = .ref p ∧ G1 p = some (.ins C dx (shF (.int b) (.int r) (.ref l))) ∧ M' = M1 ++ [(l, .lst ys)] ∧ DpAll K G1 ys (cs.map colD)) := by
  have h0 := ev_make (E := E) (C := C) (pre := mkShPre K C) (post := mkShPost K C) (R := fun G1 v M' => ∃ p dx l ys, v = .ref p ∧ M' = M1 ++ [(p, .ins C dx (shF (.int b) (.int r) (.ref l))), (l, .lst ys)] ∧ DpAll K G1 ys (cs.map colD)) (fun p dx => (p, dx, b, r, cs)) h
    (fun G1 p dx vs e q => by
      match vs, q with
      | [v1, v2, v3], ⟨p1, p2, p3, _⟩ =>
        subst p1 p2 p3
        exact ⟨a, xs, M1, rfl, rfl, hA.ex e, dma hd e, g⟩)
    (fun G1 p dx v M2 e q => by
      obtain ⟨rfl, l, ys, M0, e0, rfl, dd⟩ := q
      have := List.append_cancel_right e0
      subst this
      exact ⟨rfl, p, dx, l, ys, rfl, rfl, dd⟩)
  intro G1 H F e m Q q
  refine h0 G1 H F e m Q fun v G2 M2 H2 e2 m2 r2 => ?_
  obtain ⟨p, dx, l, ys, rfl, rfl, dd⟩ := r2
  rw [show (M1 ++ [(p, HO.ins C dx (shF (.int b) (.int r) (.ref l))), (l, HO.lst ys)]) ++ F = M1 ++ (p, HO.ins C dx (shF (.int b) (.int r) (.ref l))) :: ((l, HO.lst ys) :: F) by simp] at m2
  obtain ⟨m3, e3⟩ := m2.freezeMid
  refine q _ _ (M1 ++ [(l, .lst ys)]) H2 (e2.trans e3) (by rw [List.append_assoc]; exact m3) ⟨p, dx, l, ys, rfl, upd_same, rfl, dma dd e3⟩
end
end SX
set_option Elab.async false
set_option linter.all false
set_option maxRecDepth 100000
namespace SX
open PySem PySem.Spec L2
open PyData
structure Sh (n : Nat) (d : PyData) : Prop where
  lay : PyData.canLay0 d = true
  dep : PyData.depth d ≤ n
theorem Sh.ok {n : Nat} {d : PyData} (h : Sh n d) (hn : n ≤ 64 := by decide) : SeqAt.shaped d = true := Bool.and_eq_true_iff.mpr ⟨h.lay, decide_eq_true (Nat.le_trans h.dep hn)⟩
theorem sh_int {n : Nat} (i : Int) : Sh n (.int i) := ⟨by simp only [canLay0], by simp only [PyData.depth]; omega⟩
theorem sh_non {n : Nat} : Sh n .none := ⟨by simp only [canLay0], by simp only [PyData.depth]; omega⟩
theorem sh_all {n : Nat} : ∀ {ds : List PyData}, (∀ d ∈ ds, Sh n d) → PyData.canLayAll0 ds = true ∧ PyData.depthAll ds ≤ n
  | [], _ => ⟨by simp only [canLayAll0], by simp only [PyData.depthAll]; omega⟩
  | d :: ds, h => by
    have h1 := h d List.mem_cons_self
    have h2 := sh_all (ds := ds) fun e he => h e (List.mem_cons_of_mem _ he)
    refine ⟨?_, ?_⟩
    · simp only [canLayAll0, h1.lay, h2.1, Bool.and_self]
    · simp only [PyData.depthAll]
      have := h1.dep
      omega
theorem sh_lst {n : Nat} {ds : List PyData} (h : ∀ d ∈ ds, Sh n d) : Sh (n + 1) (.list ds) := by
  obtain ⟨h1, h2⟩ := sh_all h
  exact ⟨by simp only [canLay0]; exact h1, by simp only [PyData.depth]; omega⟩
theorem sh_tup {n : Nat} {ds : List PyData} (h : ∀ d ∈ ds, Sh n d) : Sh (n + 1) (.tuple ds) := by
  obtain ⟨h1, h2⟩ := sh_all h
  exact ⟨by simp only [canLay0]; exact h1, by simp only [PyData.depth]; omega⟩
theorem sh_ints {n : Nat} (ns : List Int) : Sh (n + 1) (.list (ns.map PyData.int)) := sh_lst fun d hd => by
  obtain ⟨i, _, rfl⟩ := List.mem_map.mp hd
  exact sh_int i
theorem sh_col {n : Nat} (c : List Int) : Sh (n + 1) (colD c) := sh_tup fun d hd => by
  obtain ⟨i, _, rfl⟩ := List.mem_map.mp hd
  exact sh_int i
theorem sh_cols {n : Nat} (cs : List (List Int)) : Sh (n + 2) (.list (cs.map colD)) := sh_lst fun d hd => by
  obtain ⟨i, _, rfl⟩ := List.mem_map.mp hd
  exact sh_col i
theorem eqv_ints : ∀ (a b : List Int), PyData.eqvAll (a.map PyData.int) (b.map PyData.int) = decide (a = b)
  | [], [] => by simp [PyData.eqvAll]
  | [], _ :: _ => by simp [PyData.eqvAll]
  | _ :: _, [] => by simp [PyData.eqvAll]
  | x :: a, y :: b => by
    simp only [List.map_cons, PyData.eqvAll, PyData.eqv, eqv_ints a b]
    by_cases h : x = y <;> simp [h]
theorem eqv_lst (a b : List Int) : PyData.eqv (.list (a.map PyData.int)) (.list (b.map PyData.int)) = decide (a = b) := by
  simp only [PyData.eqv, eqv_ints]
theorem eqv_col (a b : List Int) : PyData.eqv (colD a) (colD b) = decide (a = b) := by
  unfold colD
  simp only [PyData.eqv, eqv_ints]
theorem eqv_colsA : ∀ (a b : List (List Int)), PyData.eqvAll (a.map colD) (b.map colD) = decide (a = b)
  | [], [] => by simp [PyData.eqvAll]
  | [], _ :: _ => by simp [PyData.eqvAll]
  | _ :: _, [] => by simp [PyData.eqvAll]
  | x :: a, y :: b => by
    simp only [List.map_cons, PyData.eqvAll, eqv_col, eqv_colsA a b]
    by_cases h : x = y <;> simp [h]
theorem eqv_cols (a b : List (List Int)) : PyData.eqv (.list (a.map colD)) (.list (b.map colD)) = decide (a = b) := by
  simp only [PyData.eqv, eqv_colsA]
def cellsOf (ns : List Int) : List Int := if ns = [] then [0] else ns.take 63
def deckOf (c : Int) : Deck := if 10 ^ 18 ≤ c then ⟨c - 10 ^ 18, 0, 1⟩ else ⟨0, 0, c % 2147483629 + 2⟩
abbrev cellsPre (K : PySem.W.Frag) : List Int → Hp → Mem → List V → Prop := fun ns G M vs => ∃ v, vs = [v] ∧ Dp K G v (.list (ns.map .int)) ∧ ns.length ≤ 63
abbrev cellsPost (K : PySem.W.Frag) : List Int → Mem → Post := fun ns M => isD K (.list ((cellsOf ns).map .int)) M
abbrev deckPre : Int → Hp → Mem → List V → Prop := fun c G M vs => vs = [.int c]
abbrev deckPost : Int → Mem → Post := fun c M G v M' => ∃ dk, v = .ref dk ∧ M' = M ++ [(dk, (deckOf c).ho)]
/-- a new list of ints, owned, every item known -/
theorem ev_lstI {σ : L2.St} {G : Hp} {M M1 : Mem} {t : TA} {xs : List V} (h : EvA t σ G M (xs.map fun x => fun _ v => v = x) M1) (hl : xs.length ≤ 1000) : Ev (tLst t) σ G M (fun G v M' => ∃ p, v = .ref p ∧ M' = M1 ++ [(p, .lst xs)]) := fun G1 H F e m Q q =>
  h G1 H F e m _ fun vs G2 H2 e2 m2 a => by
    have hv : vs = xs := by
      have : ∀ {xs vs : List V}, AllP G2 (xs.map fun x => fun _ v => v = x) vs → vs = xs := by
        intro xs
        induction xs with
        | nil =>
          intro vs a
          cases vs with
          | nil => rfl
          | cons _ _ => exact a.elim
        | cons x xs ih =>
          intro vs a
          cases vs with
          | nil => exact a.elim
          | cons v vs => rw [a.1, ih a.2]
      exact this a
    subst hv
    exact ⟨Nat.le_of_lt (small1000 hl), fun p hp => q _ _ _ _ e2 (m2.newMid hp) ⟨p, rfl, rfl⟩⟩
theorem cutD_take {ds : List PyData} {n : Nat} : cutD ds none (some (n : Int)) = ds.take n := by
  unfold cutD
  rw [HT.sIx_none, show HT.sIx ds.length ds.length (some (n : Int)) = min n ds.length from HT.sIx_nat _ _ _]
  simp
end SX
namespace SX
open PySem PySem.Spec L2
end SX
set_option Elab.async false
set_option linter.all false
set_option maxRecDepth 100000
namespace SX
open PySem PySem.Spec L2
theorem Ev.toDp {K : PySem.W.Frag} {te : TE} {σ : L2.St} {G : Hp} {M M1 : Mem} {x : V} {d : PyData} (h : Ev te σ G M (isV x M1)) (hd : Dp K G x d) : Ev te σ G M (isD K d M1) := h.impP fun G1 v e r => by
  rw [r]
  exact dm hd e
/-- a list of columns, wherever it stands -/
structure ColsAt (K : PySem.W.Frag) (G : Hp) (M : Mem) (a : Addr) (cs : List (List Int)) : Prop where
  ex : ∃ xs, AtL K G M a xs ∧ DpAll K G xs (cs.map colD)
theorem ColsAt.up {K : PySem.W.Frag} {G G' : Hp} {M : Mem} {a : Addr} {cs : List (List Int)} (h : ColsAt K G M a cs) (e : Ex G G') : ColsAt K G' M a cs := by
  obtain ⟨xs, h1, h2⟩ := h.ex
  exact ⟨xs, h1.ex e, dma h2 e⟩
theorem ColsAt.of {K : PySem.W.Frag} {G : Hp} {M : Mem} {a : Addr} {cs : List (List Int)} (h : Dp K G (.ref a) (.list (cs.map colD))) : ColsAt K G M a cs := by
  obtain ⟨b, xs, e, hs, ha⟩ := dp_lst h
  cases e
  exact ⟨xs, .G hs, ha⟩
theorem ColsAt.da {K : PySem.W.Frag} {G : Hp} {M : Mem} {a : Addr} {cs : List (List Int)} (h : ColsAt K G M a cs) : Da K G M (.ref a) (.list (cs.map colD)) := by
  obtain ⟨xs, h1, h2⟩ := h.ex
  exact Da.lst h1 h2
theorem ColsAt.more {K : PySem.W.Frag} {G : Hp} {M M' : Mem} {a : Addr} {cs : List (List Int)} (h : ColsAt K G M a cs) : ColsAt K G (M ++ M') a cs := by
  obtain ⟨xs, h1, h2⟩ := h.ex
  exact ⟨xs, fun G1 H F e m => h1 G1 H (M' ++ F) e (by rw [List.append_assoc] at m; exact m), h2⟩
theorem ShAt.more {K : PySem.W.Frag} {C : Addr} {G : Hp} {M M' : Mem} {p : Addr} {b r : Int} {cs : List (List Int)} (h : ShAt K C G M p b r cs) : ShAt K C G (M ++ M') p b r cs := by
  obtain ⟨dx, l, xs, h1, h2, h3⟩ := h
  exact ⟨dx, l, xs, h1.more, h2.more, h3⟩
abbrev lvPre (K : PySem.W.Frag) : (Int × Addr × List (List Int)) → Hp → Mem → List V → Prop := fun x G M vs => vs = [.int x.1, .ref x.2.1] ∧ ColsAt K G M x.2.1 x.2.2 ∧ (∀ c ∈ x.2.2, -(2 ^ 64) < c.sum ∧ c.sum < 2 ^ 64) ∧ (-(2 ^ 64) < x.1 ∧ x.1 < 2 ^ 64)
abbrev lvPost : (Int × Addr × List (List Int)) → Mem → Post := fun x M => isV (.int (valueOf x.1 x.2.2)) M
theorem sum_lo : ∀ {c : List Int} {b : Int}, (∀ f ∈ c, 0 ≤ f ∧ f < b) → 0 ≤ c.sum ∧ c.sum ≤ c.length * b
  | [], b, _ => by simp
  | f :: c, b, h => by
    have h1 := h f List.mem_cons_self
    have h2 := sum_lo (c := c) fun g hg => h g (List.mem_cons_of_mem _ hg)
    simp only [List.sum_cons, List.length_cons, Int.natCast_add, Int.add_mul]
    omega
theorem GoodSh.sum {b r : Int} {cs : List (List Int)} (h : GoodSh b r cs) : ∀ c ∈ cs, -(2 ^ 64) < c.sum ∧ c.sum < 2 ^ 64 := fun c hc => by
  obtain ⟨h1, h2⟩ := sum_lo (h.col c hc).2
  have h3 := (h.col c hc).1
  have h4 := h.r4
  have h5 := h.b12
  have h6 := h.b2
  have : (c.length : Int) * b ≤ 4 * b := Int.mul_le_mul_of_nonneg_right (by omega) (by omega)
  omega
def drawsD (D : Deck) (b : Int) : Nat → Deck
  | 0 => D
  | n + 1 => dn (drawsD D b n) b
def drawsV (D : Deck) (b : Int) (n : Nat) : List Int := (List.range n).map fun i => dv (drawsD D b i) b
theorem drawsV_len (D : Deck) (b : Int) (n : Nat) : (drawsV D b n).length = n := by simp [drawsV]
theorem drawsV_mem {D : Deck} {b : Int} {n : Nat} (h : 0 < b) : ∀ f ∈ drawsV D b n, 0 ≤ f ∧ f < b := fun f hf => by
  obtain ⟨i, _, rfl⟩ := List.mem_map.mp hf
  exact ⟨dv_lo h, dv_hi h⟩
def colOf (D : Deck) (b r : Int) : List Int := if dv D 5 = 1 then List.replicate r.toNat (b - 1) else if dv D 5 = 0 then List.replicate r.toNat 0 else drawsV (dn D 5) b r.toNat
def colDk (D : Deck) (b r : Int) : Deck := drawsD (dn D 5) b r.toNat
theorem colOf_good {D : Deck} {b r : Int} (hb : 0 < b) (hr : 0 ≤ r) : GoodCol b r (colOf D b r) := by
  unfold colOf GoodCol
  split
  · refine ⟨by rw [List.length_replicate]; omega, fun f hf => ?_⟩
    rw [List.eq_of_mem_replicate hf]
    omega
  · split
    · refine ⟨by rw [List.length_replicate]; omega, fun f hf => ?_⟩
      rw [List.eq_of_mem_replicate hf]
      omega
    · exact ⟨by rw [drawsV_len]; omega, drawsV_mem hb⟩
abbrev lcolPre : (Addr × Nat × Deck × Int × Int) → Hp → Mem → List V → Prop := fun x G M vs => vs = [.ref x.1, .int x.2.2.2.1, .int x.2.2.2.2] ∧ 0 < x.2.2.2.1 ∧ x.2.2.2.1 < 2 ^ 200 ∧ 0 ≤ x.2.2.2.2 ∧ x.2.2.2.2 ≤ 1000 ∧ M[x.2.1]? = some (x.1, x.2.2.1.ho)
abbrev lcolPost (K : PySem.W.Frag) : (Addr × Nat × Deck × Int × Int) → Mem → Post := fun x M => isD K (colD (colOf x.2.2.1 x.2.2.2.1 x.2.2.2.2)) (M.set x.2.1 (x.1, (colDk x.2.2.1 x.2.2.2.1 x.2.2.2.2).ho))
theorem ev_lcol {K : PySem.W.Frag} {σ : L2.St} {G : Hp} {M M1 : Mem} {tA : TA} {E : XK} {dk : Addr} {D : Deck} {b r : Int} (i : Nat) (h : EvA tA σ G M [fun _ v => v = .ref dk, fun _ v => v = .int b, fun _ v => v = .int r] M1) (hi : M1[i]? = some (dk, D.ho)) (b0 : 0 < b) (b1 : b < 2 ^ 200) (r0 : 0 ≤ r) (r1 : r ≤ 1000) :
    Ev (tCall (spec lcolPre (lcolPost K)) [] E tA) σ G M (isD K (colD (colOf D b r)) (M1.set i (dk, (colDk D b r).ho))) :=
  ev_call (dk, i, D, b, r) h fun G1 vs e a => by
    match vs, a with
    | [v, w, u], ⟨p1, p2, p3, _⟩ =>
      subst p1 p2 p3
      exact ⟨rfl, b0, b1, r0, r1, hi⟩
/-- how many columns, the deck then -/
def manyOf (D : Deck) (most : Int) : Int := if dv (dn D 7) 3 = 0 then dv (dn (dn D 7) 3) (most + 1) else dv D 7
def manyDk (D : Deck) (most : Int) : Deck := if dv (dn D 7) 3 = 0 then dn (dn (dn D 7) 3) (most + 1) else dn (dn D 7) 3
def colsDk (D : Deck) (b r : Int) : Nat → Deck
  | 0 => D
  | n + 1 => colDk (colsDk D b r n) b r
def colsV (D : Deck) (b r : Int) (n : Nat) : List (List Int) := (List.range n).map fun i => colOf (colsDk D b r i) b r
def colsOf (D : Deck) (b r most : Int) : List (List Int) := colsV (manyDk D most) b r (manyOf D most).toNat
def colsEnd (D : Deck) (b r most : Int) : Deck := colsDk (manyDk D most) b r (manyOf D most).toNat
theorem manyOf_lo {D : Deck} {most : Int} (h : 0 ≤ most) : 0 ≤ manyOf D most := by
  unfold manyOf
  split
  · exact dv_lo (by omega)
  · exact dv_lo (by omega)
theorem manyOf_hi {D : Deck} {most : Int} (h : 0 ≤ most) : manyOf D most ≤ max 6 most := by
  unfold manyOf
  have h1 : dv (dn (dn D 7) 3) (most + 1) < most + 1 := dv_hi (by omega)
  have h2 : dv D 7 < 7 := dv_hi (by omega)
  split <;> omega
theorem colsOf_len {D : Deck} {b r most : Int} (h : 0 ≤ most) : ((colsOf D b r most).length : Int) ≤ max 6 most := by
  unfold colsOf colsV
  have := manyOf_hi (D := D) h
  have := manyOf_lo (D := D) h
  rw [List.length_map, List.length_range]
  omega
theorem colsOf_good {D : Deck} {b r most : Int} (hb : 0 < b) (hr : 0 ≤ r) : ∀ c ∈ colsOf D b r most, GoodCol b r c := fun c hc => by
  obtain ⟨i, _, rfl⟩ := List.mem_map.mp hc
  exact colOf_good hb hr
abbrev lcolsPre : (Addr × Nat × Deck × Int × Int × Int) → Hp → Mem → List V → Prop := fun x G M vs => vs = [.ref x.1, .int x.2.2.2.1, .int x.2.2.2.2.1, .int x.2.2.2.2.2] ∧ 0 < x.2.2.2.1 ∧ x.2.2.2.1 < 2 ^ 200 ∧ 0 ≤ x.2.2.2.2.1 ∧ x.2.2.2.2.1 ≤ 1000 ∧ 0 ≤ x.2.2.2.2.2 ∧ x.2.2.2.2.2 ≤ 1000 ∧ M[x.2.1]? = some (x.1, x.2.2.1.ho)
abbrev lcolsPost (K : PySem.W.Frag) : (Addr × Nat × Deck × Int × Int × Int) → Mem → Post := fun x M => own K ((colsOf x.2.2.1 x.2.2.2.1 x.2.2.2.2.1 x.2.2.2.2.2).map colD) (M.set x.2.1 (x.1, (colsEnd x.2.2.1 x.2.2.2.1 x.2.2.2.2.1 x.2.2.2.2.2).ho))
end SX
namespace SX
open PySem PySem.Spec L2
end SX
set_option Elab.async false
set_option linter.all false
set_option maxRecDepth 100000
namespace SX
open PySem PySem.Spec L2
section
variable {E : XK} {K : PySem.W.Frag} {σ : L2.St} {G G' H : Hp} {M M1 M2 M3 F : Mem} {R : Post} {P P' : Po} {te ta tb : TE} {t u : TS} {x y z : V} {i : Nat} {Xc : Value → Option Addr → Hp → Mem → Prop}
/-- an expression that raises, surely -/
def EvR (E : XK) (te : TE) (σ : L2.St) (G : Hp) (M : Mem) (Xc : Value → Option Addr → Hp → Mem → Prop) : Prop := ∀ G1 H F, Ex G G1 → Me G1 (M ++ F) H → (∀ c d G2 M2 H2, Ex G1 G2 → Me G2 (M2 ++ F) H2 → Xc c d G2 M2 → E c d H2) → ∀ Q : VK, te σ H Q
end
end SX
set_option Elab.async false
set_option linter.all false
set_option maxRecDepth 100000
namespace SX
open PySem PySem.Spec L2
/-- what makes a sheet -/
def okSh (db dr dc : PyData) : Bool := isWhole db 2 12 && (isWhole dr 1 4 && areCols (intOf db) (intOf dr) dc)
structure MkS where
  p : Addr
  dx : Addr
  vb : V
  vr : V
  vc : V
  db : PyData
  dr : PyData
  dc : PyData
abbrev initPre (K : PySem.W.Frag) (C : Addr) : MkS → Hp → Mem → List V → Prop := fun x G M vs => vs = [.ref x.p, x.vb, x.vr, x.vc] ∧ ∃ M0, M = M0 ++ [(x.p, .ins C x.dx [])] ∧ Dp K G x.vb x.db ∧ Dp K G x.vr x.dr ∧ Dt K G M0 x.vc x.dc ∧ dlen x.dc ≤ 100000 ∧ ∀ ds, x.dc = .list ds → ∀ c ∈ ds, dlen c ≤ 100000
abbrev initPost (K : PySem.W.Frag) (C : Addr) : MkS → Mem → Post := fun x M G v M' => okSh x.db x.dr x.dc = true ∧ v = .non ∧ ∃ l xs M0 ds, M = M0 ++ [(x.p, .ins C x.dx [])] ∧ x.dc = .list ds ∧ M' = M0 ++ [(x.p, .ins C x.dx (shF x.vb x.vr (.ref l))), (l, .lst xs)] ∧ DpAll K G xs ds
abbrev initExc (CE : Addr) : MkS → Mem → Value → Option Addr → Hp → Mem → Prop := fun x M c d _ M' => okSh x.db x.dr x.dc = false ∧ c = .ref CE ∧ d = none ∧ M' = M
theorem okSh_good {b r : Int} {cs : List (List Int)} (g : GoodSh b r cs) : okSh (.int b) (.int r) (.list (cs.map colD)) = true := by
  have hw1 : isWhole (.int b) 2 12 = true := Bool.and_eq_true_iff.mpr ⟨rfl, Bool.and_eq_true_iff.mpr ⟨decide_eq_true g.b2, decide_eq_true g.b12⟩⟩
  have hw2 : isWhole (.int r) 1 4 = true := Bool.and_eq_true_iff.mpr ⟨rfl, Bool.and_eq_true_iff.mpr ⟨decide_eq_true g.r1, decide_eq_true g.r4⟩⟩
  unfold okSh
  rw [hw1, hw2]
  exact areCols_good g.col
theorem whole_int {d : PyData} {lo hi : Int} (h : isWhole d lo hi = true) : ∃ n, d = .int n ∧ lo ≤ n ∧ n ≤ hi := by
  unfold isWhole at h
  simp only [Bool.and_eq_true, decide_eq_true_eq] at h
  cases d with
  | int n => exact ⟨n, rfl, h.2.1, h.2.2⟩
  | _ => cases h.1
theorem isCol_of {b r : Int} {d : PyData} (h : isCol b r d = true) : ∃ c, d = colD c ∧ GoodCol b r c := by
  cases d with
  | tuple ds =>
    simp only [isCol, Bool.and_eq_true, decide_eq_true_eq, List.all_eq_true] at h
    obtain ⟨hl, ha⟩ := h
    refine ⟨ds.map intOf, ?_, by rw [List.length_map]; exact hl, fun f hf => ?_⟩
    · unfold colD
      rw [List.map_map]
      congr 1
      have : ds.map (PyData.int ∘ intOf) = ds.map id := by
        apply List.map_congr_left
        intro d hd
        obtain ⟨n, rfl, _⟩ := whole_int (ha d hd)
        rfl
      rw [this, List.map_id]
    · obtain ⟨d, hd, rfl⟩ := List.mem_map.mp hf
      obtain ⟨n, rfl, h1, h2⟩ := whole_int (ha d hd)
      exact ⟨h1, by show n < b; omega⟩
  | _ => cases h
/-- setting a column: x = (p, (b, r), l, xs, index, data); the list is owned at n -/
structure SetS where
  p : Addr
  dx : Addr
  l : Addr
  n : Nat
  b : Int
  r : Int
  xs : List V
  at_ : Int
  j : Nat
  v : V
  d : PyData
abbrev setPre (K : PySem.W.Frag) (C : Addr) : SetS → Hp → Mem → List V → Prop := fun x G M vs => vs = [.ref x.p, .int x.at_, x.v] ∧ At G M x.p (.ins C x.dx (shF (.int x.b) (.int x.r) (.ref x.l))) ∧ M[x.n]? = some (x.l, .lst x.xs) ∧ ixN x.xs.length x.at_ = some x.j ∧ Dp K G x.v x.d ∧ dlen x.d ≤ 100000
abbrev setPost (K : PySem.W.Frag) : SetS → Mem → Post := fun x M G v M' => isCol x.b x.r x.d = true ∧ v = .non ∧ ∃ y, Dp K G y x.d ∧ M' = M.set x.n (x.l, .lst (x.xs.set x.j y))
abbrev setExc (CE : Addr) : SetS → Mem → Value → Option Addr → Hp → Mem → Prop := fun x M c d _ M' => isCol x.b x.r x.d = false ∧ c = .ref CE ∧ d = none ∧ M' = M
/-- joining: x = ((p, b, r, cs), (q, b', r', cs')) -/
abbrev addPre (K : PySem.W.Frag) (C : Addr) : ((Addr × Int × Int × List (List Int)) × (Addr × Int × Int × List (List Int))) → Hp → Mem → List V → Prop := fun x G M vs => vs = [.ref x.1.1, .ref x.2.1] ∧ ShAt K C G M x.1.1 x.1.2.1 x.1.2.2.1 x.1.2.2.2 ∧ ShAt K C G M x.2.1 x.2.2.1 x.2.2.2.1 x.2.2.2.2 ∧
  GoodSh x.1.2.1 x.1.2.2.1 x.1.2.2.2 ∧ GoodSh x.2.2.1 x.2.2.2.1 x.2.2.2.2 ∧ x.1.2.2.2.length + x.2.2.2.2.length ≤ 10000
abbrev newSh (K : PySem.W.Frag) (C : Addr) (b r : Int) (cs : List (List Int)) (M : Mem) : Post := fun G1 v M' => ∃ p dx l ys, v = .ref p ∧ G1 p = some (.ins C dx (shF (.int b) (.int r) (.ref l))) ∧ M' = M ++ [(l, .lst ys)] ∧ DpAll K G1 ys (cs.map colD)
abbrev addPost (K : PySem.W.Frag) (C : Addr) : ((Addr × Int × Int × List (List Int)) × (Addr × Int × Int × List (List Int))) → Mem → Post := fun x M G v M' => (x.1.2.1 = x.2.2.1 ∧ x.1.2.2.1 = x.2.2.2.1) ∧ newSh K C x.1.2.1 x.1.2.2.1 (x.1.2.2.2 ++ x.2.2.2.2) M G v M'
abbrev addExc (CE : Addr) : ((Addr × Int × Int × List (List Int)) × (Addr × Int × Int × List (List Int))) → Mem → Value → Option Addr → Hp → Mem → Prop := fun x M c d _ M' => ¬ (x.1.2.1 = x.2.2.1 ∧ x.1.2.2.1 = x.2.2.2.1) ∧ c = .ref CE ∧ d = none ∧ M' = M
abbrev cutPre (K : PySem.W.Frag) (C : Addr) : ((Addr × Int × Int × List (List Int)) × Int × Int) → Hp → Mem → List V → Prop := fun x G M vs => vs = [.ref x.1.1, .int x.2.1, .int x.2.2] ∧ ShAt K C G M x.1.1 x.1.2.1 x.1.2.2.1 x.1.2.2.2 ∧ GoodSh x.1.2.1 x.1.2.2.1 x.1.2.2.2 ∧ 0 ≤ x.2.1 ∧ 0 ≤ x.2.2
def cutL (cs : List (List Int)) (lo hi : Int) : List (List Int) := (cs.drop lo.toNat).take (hi.toNat - lo.toNat)
abbrev cutPost (K : PySem.W.Frag) (C : Addr) : ((Addr × Int × Int × List (List Int)) × Int × Int) → Mem → Post := fun x M => newSh K C x.1.2.1 x.1.2.2.1 (cutL x.1.2.2.2 x.2.1 x.2.2) M
theorem cutD_cols {cs : List (List Int)} {lo hi : Int} (h0 : 0 ≤ lo) (h1 : 0 ≤ hi) : cutD (cs.map colD) (some lo) (some hi) = (cutL cs lo hi).map colD := by
  obtain ⟨a, rfl⟩ : ∃ a : Nat, lo = a := ⟨lo.toNat, by omega⟩
  obtain ⟨b, rfl⟩ : ∃ b : Nat, hi = b := ⟨hi.toNat, by omega⟩
  unfold cutD cutL
  rw [HT.sIx_nat, HT.sIx_nat, List.map_take, List.map_drop, List.length_map, Int.toNat_natCast, Int.toNat_natCast]
  by_cases h : a ≤ cs.length
  · rw [Nat.min_eq_left h]
    by_cases h' : b ≤ cs.length
    · rw [Nat.min_eq_left h']
    · rw [Nat.min_eq_right (by omega)]
      rw [List.take_of_length_le (by simp), List.take_of_length_le (by simp; omega)]
  · have e1 : (cs.map colD).drop (min a cs.length) = [] := List.drop_of_length_le (by rw [List.length_map]; omega)
    have e2 : (cs.map colD).drop a = [] := List.drop_of_length_le (by rw [List.length_map]; omega)
    rw [e1, e2, List.take_nil, List.take_nil]
theorem GoodSh.part {b r : Int} {cs ds : List (List Int)} (g : GoodSh b r cs) (h : ∀ c ∈ ds, c ∈ cs) (hl : ds.length ≤ 10000) : GoodSh b r ds := ⟨g.b2, g.b12, g.r1, g.r4, hl, fun c hc => g.col c (h c hc)⟩
theorem GoodSh.cut {b r : Int} {cs : List (List Int)} (g : GoodSh b r cs) (lo hi : Int) : GoodSh b r (cutL cs lo hi) := g.part (fun c hc => List.mem_of_mem_drop (List.mem_of_mem_take hc)) (by
  unfold cutL
  rw [List.length_take, List.length_drop]
  have := g.len
  omega)
end SX
namespace SX
open PySem PySem.Spec L2
abbrev setGPre (K : PySem.W.Frag) (C : Addr) : SetS → Hp → Mem → List V → Prop := fun x G M vs => setPre K C x G M vs ∧ isCol x.b x.r x.d = true
/-- a + b of two lists, wherever they stand -/
def rCatS (K : PySem.W.Frag) : R2 := fun x y H Q => ∃ l b xs zs, x = .ref l ∧ y = .ref b ∧ SqL K H l xs ∧ SqL K H b zs ∧ xs.length + zs.length ≤ sizeLine ∧ ∀ p, H p = none → Q (.ref p) (upd H p (.lst (xs ++ zs)))
theorem op_catS {X : Cx} : OpR X (binaryOp .Add) (rCatS X.K) := by
  intro pins s σ H x y v u Q I rx ry h
  obtain ⟨l, b, xs, zs, rfl, rfl, hl, hb, hz, q⟩ := h
  cases (show v = Value.ref l from rx)
  cases (show u = Value.ref b from ry)
  obtain ⟨its, r, ⟨o, n, eo, oc, od, oda⟩, z1⟩ := I.list hl
  obtain ⟨its2, r2, ⟨o2, n2, eo2, oc2, od2, oda2⟩, z2⟩ := I.list hb
  obtain ⟨c1, d1, dt1, s1⟩ := o
  obtain ⟨c2, d2, dt2, s2⟩ := o2
  dsimp only at oc od oda oc2 od2 oda2
  subst oc od oda oc2 od2 oda2
  have sz : its.toArray.size + its2.toArray.size ≤ sizeLine := by rw [List.size_toArray, List.size_toArray, ← r.length, ← r2.length]; exact hz
  refine PySem.concat_meets ⟨_, eo, rfl⟩ ⟨_, eo2, rfl⟩ PySem.noFill_list_add PySem.seq_list_add PySem.F.slot_list_add PySem.F.entry_list_add (PySem.F.args_list_add_2 _ _) (PyProof.Rows.list_addW l b its.toArray its2.toArray n n2 none none s1 s2 sz) ⟨eo, eo2, ?_⟩
  have ea : its.toArray ++ its2.toArray = (its ++ its2).toArray := by simp
  rw [ea]
  exact ⟨.ref _, _, I.lnew (t' := s.toks) (r.append r2) (by rw [List.length_append]; exact hz), rfl, q _ I.fresh⟩
theorem k_cat {X : Cx} {K : PySem.W.Frag} (hK : X.K = K) : OpR X (binaryOp .Add) (rCatS K) := hK ▸ op_catS
section
variable {K : PySem.W.Frag} {σ : L2.St} {G : Hp} {M M1 : Mem} {ta tb te : TE} {ds es : List PyData} {p q C : Addr} {xs ys : List V} {E : XK} {b r : Int} {cs : List (List Int)}
theorem ev_catA (h1 : Ev ta σ G M (isV (.ref p) M)) (h2 : Ev tb σ G M (isV (.ref q) M)) (a1 : AtL K G M p xs) (a2 : AtL K G M q ys) (d1 : DpAll K G xs ds) (d2 : DpAll K G ys es) (hl : ds.length + es.length ≤ 100000) :
    Ev (tOp (rCatS K) ta tb) σ G M (own K (ds ++ es) M) :=
  ev_op h1 h2 fun G1 H F x' y' e m p1 p2 Q k => by
    subst p1 p2
    refine ⟨p, q, xs, ys, rfl, rfl, a1 G1 H F e m, a2 G1 H F e m, ?_, fun l hl => k _ G1 _ _ (Ex.refl _) (m.newMid hl) ⟨l, xs ++ ys, rfl, rfl, dpa_app (dma d1 e) (dma d2 e)⟩⟩
    rw [dpa_len d1, dpa_len d2]
    exact Nat.le_of_lt (sz_ok hl)
theorem ev_mkSh3 {tb tr tc : TE} (hb : Ev tb σ G M (isV (.int b) M)) (hr : Ev tr σ G M (isV (.int r) M)) (hc : Ev tc σ G M (isD K (.list (cs.map colD)) M)) (g : GoodSh b r cs) :
    Ev (tMake C (spec (mkShPre K C) (mkShPost K C)) [] E (tCons tb (tCons tr (tCons tc tNil)))) σ G M (newSh K C b r cs M) := fun G1 H F e m Q k => by
  refine hb G1 H F e m _ fun v1 G2 M2 H2 e2 m2 r2 => ?_
  obtain ⟨rfl, rfl⟩ := r2
  refine hr G2 H2 F (e.trans e2) m2 _ fun v3 G3 M3 H3 e3 m3 r3 => ?_
  obtain ⟨rfl, rfl⟩ := r3
  refine hc G3 H3 F ((e.trans e2).trans e3) m3 _ fun v4 G4 M4 H4 e4 m4 r4 => ?_
  obtain ⟨d4, rfl⟩ := r4
  obtain ⟨a, zs, rfl, hz, hd⟩ := dp_lst d4
  exact ev_mkSh (K := K) (σ := [some (.int b), some (.int r), some (.ref a)]) (G := G4) (M := M4) (M1 := M4) (tA := tCons (tVar 0) (tCons (tVar 1) (tCons (tVar 2) tNil))) (E := E) (C := C) (ea_cons (ev_var rfl) (ea_cons (ev_var rfl) (ea_cons (ev_var rfl) ea_nil))) (.G hz) hd g G4 H4 F (Ex.refl _) m4 Q (fun v G5 M5 H5 e5 m5 r5 => k v G5 M5 H5 (((e2.trans e3).trans e4).trans e5) m5 r5)
    |> fun z => by
      obtain ⟨x1, hx1, x2, hx2, x3, hx3, z⟩ := z
      cases hx1
      cases hx2
      cases hx3
      exact z
/-- isinstance(o, C), o an instance of C -/
structure IsCls (K : PySem.W.Frag) (C : Addr) : Prop where
  ha : PySem.W.findIn K (.ref C) "__class__" = some (some (.builtin "object.__class__"))
  hn : PySem.W.specialIn K (.builtin "object.__class__") "__get__" = some (some (.builtin "getset_descriptor.__get__"))
  ht : PySem.W.takesIn K (.builtin "object.__class__") = some true
  hm : PySem.W.mroIn K C (.type "object") = some true
theorem ev_isiO {dx D : Addr} {fs : List (Str × V)} {b : Bool} (ic : IsCls K C) (cl : Cls K C) (hk : PySem.W.kitOne K (.ref C) (.ref D) = some b) (h : Ev ta σ G M (isV (.ref p) M1)) (hp : At G M1 p (.ins C dx fs)) : Ev (tCB (rIsi K) (tCons ta (tCons (tC (.ref D)) tNil))) σ G M (isV (.bl b) M1) :=
  ev_CB (Ps := [fun _ v => v = .ref p, fun _ v => v = .ref D]) (ea_cons h (ea_cons ev_c ea_nil)) fun G1 H F vs e m z Q k => by
    match vs, z with
    | [v, c], ⟨p1, p2, _⟩ =>
      subst p1 p2
      exact ⟨.ref p, .ref D, .ref C, .ref D, b, rfl, .own D, .base (.ins (hp G1 H F e m) cl ic.ha ic.hn ic.ht ic.hm), hk, k _ _ _ _ (Ex.refl _) m ⟨rfl, rfl⟩⟩
end
end SX
set_option Elab.async false
set_option linter.all false
set_option maxRecDepth 100000
namespace SX
open PySem PySem.Spec L2
theorem k_gtup {X : Cx} {K : PySem.W.Frag} {pos : Pos} {es : List Expr} {k : Nat} {t : TGs} {n : Nat} (hK : X.K = K) (hc : X.calm = true) (h : PGs X es t)
    (hn : (assignEach es X.env).length = n := by rfl) (hst : (assignEach es X.env).findIdx? (·.1) = none := by rfl) : PG X (.Tuple es k pos) (gTup K n t) := hK ▸ pg_tup hc h hn hst
section
variable {E : XK} {K : PySem.W.Frag} {σ : L2.St} {G G' H : Hp} {M M1 M2 M3 F : Mem} {R : Post} {P P' : Po} {te ta tb : TE} {tt tu : TT} {t u : TS} {x y z v : V} {d e : PyData} {ds : List PyData} {a b : Bool} {P1 P2 : Hp → V → Prop} {C : Addr} {Ps : List (Hp → V → Prop)}
/-- a sheet that stands still -/
def ShFz (K : PySem.W.Frag) (C : Addr) (b r : Int) (cs : List (List Int)) (G : Hp) (v : V) : Prop := ∃ p dx l xs, v = .ref p ∧ G p = some (.ins C dx (shF (.int b) (.int r) (.ref l))) ∧ SqL K G l xs ∧ DpAll K G xs (cs.map colD)
instance {b r : Int} {cs : List (List Int)} : Mono (ShFz K C b r cs) := ⟨fun G G' v e h => by
  obtain ⟨p, dx, l, xs, h1, h2, h3, h4⟩ := h
  exact ⟨p, dx, l, xs, h1, e _ _ h2, ex_l e h3, dma h4 e⟩⟩
theorem ShFz.at_ {b r : Int} {cs : List (List Int)} (h : ShFz K C b r cs G v) : ∃ p, v = .ref p ∧ ∀ M, ShAt K C G M p b r cs := by
  obtain ⟨p, dx, l, xs, h1, h2, h3, h4⟩ := h
  exact ⟨p, h1, fun M => ⟨dx, l, xs, .G h2, .G h3, h4⟩⟩
abbrev addGPre (K : PySem.W.Frag) (C : Addr) : ((Addr × Int × Int × List (List Int)) × (Addr × Int × Int × List (List Int))) → Hp → Mem → List V → Prop := fun x G M vs => addPre K C x G M vs ∧ x.1.2.1 = x.2.2.1 ∧ x.1.2.2.1 = x.2.2.2.1
/-- the pairs of a sheet and its due columns -/
def OthF (K : PySem.W.Frag) (os : List (Addr × List (List Int))) (G : Hp) (v : V) : Prop := ∃ oa ws, v = .ref oa ∧ ws.length ≤ 1000 ∧ SqL K G oa ws ∧ ∀ (i : Nat) x, ws[i]? = some x → ∃ t q c cs', x = .ref t ∧ SqT K G t [.ref q, c] ∧ Dp K G c (.list (cs'.map colD)) ∧ (q, cs') ∈ os
instance {os : List (Addr × List (List Int))} : Mono (OthF K os) := ⟨fun G G' v e h => by
  obtain ⟨oa, ws, h1, h2, h3, h4⟩ := h
  refine ⟨oa, ws, h1, h2, ex_l e h3, fun i x hx => ?_⟩
  obtain ⟨t, q, c, cs', k1, k2, k3, k4⟩ := h4 i x hx
  exact ⟨t, q, c, cs', k1, ex_t e k2, dm k3 e, k4⟩⟩
end
end SX
namespace SX
open PySem PySem.Spec L2
abbrev powPre : (Int × Nat) → Hp → Mem → List V → Prop := fun x G M vs => vs = [.int x.1, .int (x.2 : Int)] ∧ (-(2 ^ 64) < x.1 ∧ x.1 < 2 ^ 64) ∧ x.2 ≤ 100000
abbrev powPost : (Int × Nat) → Mem → Post := fun x M => isV (.int (x.1 ^ x.2)) M
theorem horner_last (b : Int) : ∀ (l : List Int) (y : Int), horner b l y = horner b l 0 + b ^ l.length * y
  | [], y => by simp [horner]
  | f :: l, y => by
    have ih := horner_last b l y
    unfold horner at ih ⊢
    simp only [List.foldr_cons, List.length_cons]
    rw [ih, Int.add_mul, Int.pow_succ, Int.mul_assoc, Int.mul_comm y b, ← Int.mul_assoc]
    omega
theorem valueOf_app (b : Int) (cs ds : List (List Int)) : valueOf b (cs ++ ds) = valueOf b cs + b ^ cs.length * valueOf b ds := by
  have := horner_last b (cs.map List.sum) (horner b (ds.map List.sum) 0)
  rw [List.length_map] at this
  unfold valueOf
  rw [← this, List.map_append]
  unfold horner
  rw [List.foldr_append]
end SX
namespace SX
open PySem PySem.Spec L2
theorem cutL_len {cs : List (List Int)} {lo hi : Int} (h0 : 0 ≤ lo) (h1 : lo ≤ hi) (h2 : hi ≤ cs.length) : ((cutL cs lo hi).length : Int) = hi - lo := by
  unfold cutL
  rw [List.length_take, List.length_drop]
  omega
theorem cutL_all {cs : List (List Int)} {hi : Int} (h0 : 0 ≤ hi) : cutL cs 0 hi ++ cutL cs hi cs.length = cs := by
  unfold cutL
  rw [Int.toNat_zero, List.drop_zero, Nat.sub_zero, Int.toNat_natCast]
  have : (cs.drop hi.toNat).take (cs.length - hi.toNat) = cs.drop hi.toNat := List.take_of_length_le (by rw [List.length_drop]; omega)
  rw [this, List.take_append_drop]
end SX
namespace SX
open PySem PySem.Spec L2
section
variable {K : PySem.W.Frag} {C : Addr} {σ : L2.St} {G : Hp} {M M1 M2 M3 M4 : Mem} {tA : TA} {E : XK} {ta tb tc td te tf : TE}
theorem allP2 {P1 P2 : Hp → V → Prop} : ∀ {vs : List V}, AllP G [P1, P2] vs → ∃ v w, vs = [v, w] ∧ P1 G v ∧ P2 G w
  | [v, w], ⟨a, b, _⟩ => ⟨v, w, rfl, a, b⟩
theorem allP3 {P1 P2 P3 : Hp → V → Prop} : ∀ {vs : List V}, AllP G [P1, P2, P3] vs → ∃ v w u, vs = [v, w, u] ∧ P1 G v ∧ P2 G w ∧ P3 G u
  | [v, w, u], ⟨a, b, c, _⟩ => ⟨v, w, u, rfl, a, b, c⟩
/-- (sheet, due columns) -/
def PrF (K : PySem.W.Frag) (q : Addr) (cs : List (List Int)) (G : Hp) (v : V) : Prop := ∃ t c, v = .ref t ∧ SqT K G t [.ref q, c] ∧ Dp K G c (.list (cs.map colD))
instance {q : Addr} {cs : List (List Int)} : Mono (PrF K q cs) := ⟨fun G G' v e h => by
  obtain ⟨t, c, h1, h2, h3⟩ := h
  exact ⟨t, c, h1, ex_t e h2, dm h3 e⟩⟩
end
end SX
namespace SX
open PySem PySem.Spec L2
section
variable {K : PySem.W.Frag} {C : Addr} {σ : L2.St} {G : Hp} {M M1 M2 M3 M4 : Mem} {P : Po} {tA : TA} {E : XK} {ta tb tc td te tf : TE} {t u : TS}
theorem p16 (n : Nat) : (16 : Int) ^ n = ((2 ^ (4 * n) : Nat) : Int) := by
  rw [Nat.pow_mul]
  norm_cast
theorem horner_bd {b : Int} (h0 : 0 ≤ b) (h1 : b ≤ 12) : ∀ (l : List Int), (∀ f ∈ l, 0 ≤ f ∧ f ≤ 48) → 0 ≤ horner b l 0 ∧ horner b l 0 ≤ 48 * (16 ^ l.length - 1)
  | [], _ => by simp [horner]
  | f :: l, h => by
    have ih := horner_bd h0 h1 l fun g hg => h g (List.mem_cons_of_mem _ hg)
    have hf := h f List.mem_cons_self
    have e : horner b (f :: l) 0 = horner b l 0 * b + f := rfl
    rw [e, List.length_cons, Int.pow_succ]
    have a1 : 0 ≤ horner b l 0 * b := Int.mul_nonneg ih.1 h0
    have a2 : horner b l 0 * b ≤ horner b l 0 * 12 := Int.mul_le_mul_of_nonneg_left h1 ih.1
    have a3 : (0 : Int) ≤ 16 ^ l.length - 1 := by
      have := ih.1
      have := ih.2
      omega
    omega
theorem value_wide {b r : Int} {cs : List (List Int)} (g : GoodSh b r cs) : (valueOf b cs).natAbs < 2 ^ (4 * cs.length + 6) := by
  have gb := g.b2
  have gb' := g.b12
  have gr := g.r4
  have := horner_bd (b := b) (by omega) gb' (cs.map List.sum) (fun f hf => by
    obtain ⟨c, hc, rfl⟩ := List.mem_map.mp hf
    have h1 := sum_lo (g.col c hc).2
    have h2 := (g.col c hc).1
    have : (c.length : Int) * b ≤ 4 * 12 := Int.mul_le_mul (by omega) gb' (by omega) (by decide)
    omega)
  rw [List.length_map, p16] at this
  have e : 2 ^ (4 * cs.length + 6) = 2 ^ (4 * cs.length) * 64 := Nat.pow_add _ _ _
  have hp : 0 < 2 ^ (4 * cs.length) := Nat.two_pow_pos _
  unfold valueOf
  rw [e]
  omega
end
end SX
set_option Elab.async false
set_option linter.all false
set_option maxRecDepth 100000
namespace SX
open PySem PySem.Spec L2
section
variable {E : XK} {K : PySem.W.Frag} {σ : L2.St} {G G' H : Hp} {M M1 M2 M3 F : Mem} {R : Post} {P P' : Po} {te ta tb : TE} {tt tu : TT} {t u : TS} {x y z v : V} {d e : PyData} {ds es : List PyData} {a b : Bool} {P1 P2 : Hp → V → Prop} {C : Addr} {Ps : List (Hp → V → Prop)}
theorem dpa_set : ∀ {xs : List V} {ds : List PyData} {i : Nat}, DpAll K G xs ds → Dp K G x d → DpAll K G (xs.set i x) (ds.set i d)
  | _, [], _, h, _ => by cases h; exact .nil
  | _, e :: ds, 0, h, hd => by
    cases h with
    | cons _ h2 => exact .cons hd h2
  | _, e :: ds, i + 1, h, hd => by
    cases h with
    | cons h1 h2 => exact .cons h1 (dpa_set (i := i) h2 hd)
theorem ev_catT (h1 : Ev ta σ G M (isD K (.tuple ds) M1)) (h2 : Ev tb σ G M1 (isD K (.tuple es) M2)) (hl : ds.length + es.length ≤ 100000) : Ev (tOp (rCatA K) ta tb) σ G M (isD K (.tuple (ds ++ es)) M2) :=
  ev_op h1 h2 fun G1 H F x' y' ex m p1 p2 Q k => by
    obtain ⟨p, xs, rfl, hx, dx⟩ := dp_tup p1
    obtain ⟨q, ys, rfl, hy, dy⟩ := dp_tup p2
    refine ⟨p, q, xs, ys, rfl, rfl, ex_t m.ex hx, ex_t m.ex hy, ?_, fun z => ?_, fun _ z => ?_, fun _ _ l hl => ?_⟩
    · rw [dpa_len dx, dpa_len dy]
      exact Nat.le_of_lt (sz_ok hl)
    · subst z
      have : ds = [] := List.length_eq_zero_iff.mp (by rw [← dpa_len dx]; rfl)
      subst this
      exact k _ G1 _ _ (Ex.refl _) m ⟨p2, rfl⟩
    · subst z
      have : es = [] := List.length_eq_zero_iff.mp (by rw [← dpa_len dy]; rfl)
      subst this
      rw [List.append_nil] at k
      exact k _ G1 _ _ (Ex.refl _) m ⟨p1, rfl⟩
    · have g1 := m.free hl
      exact k _ _ _ _ (Ex.new g1) (m.newF hl) ⟨.tup (SqT.of upd_same) (dma (dpa_app dx dy) (Ex.new g1)), rfl⟩
theorem ev_slT {tl th : TO} {lo hi : Option Int} (h : Ev te σ G M (isD K (.tuple ds) M1)) (hl : EvO tl σ G M1 lo M1) (hh : EvO th σ G M1 hi M1) : Ev (tSl (rSlA K) te tl th) σ G M (isD K (.tuple (cutD ds lo hi)) M1) := fun G1 H F e m Q q =>
  h G1 H F e m _ fun v G2 M2 H2 e2 m2 r => by
    obtain ⟨dv, rfl⟩ := r
    refine hl G2 H2 F (e.trans e2) m2 _ fun G3 H3 e3 m3 => hh G3 H3 F ((e.trans e2).trans e3) m3 _ fun G4 H4 e4 m4 => ?_
    obtain ⟨a, xs, rfl, hs, ha⟩ := dp_tup (dm dv (e3.trans e4))
    refine ⟨a, xs, rfl, ex_t m4.ex hs, fun z => ?_, fun _ p hp => ?_⟩
    · have hc : cutD ds lo hi = ds := by
        unfold cutD
        rw [← dpa_len ha, z.1, z.2, List.drop_zero, Nat.sub_zero, List.take_of_length_le (by rw [dpa_len ha]; exact Nat.le_refl _)]
      rw [hc] at q
      exact q _ G4 _ _ ((e2.trans e3).trans e4) m4 ⟨.tup hs ha, rfl⟩
    · have g1 := m4.free hp
      exact q _ _ _ _ (((e2.trans e3).trans e4).trans (Ex.new g1)) (m4.newF hp) ⟨.tup (SqT.of upd_same) (dma (dpa_cut ha lo hi) (Ex.new g1)), rfl⟩
/-- what is owned and not needed is forgotten -/
theorem sv_sub {M' : Mem} (hs : M'.Sublist M) (h : Sv E t σ G M' P) : Sv E t σ G M P := fun G1 H F D e m hd => h G1 H F D e (m.sub (hs.append_right F)) hd
end
end SX
namespace SX
open PySem PySem.Spec L2
section
variable {K : PySem.W.Frag} {C : Addr} {σ : L2.St} {G G' : Hp} {M M1 M2 Mx : Mem} {P : Po} {tA : TA} {E : XK} {ta tb tc td te tf : TE} {t u : TS}
theorem allP4 {P1 P2 P3 P4 : Hp → V → Prop} : ∀ {vs : List V}, AllP G [P1, P2, P3, P4] vs → ∃ v w u x, vs = [v, w, u, x] ∧ P1 G v ∧ P2 G w ∧ P3 G u ∧ P4 G x
  | [v, w, u, x], ⟨a, b, c, d, _⟩ => ⟨v, w, u, x, rfl, a, b, c, d⟩
def mem9 (L A : Nat → Addr) (X Z : Nat → List V) (hl : Addr) (hs : List V) : Mem := [(L 0, .lst (X 0)), (L 1, .lst (X 1)), (L 2, .lst (X 2)), (L 3, .lst (X 3)), (A 0, .lst (Z 0)), (A 1, .lst (Z 1)), (A 2, .lst (Z 2)), (A 3, .lst (Z 3)), (hl, .lst hs)]
def up {α : Type} (f : Nat → α) (k : Nat) (v : α) : Nat → α := fun j => if j = k then v else f j
variable {L A : Nat → Addr} {X Z : Nat → List V} {hl : Addr} {hs y : List V} {k : Nat}
theorem mem9_X (h : k < 4) : (mem9 L A X Z hl hs ++ Mx)[k]? = some (L k, .lst (X k)) := by
  match k, h with
  | 0, _ => rfl
  | 1, _ => rfl
  | 2, _ => rfl
  | 3, _ => rfl
theorem mem9_Z (h : k < 4) : (mem9 L A X Z hl hs ++ Mx)[4 + k]? = some (A k, .lst (Z k)) := by
  match k, h with
  | 0, _ => rfl
  | 1, _ => rfl
  | 2, _ => rfl
  | 3, _ => rfl
theorem up_same {α : Type} {f : Nat → α} {k : Nat} {v : α} : up f k v k = v := if_pos rfl
theorem up_ne {α : Type} {f : Nat → α} {k j : Nat} {v : α} (h : j ≠ k) : up f k v j = f j := if_neg h
/-- four sheets, their due columns, what was held -/
structure St9 (K : PySem.W.Frag) (C : Addr) (b r : Int) (many : Nat) (P dx L : Nat → Addr) (X Z : Nat → List V) (CS : Nat → List (List Int)) (hs : List V) (G : Hp) : Prop where
  sh : ∀ k, k < 4 → G (P k) = some (.ins C (dx k) (shF (.int b) (.int r) (.ref (L k))))
  dX : ∀ k, k < 4 → DpAll K G (X k) ((CS k).map colD)
  dZ : ∀ k, k < 4 → DpAll K G (Z k) ((CS k).map colD)
  g : ∀ k, k < 4 → GoodSh b r (CS k) ∧ (CS k).length = many
  h : ∀ x ∈ hs, ∃ t f d cs, x = .ref t ∧ SqT K G t [f, d] ∧ Dp K G f (.list (cs.map colD)) ∧ Dp K G d (.list (cs.map colD)) ∧ GoodSh b r cs
theorem St9.up {b r : Int} {many : Nat} {P dx : Nat → Addr} {CS : Nat → List (List Int)} (h : St9 K C b r many P dx L X Z CS hs G) (e : Ex G G') : St9 K C b r many P dx L X Z CS hs G' :=
  ⟨fun k hk => e _ _ (h.sh k hk), fun k hk => dma (h.dX k hk) e, fun k hk => dma (h.dZ k hk) e, h.g, fun x hx => by
    obtain ⟨t, f, d, cs, h1, h2, h3, h4, h5⟩ := h.h x hx
    exact ⟨t, f, d, cs, h1, ex_t e h2, dm h3 e, dm h4 e, h5⟩⟩
theorem St9.at_ {b r : Int} {many : Nat} {P dx : Nat → Addr} {CS : Nat → List (List Int)} (h : St9 K C b r many P dx L X Z CS hs G) (Mx : Mem) (k : Nat) (hk : k < 4) : ShAt K C G (mem9 L A X Z hl hs ++ Mx) (P k) b r (CS k) ∧ ColsAt K G (mem9 L A X Z hl hs ++ Mx) (A k) (CS k) ∧ GoodSh b r (CS k) :=
  ⟨⟨dx k, L k, X k, .G (h.sh k hk), .M (mem9_X hk), h.dX k hk⟩, ⟨Z k, .M (mem9_Z hk), h.dZ k hk⟩, (h.g k hk).1⟩
/-- a column set in one of them, in its due columns too -/
theorem St9.set {b r : Int} {many : Nat} {P dx : Nat → Addr} {CS : Nat → List (List Int)} (h : St9 K C b r many P dx L X Z CS hs G) {w j : Nat} {c : List Int} {y z : V} (hc : GoodCol b r c) (hy : Dp K G y (colD c)) (hz : Dp K G z (colD c)) :
    St9 K C b r many P dx L (SX.up X w ((X w).set j y)) (SX.up Z w ((Z w).set j z)) (SX.up CS w ((CS w).set j c)) hs G := by
  refine ⟨h.sh, fun k hk => ?_, fun k hk => ?_, fun k hk => ?_, h.h⟩
  · by_cases e : k = w
    · subst e
      rw [up_same, up_same, List.map_set]
      exact dpa_set (h.dX k hk) hy
    · rw [up_ne e, up_ne e]
      exact h.dX k hk
  · by_cases e : k = w
    · subst e
      rw [up_same, up_same, List.map_set]
      exact dpa_set (h.dZ k hk) hz
    · rw [up_ne e, up_ne e]
      exact h.dZ k hk
  · by_cases e : k = w
    · subst e
      rw [up_same]
      obtain ⟨g, hn⟩ := h.g k hk
      exact ⟨⟨g.b2, g.b12, g.r1, g.r4, by rw [List.length_set]; exact g.len, fun c' hc' => (List.mem_or_eq_of_mem_set hc').elim (g.col c') fun e => e ▸ hc⟩, by rw [List.length_set]; exact hn⟩
    · rw [up_ne e]
      exact h.g k hk
end
end SX
namespace SX
open PySem PySem.Spec L2
end SX
set_option Elab.async false
set_option linter.all false
set_option maxRecDepth 100000
namespace SX
open PySem PySem.Spec L2
/-- the class D has no such method -/
structure NoOp (K : PySem.W.Frag) (D : Addr) (nm : String) : Prop where
  cd : ∃ cd, PySem.W.clsIn K D = some cd ∧ cd.mro = [.ref D, .type "object"]
  h1 : PySem.W.findIn K (.ref D) (PySem.dunder nm) = some none
  h2 : PySem.W.findIn K (.ref D) (PySem.dunderR nm) = some none
  h3 : PySem.W.findIn K (.type "object") (PySem.dunder nm) = some none
  h4 : PySem.W.findIn K (.type "object") (PySem.dunderR nm) = some none
end SX
namespace PySem.W
open PySem PySem.Calls PyProof.Rows
section
variable {prog : Program} {w : World} {M : Model} {A : Around} {E : Value → Shared → Prop} {s : Shared} {K : Frag} {x C D L f : Addr} {h₀ : Heap} {m : Str → Option Value} {ox : Obj} {od : Option Obj} {nm : String}
theorem sx_noslot {h : Heap} (X : K.In h) (N : SX.NoOp K D nm) : Looks M h (fillsNumberSlot (.ref D) nm) false := by
  intro A Q E s k q
  obtain ⟨cd, hc, hm⟩ := N.cd
  have Lm : Looks M h (mroOf (.ref D)) cd.mro := (looks_clsIn X hc).andThen (f := fun cd => pure cd.mro) .now
  have Lm' := Lm.keeps k
  obtain ⟨hh, g, d, tt, os⟩ := s
  have X' : K.In hh := X.keeps k
  have L1 : Looks M hh (typeLookup (.ref D) (PySem.dunder nm)) none := looks_findIn X' N.h1
  have L2 : Looks M hh (typeLookup (.ref D) (dunderR nm)) none := looks_findIn X' N.h2
  have L3 : Looks M hh (typeLookup (.type "object") (PySem.dunder nm)) none := looks_findIn X' N.h3
  have L4 : Looks M hh (typeLookup (.type "object") (dunderR nm)) none := looks_findIn X' N.h4
  unfold fillsNumberSlot
  refine wpAny_bind (Lm'.at ?_)
  rw [hm, List.anyM_cons]
  repeat lk
  exact q
theorem sx_binop2 {op : Operator} {b : Value} {Q : Value → Shared → Prop} (F : Fr h₀ L s.heap m) (X₀ : K.In h₀) (I : InstAt s.heap x ox C od) (hb : Looks (model prog w) s.heap (typeOf b) (.ref D)) (hcd : C ≠ D) (hc : selfFirst K C = true)
    (hs : findIn K (.ref C) (PySem.dunder op.info.2) = some (some (.ref f))) (hf : isFn K (.ref f) = true) (N : SX.NoOp K D op.info.2)
    (h : wpAny (model prog w) A (call (.ref f) [.ref x, b]) (CmpBack Q) E s) : wpAny (model prog w) A (binaryOp op (.ref x) b) Q E s := by
  have X := X₀.keeps F.keep
  obtain ⟨cd, rest, hcd', hm⟩ := ksp_first hc
  rcases hi : op.info with ⟨sym, nm'⟩
  rw [hi] at hs N
  dsimp only at hs N
  have one := ksp_try X I hs hf h
  obtain ⟨hh, g, d, tt, os⟩ := s
  have L1 : Looks (model prog w) hh (typeOf (.ref x)) (.ref C) := I.type
  have L2 : Looks (model prog w) hh (typeOf b) (.ref D) := hb
  have L3 : Looks (model prog w) hh (fillsNumberSlot (.ref C) nm') true := fills_K X hcd' hm hs
  have L4 : Looks (model prog w) hh (fillsNumberSlot (.ref D) nm') false := sx_noslot X N
  have hne : (Value.ref C == Value.ref D) = false := Bool.eq_false_iff.mpr fun q => hcd (by cases beq_iff_eq.mp q; rfl)
  simp only [binaryOp, hi]
  refine wpAny_holding (wpAny_bind ?_)
  unfold binaryOp1
  refine wpAny_bind (L1.at (wpAny_bind (L2.at (wpAny_bind (L3.at ?_)))))
  simp only [hne, Bool.false_eq_true, if_false]
  ksp_lk
  refine wpAny_mono one (fun r s' hr' => ?_) fun _ _ e => e
  obtain ⟨v, rfl, hq⟩ := hr'
  ksp_lk
  exact hq
end
end PySem.W
namespace SX
open PySem PySem.Spec L2
section
variable {X : Cx} {CX : CXT} {k : Nat} {C D f : Addr} {fd : FuncData} {ps : List Str} {sp : Sp} {E : XK}
/-- one op other, of two own classes -/
def rBin2 (C D : Addr) (sp : Sp) (E : XK) : R2 := fun x y H Q => ∃ a dx fs b dy gs, x = .ref a ∧ y = .ref b ∧ H a = some (.ins C dx fs) ∧ H b = some (.ins D dy gs) ∧ sp [.ref a, .ref b] H Q E
theorem op_bin2 {op : Operator} (hcd : C ≠ D) (N : NoOp X.K D op.info.2) (hs : PySem.W.findIn X.K (.ref C) (PySem.dunder op.info.2) = some (some (.ref f))) (hfn : PySem.W.isFn X.K (.ref f) = true) (hc : PySem.W.selfFirst X.K C = true) (F : FnOk X.prog X.w X.K X.mg X.base CX k f fd ps sp) (hr : Room k X.A) (hb : Binds X.K fd ps []) (hx : Passes CX X E) : OpR X (binaryOp op) (rBin2 C D sp E) := by
  intro pins s σ H x y v u Q I rx ry h
  obtain ⟨a, dx, fs, b, dy, gs, rfl, rfl, ea, eb, q⟩ := h
  cases (show v = Value.ref a from rx)
  cases (show u = Value.ref b from ry)
  obtain ⟨mA, O, _⟩ := ins_get I.hok ea
  obtain ⟨od, J, _⟩ := O.look
  obtain ⟨mB, O2, _⟩ := ins_get I.hok eb
  obtain ⟨od2, J2, _⟩ := O2.look
  obtain ⟨m, fr⟩ := I.fr
  exact PySem.W.sx_binop2 fr I.ok.mod.kin J J2.type hcd hc hs hfn N (wpAny_mono (run_at F hr hb hx I (.cons (show RelV (.ref a) (.ref a) from rfl) (.cons (show RelV (.ref b) (.ref b) from rfl) .nil)) q) (fun u s1 h1 => cmpBack h1) fun _ _ e => e)
end
/-- plain data is of no own class -/
structure DataOut (K : PySem.W.Frag) (C : Addr) : Prop where
  nf : ∀ d : PyData, PySem.W.notFirst K C (.type (tyName d)) = true
  ki : ∀ d : PyData, PySem.W.kitOne K (.type (tyName d)) (.ref C) = some false
section
variable {E : XK} {K : PySem.W.Frag} {σ : L2.St} {G G' H : Hp} {M M1 M2 M3 F : Mem} {R : Post} {P P' : Po} {te ta tb : TE} {tt tu : TT} {t u : TS} {x y z v : V} {d e : PyData} {ds es : List PyData} {a b : Bool} {P1 P2 : Hp → V → Prop} {C D : Addr} {Ps : List (Hp → V → Prop)}
theorem dataOut (n1 : PySem.W.notFirst K C (.type "NoneType") = true) (n2 : PySem.W.notFirst K C (.type "bool") = true) (n3 : PySem.W.notFirst K C (.type "int") = true) (n4 : PySem.W.notFirst K C (.type "str") = true) (n5 : PySem.W.notFirst K C (.type "list") = true) (n6 : PySem.W.notFirst K C (.type "tuple") = true) (n7 : PySem.W.notFirst K C (.type "dict") = true)
    (k1 : PySem.W.kitOne K (.type "NoneType") (.ref C) = some false) (k2 : PySem.W.kitOne K (.type "bool") (.ref C) = some false) (k3 : PySem.W.kitOne K (.type "int") (.ref C) = some false) (k4 : PySem.W.kitOne K (.type "str") (.ref C) = some false) (k5 : PySem.W.kitOne K (.type "list") (.ref C) = some false) (k6 : PySem.W.kitOne K (.type "tuple") (.ref C) = some false) (k7 : PySem.W.kitOne K (.type "dict") (.ref C) = some false) : DataOut K C := by
  refine ⟨fun d => ?_, fun d => ?_⟩ <;> cases d <;> dsimp only [tyName] <;> assumption
end
def wrF (b l last : V) : List (Str × V) := putF "_last" last (putF "_figures" l (putF "_base" b []))
theorem s_bf : ¬ (("_base" : Str) = "_figures") := by decide +kernel
theorem s_bl : ¬ (("_base" : Str) = "_last") := by decide +kernel
theorem s_fl : ¬ (("_figures" : Str) = "_last") := by decide +kernel
theorem wrF_b {b l last : V} : (wrF b l last).lookup ("_base" : Str) = some b := by
  unfold wrF
  rw [lookup_putF, if_neg s_bl, lookup_putF, if_neg s_bf, lookup_putF, if_pos rfl]
theorem wrF_f {b l last : V} : (wrF b l last).lookup ("_figures" : Str) = some l := by
  unfold wrF
  rw [lookup_putF, if_neg s_fl, lookup_putF, if_pos rfl]
theorem wrF_l {b l last : V} : (wrF b l last).lookup ("_last" : Str) = some last := by
  unfold wrF
  rw [lookup_putF, if_pos rfl]
theorem wrF_no {b r l : V} {m : Str} (h1 : ¬ m = "_base") (h2 : ¬ m = "_figures") (h3 : ¬ m = "_last") : (wrF b l r).lookup m = none := by
  unfold wrF
  rw [lookup_putF, if_neg h3, lookup_putF, if_neg h2, lookup_putF, if_neg h1]
  rfl
/-- a result that stands still -/
def WrG (K : PySem.W.Frag) (C : Addr) (p : Addr) (b : Int) (figs : List Int) (last : Int) (G : Hp) : Prop := ∃ dx l xs, G p = some (.ins C dx (wrF (.int b) (.ref l) (.int last))) ∧ SqL K G l xs ∧ DpAll K G xs (figs.map .int)
theorem WrG.up {K : PySem.W.Frag} {C p : Addr} {b last : Int} {figs : List Int} {G G' : Hp} (h : WrG K C p b figs last G) (e : Ex G G') : WrG K C p b figs last G' := by
  obtain ⟨dx, l, xs, h1, h2, h3⟩ := h
  exact ⟨dx, l, xs, e _ _ h1, ex_l e h2, dma h3 e⟩
def WrFz (K : PySem.W.Frag) (C : Addr) (b : Int) (figs : List Int) (last : Int) (G : Hp) (v : V) : Prop := ∃ p, v = .ref p ∧ WrG K C p b figs last G
instance {K : PySem.W.Frag} {C : Addr} {b last : Int} {figs : List Int} : Mono (WrFz K C b figs last) := ⟨fun G G' v e h => by
  obtain ⟨p, h1, h2⟩ := h
  exact ⟨p, h1, h2.up e⟩⟩
abbrev wrPre (K : PySem.W.Frag) (C : Addr) : (Addr × Int × List Int × Int) → Hp → Mem → List V → Prop := fun x G M vs => vs = [.ref x.1] ∧ WrG K C x.1 x.2.1 x.2.2.1 x.2.2.2 G
abbrev wrGPre (K : PySem.W.Frag) (C : Addr) : (Addr × Int × List Int × Int) → Hp → Mem → List V → Prop := fun x G M vs => wrPre K C x G M vs ∧ (-(2 ^ 64) < x.2.1 ∧ x.2.1 < 2 ^ 64)
/-- made: x = (p, dx, base, figures, last); the figures may be owned -/
abbrev mkWrPre (K : PySem.W.Frag) (C : Addr) : (Addr × Addr × Int × List Int × Int) → Hp → Mem → List V → Prop := fun x G M vs => ∃ v M0, vs = [.ref x.1, .int x.2.2.1, v, .int x.2.2.2.2] ∧ M = M0 ++ [(x.1, .ins C x.2.1 [])] ∧ Dt K G M0 v (.list (x.2.2.2.1.map .int))
abbrev mkWrPost (K : PySem.W.Frag) (C : Addr) : (Addr × Addr × Int × List Int × Int) → Mem → Post := fun x M G v M' => v = .non ∧ ∃ l xs M0, M = M0 ++ [(x.1, .ins C x.2.1 [])] ∧ M' = M0 ++ [(x.1, .ins C x.2.1 (wrF (.int x.2.2.1) (.ref l) (.int x.2.2.2.2))), (l, .lst xs)] ∧ DpAll K G xs (x.2.2.2.1.map .int)
theorem ev_mkWr {K : PySem.W.Frag} {σ : L2.St} {G : Hp} {M M1 : Mem} {tA : TA} {E : XK} {C : Addr} {b last : Int} {figs : List Int} {Pv : Hp → V → Prop} (h : EvA tA σ G M [fun _ v => v = .int b, Pv, fun _ v => v = .int last] M1) (hd : ∀ G1 v, Ex G G1 → Pv G1 v → Dt K G1 M1 v (.list (figs.map .int))) :
    Ev (tMake C (spec (mkWrPre K C) (mkWrPost K C)) [] E tA) σ G M (isP (WrFz K C b figs last) M1) := by
  have h0 := ev_make (E := E) (C := C) (pre := mkWrPre K C) (post := mkWrPost K C) (R := fun G1 v M' => ∃ p dx l xs, v = .ref p ∧ M' = M1 ++ [(p, .ins C dx (wrF (.int b) (.ref l) (.int last))), (l, .lst xs)] ∧ DpAll K G1 xs (figs.map .int)) (fun p dx => (p, dx, b, figs, last)) h
    (fun G1 p dx vs e q => by
      obtain ⟨v1, v2, v3, rfl, p1, p2, p3⟩ := allP3 q
      subst p1 p3
      exact ⟨v2, M1, rfl, rfl, hd G1 v2 e p2⟩)
    (fun G1 p dx v M2 e q => by
      obtain ⟨rfl, l, xs, M0, e0, rfl, dd⟩ := q
      have := List.append_cancel_right e0
      subst this
      exact ⟨rfl, p, dx, l, xs, rfl, rfl, dd⟩)
  intro G1 H F e m Q q
  refine h0 G1 H F e m Q fun v G2 M2 H2 e2 m2 r2 => ?_
  obtain ⟨p, dx, l, xs, rfl, rfl, dd⟩ := r2
  have e0 : M1 ++ [(p, HO.ins C dx (wrF (.int b) (.ref l) (.int last))), (l, .lst xs)] = (M1 ++ [(p, HO.ins C dx (wrF (.int b) (.ref l) (.int last)))]) ++ [(l, .lst xs)] := by simp
  rw [e0] at m2
  obtain ⟨m3, e3⟩ := m2.freezeLast
  obtain ⟨m4, e4⟩ := m3.freezeLast
  exact q _ _ M1 H2 ((e2.trans e3).trans e4) m4 ⟨⟨p, rfl, dx, l, xs, upd_same, SqL.of (e4 _ _ upd_same), dma dd (e3.trans e4)⟩, rfl⟩
end SX
namespace SX
open PySem PySem.Spec L2
theorem ev_fldD {K : PySem.W.Frag} {σ : L2.St} {G : Hp} {M M1 : Mem} {ta : TE} {p C dx : Addr} {fs : List (Str × V)} {f : Str} {x : V} {d : PyData} (h1 : Ev ta σ G M (isV (.ref p) M1)) (ha : At G M1 p (.ins C dx fs)) (hc : Cls K C) (hn : NoAttr K C f) (hl : fs.lookup f = some x) (hd : Dp K G x d) : Ev (tFld K ta f) σ G M (isD K d M1) := Ev.toDp (ev_fld h1 ha hc hn hl) hd
abbrev restPre (K : PySem.W.Frag) (C : Addr) : ((Addr × Int × List Int × Int) × Int) → Hp → Mem → List V → Prop := fun x G M vs => vs = [.ref x.1.1, .int x.2] ∧ WrG K C x.1.1 x.1.2.1 x.1.2.2.1 x.1.2.2.2 G ∧ (-(2 ^ 64) < x.1.2.1 ∧ x.1.2.1 < 2 ^ 64) ∧ 0 < x.2
abbrev restPost : ((Addr × Int × List Int × Int) × Int) → Mem → Post := fun x M => isV (.int (horner x.1.2.1 x.1.2.2.1 x.1.2.2.2 % x.2)) M
end SX
namespace SX
open PySem PySem.Spec L2
abbrev wsubPre (K : PySem.W.Frag) (C D : Addr) : ((Addr × Int × List Int × Int) × (Addr × Int × Int × List (List Int))) → Hp → Mem → List V → Prop := fun x G M vs => vs = [.ref x.1.1, .ref x.2.1] ∧ WrG K C x.1.1 x.1.2.1 x.1.2.2.1 x.1.2.2.2 G ∧ ShAt K D G M x.2.1 x.2.2.1 x.2.2.2.1 x.2.2.2.2 ∧ (-(2 ^ 64) < x.1.2.1 ∧ x.1.2.1 < 2 ^ 64) ∧ (-(2 ^ 64) < x.2.2.1 ∧ x.2.2.1 < 2 ^ 64) ∧ x.2.2.2.2.length ≤ 100000
abbrev wsubPost : ((Addr × Int × List Int × Int) × (Addr × Int × Int × List (List Int))) → Mem → Post := fun x M => isV (.int (horner x.1.2.1 x.1.2.2.1 x.1.2.2.2 - valueOf x.2.2.1 x.2.2.2.2)) M
abbrev weqPre (K : PySem.W.Frag) (C : Addr) : ((Addr × Int × List Int × Int) × (Addr × Int × List Int × Int)) → Hp → Mem → List V → Prop := fun x G M vs => vs = [.ref x.1.1, .ref x.2.1] ∧ WrG K C x.1.1 x.1.2.1 x.1.2.2.1 x.1.2.2.2 G ∧ WrG K C x.2.1 x.2.2.1 x.2.2.2.1 x.2.2.2.2 G
abbrev weqPost : ((Addr × Int × List Int × Int) × (Addr × Int × List Int × Int)) → Mem → Post := fun x M => isV (.bl (decide (x.1.2 = x.2.2))) M
end SX
namespace SX
open PySem PySem.Spec L2
end SX
namespace SX
open PySem PySem.Spec L2
end SX
set_option Elab.async false
set_option linter.all false
set_option maxRecDepth 100000
namespace SX
open PySem PySem.Spec L2
/-- where a sheet stands in the order -/
def placeD (b r : Int) (cs : List (List Int)) : PyData := .tuple [.int b, .int r, .int (cs.length : Int), .list (cs.map colD)]
end SX
namespace SX
open PySem PySem.Spec L2
section
variable {K : PySem.W.Frag} {σ : L2.St} {G : Hp} {M M1 M2 : Mem} {ta tb : TE} {E : XK} {C : Addr}
/-- the tuple that is compared -/
def PlF (l : Addr) (n : Nat) (b r : Int) (G : Hp) (v : V) : Prop := ∃ t, v = .ref t ∧ G t = some (.tup [.int b, .int r, .int (n : Int), .ref l])
instance {l : Addr} {n : Nat} {b r : Int} : Mono (PlF l n b r) := ⟨fun G G' v e h => by
  obtain ⟨t, h1, h2⟩ := h
  exact ⟨t, h1, e _ _ h2⟩⟩
/-- two sheets compared -/
abbrev cmpPre (K : PySem.W.Frag) (C : Addr) : ((Addr × Int × Int × List (List Int)) × (Addr × Int × Int × List (List Int))) → Hp → Mem → List V → Prop := fun x G M vs => vs = [.ref x.1.1, .ref x.2.1] ∧ ShAt K C G M x.1.1 x.1.2.1 x.1.2.2.1 x.1.2.2.2 ∧ ShAt K C G M x.2.1 x.2.2.1 x.2.2.2.1 x.2.2.2.2
abbrev cmpPost (f : PyData → PyData → Bool) : ((Addr × Int × Int × List (List Int)) × (Addr × Int × Int × List (List Int))) → Mem → Post := fun x M => isV (.bl (f (placeD x.1.2.1 x.1.2.2.1 x.1.2.2.2) (placeD x.2.2.1 x.2.2.2.1 x.2.2.2.2))) M
end
end SX
namespace SX
open PySem PySem.Spec L2
end SX
namespace SX
open PySem PySem.Spec L2
end SX
namespace SX
open PySem PySem.Spec L2
end SX
namespace SX
open PySem PySem.Spec L2
end SX
set_option Elab.async false
set_option linter.all false
set_option maxRecDepth 100000
namespace SX
open PySem PySem.Spec L2 PyProof.Rows
/-- what a set asks of what it may take -/
structure Elem (P : Program) (w : World) (κ : Type) [DecidableEq κ] where
  is : Heap → κ → Addr → Prop
  code : κ → Int
  toks : κ → Nat
  eqB : ∀ {A : Around} {E : Value → Shared → Prop} {s : Shared} {x y : κ} {a b : Addr} {Q : Bool → Shared → Prop}, A.units < cLine → is s.heap x a → is s.heap y b → Q (decide (x = y)) s → wpAny (model P w) A (eqBool (.ref a) (.ref b)) Q E s
  hash : ∀ {A : Around} {E : Value → Shared → Prop} {s : Shared} {x : κ} {a : Addr} {Q : Int → Shared → Prop}, A.units < cLine → is s.heap x a → Q (code x) { s with toks := s.toks + toks x } → wpAny (model P w) A (pyHash (.ref a)) Q E s
  quiet : ∀ {A : Around} {E : Value → Shared → Prop} {s : Shared} {x : κ} {a : Addr} {Q : Bool → Shared → Prop}, is s.heap x a → Q true s → wpAny (model P w) A (eqIsQuiet 8 (.ref a)) Q E s
  noCls : ∀ {A : Around} {E : Value → Shared → Prop} {s : Shared} {x : κ} {a : Addr} {Q : Bool → Shared → Prop}, is s.heap x a → Q false s → wpAny (model P w) A (ofAClassStatement 8 (.ref a)) Q E s
  byVal : ∀ {A : Around} {E : Value → Shared → Prop} {s : Shared} {x : κ} {a : Addr} {Q : Bool → Shared → Prop}, is s.heap x a → (∀ b, Q b s) → wpAny (model P w) A (hashByValue 8 (.ref a)) Q E s
  but : ∀ {h h' : Heap} {x : κ} {b a : Addr} {o : Obj} {es : Array (Int × Value)} {ep : Nat} {t : SetTable}, is h x b → h.get? a = some o → o.data = .set es ep t → Heap.SameBut a h h' → is h' x b
  keep : ∀ {h h' : Heap} {x : κ} {b : Addr}, is h x b → (∀ c o, h.get? c = some o → h'.get? c = some o) → is h' x b
section
variable {P : Program} {w : World} {κ : Type} [DecidableEq κ] (e : Elem P w κ) {A : Around} {E : Value → Shared → Prop} {s : Shared} {a : Addr} {L : List (Addr × κ)} {es : Array (Int × Value)} {ep : Nat} {t : SetTable}
def codes (L : List (Addr × κ)) : List Int := L.map fun p => e.code p.2
def entries (L : List (Addr × κ)) : List (Int × Value) := L.map fun p => (e.code p.2, Value.ref p.1)
/-- at a: a set that has just these -/
structure SetE (h : Heap) (a : Addr) (L : List (Addr × κ)) (es : Array (Int × Value)) (ep : Nat) (t : SetTable) : Prop where
  obj : ∃ o, h.get? a = some o ∧ o.ExactSet ∧ o.data = .set es ep t
  ent : es.toList = entries e L
  tab : TabOk t (codes e L)
  dif : (L.map (·.2)).Nodup
  mem : ∀ p ∈ L, e.is h p.2 p.1
  led : w.params.followText "set-order" = true ∨ t.led = true
  gap : 5 * L.length < 3 * t.mask
  few : L.length ≤ 60
variable {e}
theorem SetE.esz (R : SetE e s.heap a L es ep t) : es.size = L.length := by
  rw [← Array.length_toList, R.ent, entries, List.length_map]
theorem SetE.psz (R : SetE e s.heap a L es ep t) : t.place.size = L.length := by
  rw [R.tab.sz, codes, List.length_map]
theorem SetE.fit (R : SetE e s.heap a L es ep t) : t.fits es.size = true := by
  have h1 := R.psz
  have h2 := R.esz
  have h3 := R.gap
  simp only [SetTable.fits, SetTable.fill, R.tab.dm, Bool.and_eq_true, beq_iff_eq, decide_eq_true_eq]
  exact ⟨by omega, by simp only [List.size_toArray, List.length_nil]; omega⟩
theorem SetE.row (R : SetE e s.heap a L es ep t) {i : Nat} {p : Addr × κ} (h : L[i]? = some p) : es[i]? = some (e.code p.2, Value.ref p.1) := by
  have h2 : es.toList[i]? = some (e.code p.2, Value.ref p.1) := by rw [R.ent, entries, List.getElem?_map, h]; rfl
  simpa using h2
theorem SetE.code_at (R : SetE e s.heap a L es ep t) {i : Nat} {p : Addr × κ} (h : L[i]? = some p) : (es[i]?.map (·.1)).getD 0 = e.code p.2 := by
  rw [R.row h]
  rfl
theorem no_dummy (m : Nat) : ∀ (n : Nat) (p : SetTable.Probe), p.dummy = none → (nth m p n).dummy = none
  | 0, _, h => h
  | n + 1, p, h => no_dummy m n (adv m p) (by unfold adv; split <;> exact h)
abbrev startP (m : Nat) (c : Int) : SetTable.Probe := runAt m (SetTable.bits c % (m + 1)) (SetTable.bits c)
/-- asked of a list of such values, a search shows nothing -/
theorem unseen {k : κ} {b : Addr} (hk : e.is s.heap k b) {ys : List Value} (hy : ∀ y ∈ ys, ∃ k' c, y = Value.ref c ∧ e.is s.heap k' c) {Q : Bool → Shared → Prop} (h : Q false s) : wpAny (model P w) A (searchCouldBeSeen (.ref b) ys) Q E s := by
  unfold searchCouldBeSeen
  apply wpAny_bind
  refine wpAny_forIn_list _ (fun left r s' => (r.1 = none ∧ s' = s) ∧ ∀ y ∈ left, ∃ k' c, y = Value.ref c ∧ e.is s.heap k' c) _ ?_ ?_ _ _ ⟨⟨rfl, rfl⟩, hy⟩
  · rintro v left r s' ⟨⟨hr, rfl⟩, hall⟩
    obtain ⟨k', c, rfl, hc⟩ := hall v List.mem_cons_self
    have next := fun y (h' : y ∈ left) => hall y (List.mem_cons_of_mem _ h')
    dsimp only
    split
    · exact wpAny_pure ⟨⟨rfl, rfl⟩, next⟩
    · apply wpAny_bind
      apply e.quiet hk
      simp only [Bool.not_true, Bool.false_eq_true, if_false]
      apply wpAny_bind
      apply e.quiet hc
      simp only [Bool.not_true, Bool.false_eq_true, if_false]
      apply wpAny_bind
      apply e.noCls hk
      simp only [Bool.false_eq_true, if_false]
      apply wpAny_bind
      apply e.noCls hc
      simp only [Bool.false_eq_true, if_false]
      exact wpAny_pure ⟨⟨rfl, rfl⟩, next⟩
  · rintro ⟨r1, r2⟩ s' ⟨⟨hr, rfl⟩, _⟩
    cases (show r1 = none from hr)
    exact wpAny_pure h
/-- the search, from its c-th step on: what is sought is there, or a free place is found -/
theorem SetE.look (R : SetE e s.heap a L es ep t) {x : Addr} {k : κ} (hx : e.is s.heap k x) (hu : A.units < cLine) {m : Nat} (hm : t.mask = m) {K : Nat} (hKf : K < 10 * SetTable.turns m) (hK : way m (e.code k) K ∉ t.place.toList) (hKb : ∀ c, c < K → way m (e.code k) c ∈ t.place.toList)
    {Q : SetFound → Shared → Prop} (yes : k ∈ L.map (·.2) → Q (.there none) s) (no : k ∉ L.map (·.2) → Q (.free (way m (e.code k) K) false) s) :
    ∀ (f c : Nat) (st : Option SetTable.Probe), st.getD (t.probeStart (e.code k)) = nth m (startP m (e.code k)) c → c ≤ K → K < f + c → (∀ (i : Nat) (p : Addr × κ), L[i]? = some p → p.2 = k → ∃ c', (c ≤ c' ∧ c' < K) ∧ t.place.toList[i]? = some (way m (e.code k) c')) →
      wpAny (model P w) A (setSearchFrom a (.ref x) (e.code k) true f st) Q E s := by
  subst hm
  obtain ⟨o, ho, hex, hd⟩ := R.obj
  intro f
  induction f with
  | zero => intro c st _ h1 h2; omega
  | succ f ih =>
    intro c st hst hc hf hre
    have hnd := no_dummy t.mask c (startP t.mask (e.code k)) rfl
    have hj : ∀ q, (nth t.mask (nth t.mask (startP t.mask (e.code k)) c) q).j = way t.mask (e.code k) (c + q) := fun q => by rw [← nth_add]
    have spec := go_spec t R.tab.ris R.tab.dm (fun i => (es[i]?.map (·.1)).getD 0) (e.code k) (10 * SetTable.turns t.mask) (K - c) _ hnd (by omega) (fun q hq => by rw [hj]; exact hKb _ (by omega)) (by rw [hj, Nat.add_sub_cancel' hc]; exact hK)
    rw [setSearchFrom_succ]
    apply wpAny_bind
    refine wpAny_setState_of ho hd R.fit ?_
    dsimp only
    refine wp_if_neg (by unfold SetTable.gaveWay; rw [mask_odd R.tab.mok]; decide) ?_
    try apply wpAny_bind; apply wpAny_pure
    rcases spec with ⟨q, i, hq, hi, hh, hfst, hpr⟩ | ⟨hnone, hpr⟩
    · -- a place with the same code
      have hpr2 : t.probe (fun i => (es[i]?.map (·.1)).getD 0) (e.code k) (st.getD (t.probeStart (e.code k))) = some (.candidate (way t.mask (e.code k) (c + q)) i (nth t.mask (startP t.mask (e.code k)) (c + (q + 1)))) := by
        rw [hst, ← hj q, nth_add t.mask c _ (q + 1)]
        exact hpr
      rw [hpr2]
      dsimp only
      rw [hj] at hi
      have hiL : i < L.length := by
        have := (List.getElem?_eq_some_iff.mp hi).1
        rw [Array.length_toList, R.psz] at this
        exact this
      obtain ⟨p, hp⟩ : ∃ p, L[i]? = some p := ⟨_, List.getElem?_eq_getElem hiL⟩
      have hpL := List.mem_of_getElem? hp
      have live := slot_live R.tab.ris hi
      have body : wpAny (model P w) A (searchRest a (.ref x) (e.code k) true f es t (way t.mask (e.code k) (c + q)) i (nth t.mask (startP t.mask (e.code k)) (c + (q + 1)))) Q E s := by
        unfold searchRest
        rw [R.row hp]
        dsimp only
        apply wpAny_bind
        apply wpAny_holding
        apply e.eqB hu (R.mem p hpL) hx
        apply wpAny_bind
        refine wpAny_setState_of ho hd R.fit ?_
        dsimp only
        by_cases hkk : p.2 = k
        · rw [decide_eq_true hkk]
          exact wp_if_pos rfl (wpAny_pure (yes (List.mem_map.mpr ⟨p, hpL, hkk⟩)))
        · rw [decide_eq_false hkk]
          refine wp_if_neg (by decide) ?_
          try apply wpAny_bind; apply wpAny_pure
          have hsm : t.sameMemory t.moves t.mask = some true := by simp [SetTable.sameMemory]
          rw [hsm]
          simp only [if_true, live, R.row hp]
          apply wpAny_bind
          apply wpAny_isSame_ref_self
          apply wpAny_bind
          apply wpAny_pure
          simp only [if_true]
          refine wp_if_neg (by decide) ?_
          refine ih (c + (q + 1)) _ rfl (by omega) (by omega) fun i0 p0 h0 hk0 => ?_
          obtain ⟨c', ⟨b1, b2⟩, b3⟩ := hre i0 p0 h0 hk0
          refine ⟨c', ⟨?_, b2⟩, b3⟩
          rcases Nat.lt_trichotomy c' (c + q) with z | z | z
          · refine absurd ((R.code_at h0).trans (by rw [hk0])) (hfst (c' - c) i0 (by omega) ?_)
            rw [hj, Nat.add_sub_cancel' b1]
            exact b3
          · exfalso
            subst z
            have l2 := slot_live R.tab.ris b3
            rw [live] at l2
            cases l2
            rw [hp] at h0
            cases h0
            exact hkk hk0
          · omega
      by_cases hl : t.led = true
      · refine wp_if_neg (by rw [hl]; decide) ?_
        try apply wpAny_bind; apply wpAny_pure
        exact body
      · refine wp_if_pos (by simpa using hl) ?_
        apply wpAny_bind
        refine unseen hx (fun y hy => ?_) ?_
        · simp only [List.mem_map, Array.mem_toList_iff, Array.mem_filter] at hy
          obtain ⟨en, ⟨hen, _⟩, rfl⟩ := hy
          have hen : en ∈ es.toList := by simpa using hen
          rw [R.ent, entries, List.mem_map] at hen
          obtain ⟨p2, h2, rfl⟩ := hen
          exact ⟨p2.2, p2.1, rfl, R.mem p2 h2⟩
        · refine wp_if_neg (by decide) ?_
          try apply wpAny_bind; apply wpAny_pure
          exact body
    · -- a free place
      have hpr2 : t.probe (fun i => (es[i]?.map (·.1)).getD 0) (e.code k) (st.getD (t.probeStart (e.code k))) = some (.empty (way t.mask (e.code k) K) none) := by
        rw [hst, show way t.mask (e.code k) K = way t.mask (e.code k) (c + (K - c)) by rw [Nat.add_sub_cancel' hc], ← hj]
        exact hpr
      rw [hpr2]
      dsimp only
      refine wpAny_pure (no fun hm => ?_)
      obtain ⟨p0, h0, hk0⟩ := List.mem_map.mp hm
      obtain ⟨i0, h00⟩ := List.mem_iff_getElem?.mp h0
      obtain ⟨c', ⟨b1, b2⟩, b3⟩ := hre i0 p0 h00 hk0
      refine absurd ((R.code_at h00).trans (by rw [hk0])) (hnone (c' - c) i0 (by omega) ?_)
      rw [hj, Nat.add_sub_cancel' b1]
      exact b3
end
end SX
namespace SX
open PySem PySem.Spec L2 PyProof.Rows
end SX
namespace SX
open PySem PySem.Spec L2 PyProof.Rows
section
variable {P : Program} {w : World} {κ : Type} [DecidableEq κ] {e : Elem P w κ} {A : Around} {E : Value → Shared → Prop} {s : Shared}
/-- what is taken of the first i -/
def Tkn (ks : List (Addr × κ)) (i : Nat) (L : List (Addr × κ)) : Prop := (∀ p ∈ L, p ∈ ks.take i) ∧ (∀ p ∈ ks.take i, p.2 ∈ L.map (·.2)) ∧ L.length ≤ i
theorem Tkn.start (ks : List (Addr × κ)) : Tkn ks 0 [] := And.intro (fun _ h => by cases h) (And.intro (fun _ h => by rw [List.take_zero] at h; cases h) (Nat.le_refl _))
end
end SX
namespace SX
open PySem PySem.Spec L2 PyProof.Rows
end SX
set_option Elab.async false
set_option linter.all false
set_option maxRecDepth 100000
namespace SX
open PySem PySem.Spec L2 PyProof.Rows
end SX
set_option Elab.async false
set_option linter.all false
set_option maxRecDepth 100000
namespace SX
open PySem PySem.Spec PyProof.Rows L2
end SX
namespace SX
open PySem PySem.Spec L2
end SX
set_option Elab.async false
set_option linter.all false
set_option maxRecDepth 100000
namespace SX
open PySem PySem.Spec L2 PyProof.Rows
end SX
set_option Elab.async false
set_option linter.all false
set_option maxRecDepth 100000
namespace SY
open PySem PySem.Spec L2 SX
/-- what is known of a value, and stays so -/
structure Pr where
  p : Hp → V → Prop
  m : ∀ G G' v, Ex G G' → p G v → p G' v
/-- what is known of an object that is owned -/
structure Ob where
  p : Hp → HO → Prop
  m : ∀ G G' o, Ex G G' → p G o → p G' o
abbrev Mp := List (Addr × Ob)
abbrev En := List (Option Pr)
def D (K : PySem.W.Frag) (d : PyData) : Pr := ⟨fun G v => Dp K G v d, fun _ _ _ e h => dm h e⟩
def Av (a : Addr) : Pr := ⟨fun _ v => v = .ref a, fun _ _ _ _ h => h⟩
def Cv (x : V) : Pr := ⟨fun _ v => v = x, fun _ _ _ _ h => h⟩
def OL (K : PySem.W.Frag) (ds : List PyData) : Ob := ⟨fun G o => ∃ vs, o = .lst vs ∧ DpAll K G vs ds, fun _ _ _ e h => by obtain ⟨vs, h1, h2⟩ := h; exact ⟨vs, h1, dma h2 e⟩⟩
def DKo (D : Deck) : Ob := ⟨fun _ o => o = D.ho, fun _ _ _ _ h => h⟩
def Sl (G : Hp) (σ : L2.St) (δ : En) : Prop := σ.length = δ.length ∧ ∀ (k : Nat) (P : Pr), δ[k]? = some (some P) → ∃ v, σ[k]? = some (some v) ∧ P.p G v
def Mm (G : Hp) : Mem → Mp → Prop
  | [], [] => True
  | m :: M, q :: μ => (m.1 = q.1 ∧ q.2.p G m.2) ∧ Mm G M μ
  | _, _ => False
abbrev AP (G : Hp) (Ps : List Pr) (vs : List V) : Prop := AllP G (Ps.map Pr.p) vs
section
variable {G G' : Hp} {σ : L2.St} {δ δ' : En} {M M1 M2 : Mem} {μ μ1 μ2 : Mp} {P : Pr} {v : V} {k i : Nat} {Ps : List Pr} {vs : List V}
theorem Sl.mono (h : Sl G σ δ) (e : Ex G G') : Sl G' σ δ := ⟨h.1, fun k P hk => by obtain ⟨v, h1, h2⟩ := h.2 k P hk; exact ⟨v, h1, P.m _ _ _ e h2⟩⟩
theorem Sl.get (h : Sl G σ δ) (hk : δ[k]? = some (some P)) : ∃ v, σ[k]? = some (some v) ∧ P.p G v := h.2 k P hk
theorem Sl.set (h : Sl G σ δ) (hp : P.p G v) : Sl G (σ.set k (some v)) (δ.set k (some P)) := ⟨by simp [h.1], fun j Q hj => by
  rw [List.getElem?_set] at hj ⊢
  split at hj
  · rename_i e
    subst e
    rw [if_pos rfl]
    split at hj
    · rename_i hl
      cases hj
      rw [if_pos (by rw [h.1]; exact hl)]
      exact ⟨v, rfl, hp⟩
    · cases hj
  · rename_i e
    rw [if_neg e]
    exact h.2 j Q hj⟩
theorem Sl.none (h : Sl G σ δ) : Sl G σ (δ.set k Option.none) := ⟨by simp [h.1], fun j Q hj => by
  rw [List.getElem?_set] at hj
  split at hj
  · split at hj <;> cases hj
  · exact h.2 j Q hj⟩
theorem Sl.none2 (h : Sl G σ δ) : Sl G (σ.set k Option.none) (δ.set k Option.none) := ⟨by simp [h.1], fun j Q hj => by
  rw [List.getElem?_set] at hj ⊢
  split at hj
  · split at hj <;> cases hj
  · rename_i e
    rw [if_neg e]
    exact h.2 j Q hj⟩
/-- less is known of the slots -/
def Le (δ δ' : En) : Prop := δ.length = δ'.length ∧ ∀ (k : Nat) (P : Pr), δ'[k]? = some (some P) → ∃ P0 : Pr, δ[k]? = some (some P0) ∧ ∀ G v, P0.p G v → P.p G v
theorem Sl.le (h : Sl G σ δ) (l : Le δ δ') : Sl G σ δ' := ⟨h.1.trans l.1, fun k P hk => by
  obtain ⟨P0, h1, h2⟩ := l.2 k P hk
  obtain ⟨v, h3, h4⟩ := h.2 k P0 h1
  exact ⟨v, h3, h2 _ _ h4⟩⟩
theorem Le.nil : Le [] [] := ⟨rfl, fun k P h => by simp at h⟩
theorem Le.same {p : Option Pr} (l : Le δ δ') : Le (p :: δ) (p :: δ') := ⟨by simp [l.1], fun k P h => by
  cases k with
  | zero => exact ⟨P, h, fun _ _ z => z⟩
  | succ k => exact l.2 k P h⟩
theorem Le.drop {p : Option Pr} (l : Le δ δ') : Le (p :: δ) (Option.none :: δ') := ⟨by simp [l.1], fun k P h => by
  cases k with
  | zero => cases h
  | succ k => exact l.2 k P h⟩
theorem Le.imp {p p' : Pr} (hp : ∀ G v, p.p G v → p'.p G v) (l : Le δ δ') : Le (some p :: δ) (some p' :: δ') := ⟨by simp [l.1], fun k P h => by
  cases k with
  | zero => cases h; exact ⟨p, rfl, hp⟩
  | succ k => exact l.2 k P h⟩
theorem Le.refl : ∀ δ : En, Le δ δ := fun δ => ⟨rfl, fun k P h => ⟨P, h, fun _ _ z => z⟩⟩
def wipeY (δ : En) : List Nat → En
  | [] => δ
  | v :: vs => (wipeY δ vs).set v Option.none
theorem Sl.wipe (h : Sl G σ δ) : ∀ vs : List Nat, Sl G (L2.wipe σ vs) (wipeY δ vs)
  | [] => h
  | _ :: vs => (Sl.wipe h vs).none2
theorem wipe_get {σ : L2.St} {j : Nat} : ∀ {vs : List Nat}, (wipe σ vs)[j]? = if j ∈ vs ∧ j < σ.length then some Option.none else σ[j]?
  | [] => by simp [wipe]
  | v :: vs => by
    unfold wipe
    rw [List.getElem?_set, wipe_get (vs := vs)]
    by_cases h : v = j
    · subst h
      by_cases hl : v < σ.length
      · simp [wipe_length, hl]
      · simp [wipe_length, hl, Nat.not_lt.mp hl]
    · simp [h, Ne.symm h]
/-- slots that differ only at these -/
def Same (σ σ' : L2.St) (vs : List Nat) : Prop := σ'.length = σ.length ∧ ∀ j, j ∉ vs → σ'[j]? = σ[j]?
theorem Same.refl (σ : L2.St) (vs : List Nat) : Same σ σ vs := ⟨rfl, fun _ _ => rfl⟩
theorem Same.trans {σ σ1 σ2 : L2.St} {vs : List Nat} (a : Same σ σ1 vs) (b : Same σ1 σ2 vs) : Same σ σ2 vs := ⟨b.1.trans a.1, fun j h => (b.2 j h).trans (a.2 j h)⟩
theorem Same.set {σ : L2.St} {vs : List Nat} {x : Option V} (h : k ∈ vs) : Same σ (σ.set k x) vs := ⟨by simp, fun j hj => List.getElem?_set_ne fun e => hj (by rw [← e]; exact h)⟩
theorem Same.wipe {σ σ' : L2.St} {vs : List Nat} (h : Same σ σ' vs) : wipe σ' vs = wipe σ vs := by
  apply List.ext_getElem?
  intro j
  rw [wipe_get, wipe_get, h.1]
  by_cases hj : j ∈ vs
  · by_cases hl : j < σ.length
    · simp [hj, hl]
    · have : σ'.length ≤ j := by rw [h.1]; omega
      simp [hj, hl, List.getElem?_eq_none this, List.getElem?_eq_none (Nat.not_lt.mp hl)]
  · simp [hj, h.2 j hj]
theorem wipe_wipe {σ : L2.St} {vs : List Nat} : wipe (wipe σ vs) vs = wipe σ vs := by
  apply List.ext_getElem?
  intro j
  rw [wipe_get, wipe_get, wipe_length]
  split <;> rfl
theorem Mm.mono : ∀ {M : Mem} {μ : Mp}, Mm G M μ → Ex G G' → Mm G' M μ
  | [], [], _, _ => trivial
  | _ :: _, q :: _, h, e => ⟨⟨h.1.1, q.2.m _ _ _ e h.1.2⟩, Mm.mono h.2 e⟩
  | [], _ :: _, h, _ => h.elim
  | _ :: _, [], h, _ => h.elim
theorem Mm.app : ∀ {M1 : Mem} {μ1 : Mp}, Mm G M1 μ1 → Mm G M2 μ2 → Mm G (M1 ++ M2) (μ1 ++ μ2)
  | [], [], _, h => h
  | _ :: _, _ :: _, h, h2 => ⟨h.1, Mm.app h.2 h2⟩
  | [], _ :: _, h, _ => h.elim
  | _ :: _, [], h, _ => h.elim
theorem Mm.cut : ∀ {μ1 : Mp} {M : Mem}, Mm G M (μ1 ++ μ2) → ∃ M1 M2, M = M1 ++ M2 ∧ Mm G M1 μ1 ∧ Mm G M2 μ2
  | [], M, h => ⟨[], M, rfl, trivial, h⟩
  | _ :: _, [], h => h.elim
  | _ :: _, m :: M, h => by
    obtain ⟨M1, M2, rfl, h1, h2⟩ := Mm.cut h.2
    exact ⟨m :: M1, M2, rfl, ⟨h.1, h1⟩, h2⟩
theorem Mm.get {a : Addr} {q : Ob} : ∀ {μ : Mp} {M : Mem} {i : Nat}, Mm G M μ → μ[i]? = some (a, q) → ∃ o, M[i]? = some (a, o) ∧ q.p G o
  | [], [], _, _, h => by simp at h
  | [], _ :: _, _, h, _ => h.elim
  | _ :: _, [], _, h, _ => h.elim
  | _ :: _, m :: _, 0, h, e => by
    cases e
    obtain ⟨b, o⟩ := m
    obtain ⟨⟨rfl, h2⟩, _⟩ := h
    exact ⟨o, rfl, h2⟩
  | _ :: _, _ :: _, i + 1, h, e => Mm.get (i := i) h.2 e
theorem Mm.set {a : Addr} {q q' : Ob} {o : HO} (hq : q'.p G o) : ∀ {μ : Mp} {M : Mem} {i : Nat}, Mm G M μ → μ[i]? = some (a, q) → Mm G (M.set i (a, o)) (μ.set i (a, q'))
  | [], [], _, _, h => by simp at h
  | [], _ :: _, _, h, _ => h.elim
  | _ :: _, [], _, h, _ => h.elim
  | _ :: _, _ :: _, 0, h, _ => ⟨⟨rfl, hq⟩, h.2⟩
  | _ :: _, _ :: _, i + 1, h, e => ⟨h.1, Mm.set hq (i := i) h.2 e⟩
theorem Mm.sub : ∀ {μ' μ : Mp}, μ'.Sublist μ → ∀ {M : Mem}, Mm G M μ → ∃ M', M'.Sublist M ∧ Mm G M' μ'
  | _, _, .slnil, [], h => ⟨[], .slnil, h⟩
  | _, _, .slnil, _ :: _, h => h.elim
  | _, _, .cons _ s, [], h => h.elim
  | _, _, .cons _ s, _ :: _, h => by
    obtain ⟨M', h1, h2⟩ := Mm.sub s h.2
    exact ⟨M', h1.cons _, h2⟩
  | _, _, .cons_cons _ s, [], h => h.elim
  | _, _, .cons_cons _ s, m :: _, h => by
    obtain ⟨M', h1, h2⟩ := Mm.sub s h.2
    exact ⟨m :: M', h1.cons_cons _, h.1, h2⟩
theorem Mm.sing {a : Addr} {q : Ob} (h : Mm G M [(a, q)]) : ∃ o, M = [(a, o)] ∧ q.p G o := by
  match M, h with
  | [(b, o)], h =>
    obtain ⟨⟨rfl, h2⟩, _⟩ := h
    exact ⟨o, rfl, h2⟩
theorem Mm.nil (h : Mm G M []) : M = [] := by
  match M, h with
  | [], _ => rfl
theorem AP.mono : ∀ {Ps : List Pr} {vs : List V}, AP G Ps vs → Ex G G' → AP G' Ps vs
  | [], [], _, _ => trivial
  | P :: _, _ :: _, h, e => ⟨P.m _ _ _ e h.1, AP.mono h.2 e⟩
  | [], _ :: _, h, _ => h.elim
  | _ :: _, [], h, _ => h.elim
theorem AP.len : ∀ {Ps : List Pr} {vs : List V}, AP G Ps vs → vs.length = Ps.length
  | [], [], _ => rfl
  | _ :: _, _ :: _, h => by simp [AP.len h.2]
  | [], _ :: _, h => h.elim
  | _ :: _, [], h => h.elim
theorem AP.get : ∀ {Ps : List Pr} {vs : List V} {i : Nat} {P : Pr}, AP G Ps vs → Ps[i]? = some P → ∃ v, vs[i]? = some v ∧ P.p G v
  | [], _, _, _, _, e => by simp at e
  | _ :: _, [], _, _, h, _ => h.elim
  | _ :: _, v :: _, 0, _, h, e => by cases e; exact ⟨v, rfl, h.1⟩
  | _ :: _, _ :: _, i + 1, _, h, e => AP.get (i := i) h.2 e
theorem AP.dpa {K : PySem.W.Frag} : ∀ {ds : List PyData} {vs : List V}, AP G (ds.map (D K)) vs → DpAll K G vs ds
  | [], [], _ => .nil
  | _ :: _, _ :: _, h => .cons h.1 (AP.dpa h.2)
  | [], _ :: _, h => h.elim
  | _ :: _, [], h => h.elim
end
def E1 (te : TE) (δ : En) (μ : Mp) (P : Pr) (μ' : Mp) : Prop := ∀ σ G M, Sl G σ δ → Mm G M μ → Ev te σ G M (fun G' v M' => P.p G' v ∧ Mm G' M' μ')
def EY (te : TE) (δ : En) (μ : Mp) (R : Pr → Mp → Prop) : Prop := ∀ σ G M, Sl G σ δ → Mm G M μ → Ev te σ G M (fun G' v M' => ∃ P μ', R P μ' ∧ P.p G' v ∧ Mm G' M' μ')
def T1 (tt : TT) (δ : En) (μ : Mp) (b : Bool) (μ' : Mp) : Prop := ∀ σ G M, Sl G σ δ → Mm G M μ → ∀ G1 H F, Ex G G1 → Me G1 (M ++ F) H → ∀ Q : Bool → Hp → Prop, (∀ G2 M2 H2, Ex G1 G2 → Me G2 (M2 ++ F) H2 → Mm G2 M2 μ' → Q b H2) → tt σ H Q
def EA (ta : TA) (δ : En) (μ : Mp) (Ps : List Pr) (μ' : Mp) : Prop := ∀ σ G M, Sl G σ δ → Mm G M μ → ∀ G1 H F, Ex G G1 → Me G1 (M ++ F) H → ∀ Q : List V → Hp → Prop, (∀ vs G2 M2 H2, Ex G1 G2 → Me G2 (M2 ++ F) H2 → AP G2 Ps vs → Mm G2 M2 μ' → Q vs H2) → ta σ H Q
/-- a new list, owned -/
def EO (K : PySem.W.Frag) (te : TE) (δ : En) (μ : Mp) (ds : List PyData) (μ' : Mp) : Prop := ∀ σ G M, Sl G σ δ → Mm G M μ → Ev te σ G M (fun G' v M' => ∃ p vs M0, v = .ref p ∧ M' = M0 ++ [(p, .lst vs)] ∧ DpAll K G' vs ds ∧ Mm G' M0 μ')
/-- a list (tuple) that can be read -/
def LR (K : PySem.W.Frag) (P : Pr) (μ : Mp) (ds : List PyData) : Prop := ∀ G v M, P.p G v → Mm G M μ → ∃ a xs, v = .ref a ∧ AtL K G M a xs ∧ DpAll K G xs ds
theorem LR.at {K : PySem.W.Frag} {P : Pr} {μ : Mp} {ds : List PyData} (h : LR K P μ ds) (G : Hp) (v : V) (M F : Mem) (H : Hp) (p : P.p G v) (mm : Mm G M μ) (m : Me G (M ++ F) H) : ∃ a xs, v = .ref a ∧ SqL K H a xs ∧ DpAll K G xs ds := by
  obtain ⟨a, xs, h1, h2, h3⟩ := h G v M p mm
  exact ⟨a, xs, h1, h2 G H F (Ex.refl _) m, h3⟩
/-- data that can be read -/
def DR (K : PySem.W.Frag) (P : Pr) (μ : Mp) (d : PyData) : Prop := ∀ G v M F H, P.p G v → Mm G M μ → Me G (M ++ F) H → Dp K H v d
section
variable {K : PySem.W.Frag} {te ta tb tc : TE} {tt tu : TT} {tA tr : TA} {δ δ' : En} {μ μ' μ0 μ1 μ2 μ3 : Mp} {P P1 P2 P3 : Pr} {Ps : List Pr} {R : Pr → Mp → Prop} {d e : PyData} {ds es : List PyData} {i j : Int} {a b c : Bool} {k : Nat} {ad : Addr} {s t : Str}
theorem lr_D : LR K (D K (.list ds)) μ ds := fun G v M p _ => by
  obtain ⟨a, xs, rfl, h1, h2⟩ := dp_lst p
  exact ⟨a, xs, rfl, .G h1, h2⟩
theorem lr_O (i : Nat) (h : μ[i]? = some (ad, OL K ds)) : LR K (Av ad) μ ds := fun G v M p mm => by
  obtain ⟨o, h1, vs, rfl, h2⟩ := mm.get h
  exact ⟨ad, vs, p, .M h1, h2⟩
theorem dr_D : DR K (D K d) μ d := fun G v M F H p _ m => dm p m.ex
theorem dr_L (h : LR K P μ ds) : DR K P μ (.list ds) := fun G v M F H p mm m => by
  obtain ⟨a, xs, rfl, h1, h2⟩ := h.at G v M F H p mm m
  exact .lst h1 (dma h2 m.ex)
theorem E1.imp (h : E1 te δ μ P μ') (f : ∀ G v, P.p G v → P1.p G v) : E1 te δ μ P1 μ' := fun σ G M s m => (h σ G M s m).imp fun G1 v M1 _ r => ⟨f _ _ r.1, r.2⟩
theorem E1.le (h : E1 te δ' μ P μ') (l : Le δ δ') : E1 te δ μ P μ' := fun σ G M s m => h σ G M (s.le l) m
theorem E1.y (h : E1 te δ μ P μ') : EY te δ μ (fun Q μ2 => Q = P ∧ μ2 = μ') := fun σ G M s m => (h σ G M s m).imp fun G1 v M1 _ r => ⟨P, μ', ⟨rfl, rfl⟩, r.1, r.2⟩
theorem EY.one (h : EY te δ μ (fun Q μ2 => Q = P ∧ μ2 = μ')) : E1 te δ μ P μ' := fun σ G M s m => (h σ G M s m).imp fun G1 v M1 _ r => by
  obtain ⟨_, _, ⟨rfl, rfl⟩, r1, r2⟩ := r
  exact ⟨r1, r2⟩
theorem EY.imp {R' : Pr → Mp → Prop} (h : EY te δ μ R) (f : ∀ P μ', R P μ' → R' P μ') : EY te δ μ R' := fun σ G M s m => (h σ G M s m).imp fun G1 v M1 _ r => by
  obtain ⟨P, μ', r0, r1, r2⟩ := r
  exact ⟨P, μ', f _ _ r0, r1, r2⟩
theorem EO.own (h : EO K te δ μ ds μ') : EY te δ μ (fun P μ2 => ∃ a, P = Av a ∧ μ2 = μ' ++ [(a, OL K ds)]) := fun σ G M s m => (h σ G M s m).imp fun G1 v M1 _ r => by
  obtain ⟨p, vs, M0, rfl, rfl, r1, r2⟩ := r
  exact ⟨Av p, _, ⟨p, rfl, rfl⟩, rfl, Mm.app r2 ⟨⟨rfl, vs, rfl, r1⟩, trivial⟩⟩
theorem EO.frz (h : EO K te δ μ ds μ') : E1 te δ μ (D K (.list ds)) μ' := fun σ G M s m G1 H F e m1 Q q => (h σ G M s m) G1 H F e m1 Q fun v G2 M2 H2 e2 m2 r => by
  obtain ⟨p, vs, M0, rfl, rfl, r1, r2⟩ := r
  obtain ⟨m3, e3⟩ := m2.freezeLast
  exact q _ _ M0 H2 (e2.trans e3) m3 ⟨.lst (SqL.of upd_same) (dma r1 e3), r2.mono e3⟩
theorem e_var (h : δ[k]? = some (some P)) : E1 (tVar k) δ μ P μ := fun σ G M s m G1 H F e m1 Q q => by
  obtain ⟨v, h1, h2⟩ := s.get h
  exact ⟨v, h1, q v G1 M H (Ex.refl _) m1 ⟨P.m _ _ _ e h2, m.mono e⟩⟩
theorem e_cst {x : V} (h : ∀ G, P.p G x) : E1 (tC x) δ μ P μ := fun σ G M s m G1 H F e m1 Q q => q x G1 M H (Ex.refl _) m1 ⟨h _, m.mono e⟩
theorem e_cI : E1 (tC (.int i)) δ μ (D K (.int i)) μ := e_cst fun _ => .int i
theorem e_cS : E1 (tC (.str s)) δ μ (D K (.str s)) μ := e_cst fun _ => .str s
theorem e_cB : E1 (tC (.bl b)) δ μ (D K (.bool b)) μ := e_cst fun _ => .bl b
theorem e_cN : E1 (tC .non) δ μ (D K .none) μ := e_cst fun _ => .non
/-- one, another, an operation on both -/
theorem e_op {r : R2} (h1 : E1 ta δ μ P1 μ1) (h2 : E1 tb δ μ1 P2 μ2) (hr : ∀ G H F M x y, Me G (M ++ F) H → Mm G M μ2 → P1.p G x → P2.p G y → ∀ Q : VK, (∀ v G2 M2 H2, Ex G G2 → Me G2 (M2 ++ F) H2 → P.p G2 v → Mm G2 M2 μ3 → Q v H2) → r x y H Q) : E1 (tOp r ta tb) δ μ P μ3 := fun σ G M s m G1 H F e m1 Q q =>
  h1 σ G M s m G1 H F e m1 _ fun x G2 M2 H2 e2 m2 r2 => h2 σ G2 M2 (s.mono (e.trans e2)) r2.2 G2 H2 F (Ex.refl _) m2 _ fun y G3 M3 H3 e3 m3 r3 =>
    hr G3 H3 F M3 x y m3 r3.2 (P1.m _ _ _ e3 r2.1) r3.1 Q fun v G4 M4 H4 e4 m4 p4 mm4 => q v G4 M4 H4 ((e2.trans e3).trans e4) m4 ⟨p4, mm4⟩
/-- .. by values -/
theorem e_opD {r : R2} (h1 : E1 ta δ μ (D K d) μ1) (h2 : E1 tb δ μ1 (D K e) μ2) (hr : ∀ G H x y, Dp K G x d → Dp K G y e → ∀ Q : VK, (∀ v, P.p G v → Q v H) → r x y H Q) : E1 (tOp r ta tb) δ μ P μ2 :=
  e_op h1 h2 fun G H F M x y m mm p1 p2 Q q => hr G H x y p1 p2 Q fun v pv => q v G M H (Ex.refl _) m pv mm
theorem e_I {C : Int → Int → Prop} {g : Int → Int → V} (h1 : E1 ta δ μ (D K (.int i)) μ1) (h2 : E1 tb δ μ1 (D K (.int j)) μ2) (hc : C i j) (hg : ∀ G, P.p G (g i j)) : E1 (tOp (rI C g) ta tb) δ μ P μ2 :=
  e_opD h1 h2 fun G H x y p1 p2 Q q => by
    rw [dp_int p1, dp_int p2]
    exact ⟨i, j, rfl, rfl, hc, q _ (hg G)⟩
theorem e_I0 {g : Int → Int → V} (h1 : E1 ta δ μ (D K (.int i)) μ1) (h2 : E1 tb δ μ1 (D K (.int j)) μ2) (hg : ∀ G, P.p G (g i j)) : E1 (tOp (rI0 g) ta tb) δ μ P μ2 :=
  e_opD h1 h2 fun G H x y p1 p2 Q q => by
    rw [dp_int p1, dp_int p2]
    exact ⟨i, j, rfl, rfl, q _ (hg G)⟩
theorem e_add (h1 : E1 ta δ μ (D K (.int i)) μ1) (h2 : E1 tb δ μ1 (D K (.int j)) μ2) : E1 (tOp (rI0 fun i j => .int (i + j)) ta tb) δ μ (D K (.int (i + j))) μ2 := e_I0 h1 h2 fun _ => .int _
theorem e_sub (h1 : E1 ta δ μ (D K (.int i)) μ1) (h2 : E1 tb δ μ1 (D K (.int j)) μ2) : E1 (tOp (rI0 fun i j => .int (i - j)) ta tb) δ μ (D K (.int (i - j))) μ2 := e_I0 h1 h2 fun _ => .int _
theorem e_mul (h1 : E1 ta δ μ (D K (.int i)) μ1) (h2 : E1 tb δ μ1 (D K (.int j)) μ2) (hc : CMul i j) : E1 (tOp (rI CMul fun i j => .int (i * j)) ta tb) δ μ (D K (.int (i * j))) μ2 := e_I h1 h2 hc fun _ => .int _
theorem e_mulW (h1 : E1 ta δ μ (D K (.int i)) μ1) (h2 : E1 tb δ μ1 (D K (.int j)) μ2) (hc : CMulW i j) : E1 (tOp (rI CMulW fun i j => .int (i * j)) ta tb) δ μ (D K (.int (i * j))) μ2 := e_I h1 h2 hc fun _ => .int _
theorem e_mod (h1 : E1 ta δ μ (D K (.int i)) μ1) (h2 : E1 tb δ μ1 (D K (.int j)) μ2) (hc : 0 < j) : E1 (tOp (rI (fun _ j => 0 < j) fun i j => .int (i % j)) ta tb) δ μ (D K (.int (i % j))) μ2 := e_I h1 h2 hc fun _ => .int _
theorem e_div (h1 : E1 ta δ μ (D K (.int i)) μ1) (h2 : E1 tb δ μ1 (D K (.int j)) μ2) (hc : CDivW i j) : E1 (tOp (rI CDivW fun i j => .int (i / j)) ta tb) δ μ (D K (.int (i / j))) μ2 := e_I h1 h2 hc fun _ => .int _
theorem e_pow (h1 : E1 ta δ μ (D K (.int i)) μ1) (h2 : E1 tb δ μ1 (D K (.int j)) μ2) (hc : CPow i j) : E1 (tOp (rI CPow fun i j => .int (i ^ j.toNat)) ta tb) δ μ (D K (.int (i ^ j.toNat))) μ2 := e_I h1 h2 hc fun _ => .int _
theorem e_lt (h1 : E1 ta δ μ (D K (.int i)) μ1) (h2 : E1 tb δ μ1 (D K (.int j)) μ2) : E1 (tOp (rI0 fun i j => .bl (decide (i < j))) ta tb) δ μ (D K (.bool (decide (i < j)))) μ2 := e_I0 h1 h2 fun _ => .bl _
theorem e_le (h1 : E1 ta δ μ (D K (.int i)) μ1) (h2 : E1 tb δ μ1 (D K (.int j)) μ2) : E1 (tOp (rI0 fun i j => .bl (decide (i ≤ j))) ta tb) δ μ (D K (.bool (decide (i ≤ j)))) μ2 := e_I0 h1 h2 fun _ => .bl _
theorem e_gt (h1 : E1 ta δ μ (D K (.int i)) μ1) (h2 : E1 tb δ μ1 (D K (.int j)) μ2) : E1 (tOp (rI0 fun i j => .bl (decide (j < i))) ta tb) δ μ (D K (.bool (decide (j < i)))) μ2 := e_I0 h1 h2 fun _ => .bl _
theorem e_ge (h1 : E1 ta δ μ (D K (.int i)) μ1) (h2 : E1 tb δ μ1 (D K (.int j)) μ2) : E1 (tOp (rI0 fun i j => .bl (decide (j ≤ i))) ta tb) δ μ (D K (.bool (decide (j ≤ i)))) μ2 := e_I0 h1 h2 fun _ => .bl _
theorem e_eqI (h1 : E1 ta δ μ (D K (.int i)) μ1) (h2 : E1 tb δ μ1 (D K (.int j)) μ2) : E1 (tOp rEq ta tb) δ μ (D K (.bool (decide (i = j)))) μ2 :=
  e_opD h1 h2 fun G H x y p1 p2 Q q => by
    rw [dp_int p1, dp_int p2]
    exact ⟨rfl, q _ (by rw [show decide (V.int i = V.int j) = decide (i = j) by rw [decide_eq_decide]; exact ⟨fun h => by cases h; rfl, fun h => by rw [h]⟩]; exact .bl _)⟩
theorem e_neI (h1 : E1 ta δ μ (D K (.int i)) μ1) (h2 : E1 tb δ μ1 (D K (.int j)) μ2) : E1 (tOp rNe ta tb) δ μ (D K (.bool (!decide (i = j)))) μ2 :=
  e_opD h1 h2 fun G H x y p1 p2 Q q => by
    rw [dp_int p1, dp_int p2]
    exact ⟨rfl, q _ (by rw [show decide (V.int i = V.int j) = decide (i = j) by rw [decide_eq_decide]; exact ⟨fun h => by cases h; rfl, fun h => by rw [h]⟩]; exact .bl _)⟩
theorem e_eqS (h1 : E1 ta δ μ (D K (.str s)) μ1) (h2 : E1 tb δ μ1 (D K (.str t)) μ2) : E1 (tOp rEq ta tb) δ μ (D K (.bool (decide (s = t)))) μ2 :=
  e_opD h1 h2 fun G H x y p1 p2 Q q => by
    rw [dp_str p1, dp_str p2]
    exact ⟨rfl, q _ (by rw [show decide (V.str s = V.str t) = decide (s = t) by rw [decide_eq_decide]; exact ⟨fun h => by cases h; rfl, fun h => by rw [h]⟩]; exact .bl _)⟩
theorem e_neS (h1 : E1 ta δ μ (D K (.str s)) μ1) (h2 : E1 tb δ μ1 (D K (.str t)) μ2) : E1 (tOp rNe ta tb) δ μ (D K (.bool (!decide (s = t)))) μ2 :=
  e_opD h1 h2 fun G H x y p1 p2 Q q => by
    rw [dp_str p1, dp_str p2]
    exact ⟨rfl, q _ (by rw [show decide (V.str s = V.str t) = decide (s = t) by rw [decide_eq_decide]; exact ⟨fun h => by cases h; rfl, fun h => by rw [h]⟩]; exact .bl _)⟩
/-- scalars of unlike kinds are unlike -/
theorem e_eqNS (h1 : E1 ta δ μ (D K .none) μ1) (h2 : E1 tb δ μ1 (D K (.str t)) μ2) : E1 (tOp rEq ta tb) δ μ (D K (.bool false)) μ2 :=
  e_opD h1 h2 fun G H x y p1 p2 Q q => by
    rw [dp_non p1, dp_str p2]
    exact ⟨rfl, q _ (.bl _)⟩
theorem e_eqIS (h1 : E1 ta δ μ (D K (.int i)) μ1) (h2 : E1 tb δ μ1 (D K (.str t)) μ2) : E1 (tOp rEq ta tb) δ μ (D K (.bool false)) μ2 :=
  e_opD h1 h2 fun G H x y p1 p2 Q q => by
    rw [dp_int p1, dp_str p2]
    exact ⟨rfl, q _ (.bl _)⟩
theorem e_eqB (h1 : E1 ta δ μ (D K (.bool a)) μ1) (h2 : E1 tb δ μ1 (D K (.bool b)) μ2) : E1 (tOp rEq ta tb) δ μ (D K (.bool (decide (a = b)))) μ2 :=
  e_opD h1 h2 fun G H x y p1 p2 Q q => by
    rw [dp_bl p1, dp_bl p2]
    exact ⟨rfl, q _ (by rw [show decide (V.bl a = V.bl b) = decide (a = b) by rw [decide_eq_decide]; exact ⟨fun h => by cases h; rfl, fun h => by rw [h]⟩]; exact .bl _)⟩
theorem e_eqD (h1 : E1 ta δ μ P1 μ1) (h2 : E1 tb δ μ1 P2 μ2) (r1 : DR K P1 μ2 d) (r2 : DR K P2 μ2 e) (s1 : SeqAt.shaped d = true) (s2 : SeqAt.shaped e = true) (hb : PyData.eqv d e = b) : E1 (tOp (rEqD K) ta tb) δ μ (D K (.bool b)) μ2 :=
  e_op h1 h2 fun G H F M x y m mm p1 p2 Q q => ⟨d, e, r1 G x M F H p1 mm m, r2 G y M F H p2 mm m, s1, s2, by rw [hb]; exact q _ G M H (Ex.refl _) m (.bl _) mm⟩
theorem e_neD (h1 : E1 ta δ μ P1 μ1) (h2 : E1 tb δ μ1 P2 μ2) (r1 : DR K P1 μ2 d) (r2 : DR K P2 μ2 e) (s1 : SeqAt.shaped d = true) (s2 : SeqAt.shaped e = true) (hb : PyData.eqv d e = b) : E1 (tOp (rNeD K) ta tb) δ μ (D K (.bool (!b))) μ2 :=
  e_op h1 h2 fun G H F M x y m mm p1 p2 Q q => ⟨d, e, r1 G x M F H p1 mm m, r2 G y M F H p2 mm m, s1, s2, by rw [hb]; exact q _ G M H (Ex.refl _) m (.bl _) mm⟩
theorem e_inD (h1 : E1 ta δ μ P1 μ1) (h2 : E1 tb δ μ1 P2 μ2) (r1 : DR K P1 μ2 d) (r2 : DR K P2 μ2 (.list ds)) (s1 : SeqAt.shaped d = true) (s2 : SeqAt.shaped (.list ds) = true) (hb : (ds.any fun z => PyData.eqv z d) = b) : E1 (tOp (rInD K) ta tb) δ μ (D K (.bool b)) μ2 :=
  e_op h1 h2 fun G H F M x y m mm p1 p2 Q q => ⟨d, ds, r1 G x M F H p1 mm m, r2 G y M F H p2 mm m, s1, s2, by rw [hb]; exact q _ G M H (Ex.refl _) m (.bl _) mm⟩
theorem e_ninD (h1 : E1 ta δ μ P1 μ1) (h2 : E1 tb δ μ1 P2 μ2) (r1 : DR K P1 μ2 d) (r2 : DR K P2 μ2 (.list ds)) (s1 : SeqAt.shaped d = true) (s2 : SeqAt.shaped (.list ds) = true) (hb : (ds.any fun z => PyData.eqv z d) = b) : E1 (tOp (rNotInD K) ta tb) δ μ (D K (.bool (!b))) μ2 :=
  e_op h1 h2 fun G H F M x y m mm p1 p2 Q q => ⟨d, ds, r1 G x M F H p1 mm m, r2 G y M F H p2 mm m, s1, s2, by rw [hb]; exact q _ G M H (Ex.refl _) m (.bl _) mm⟩
def isNon : PyData → Bool
  | .none => true
  | _ => false
theorem dp_isNon {G : Hp} {v : V} (h : Dp K G v d) : decide (v = .non) = isNon d := by cases h <;> rfl
theorem e_un {r : V → Hp → VK → Prop} (h : E1 ta δ μ P1 μ1) (hr : ∀ G H F M x, Me G (M ++ F) H → Mm G M μ1 → P1.p G x → ∀ Q : VK, (∀ v G2 M2 H2, Ex G G2 → Me G2 (M2 ++ F) H2 → P.p G2 v → Mm G2 M2 μ2 → Q v H2) → r x H Q) : E1 (tUn r ta) δ μ P μ2 := fun σ G M s m G1 H F e m1 Q q =>
  h σ G M s m G1 H F e m1 _ fun x G2 M2 H2 e2 m2 r2 => hr G2 H2 F M2 x m2 r2.2 r2.1 Q fun v G4 M4 H4 e4 m4 p4 mm4 => q v G4 M4 H4 (e2.trans e4) m4 ⟨p4, mm4⟩
theorem e_neg (h : E1 ta δ μ (D K (.int i)) μ1) : E1 (tUn (rU fun i => .int (-i)) ta) δ μ (D K (.int (-i))) μ1 := e_un h fun G H F M x m mm p Q q => by
  rw [dp_int p]
  exact ⟨i, rfl, q _ G M H (Ex.refl _) m (.int _) mm⟩
theorem e_isN (h : E1 ta δ μ (D K d) μ1) : E1 (tIsN ta) δ μ (D K (.bool (isNon d))) μ1 := fun σ G M s m G1 H F e m1 Q q => h σ G M s m G1 H F e m1 _ fun x G2 M2 H2 e2 m2 r2 => q _ G2 M2 H2 e2 m2 ⟨by rw [dp_isNon r2.1]; exact .bl _, r2.2⟩
theorem e_notN (h : E1 ta δ μ (D K d) μ1) : E1 (tNotN ta) δ μ (D K (.bool (!isNon d))) μ1 := fun σ G M s m G1 H F e m1 Q q => h σ G M s m G1 H F e m1 _ fun x G2 M2 H2 e2 m2 r2 => q _ G2 M2 H2 e2 m2 ⟨by rw [dp_isNon r2.1]; exact .bl _, r2.2⟩
theorem e_isNP (h : E1 ta δ μ P μ1) (hn : ∀ G v, P.p G v → v ≠ .non) : E1 (tIsN ta) δ μ (D K (.bool false)) μ1 := fun σ G M s m G1 H F e m1 Q q => h σ G M s m G1 H F e m1 _ fun x G2 M2 H2 e2 m2 r2 => q _ G2 M2 H2 e2 m2 ⟨by rw [decide_eq_false (hn _ _ r2.1)]; exact .bl _, r2.2⟩
theorem e_and (h1 : E1 ta δ μ (D K (.bool a)) μ1) (h2 : a = true → E1 tb δ μ1 (D K (.bool b)) μ1) : E1 (tAndV ta tb) δ μ (D K (.bool (a && b))) μ1 := fun σ G M s m G1 H F e m1 Q q => h1 σ G M s m G1 H F e m1 _ fun x G2 M2 H2 e2 m2 r2 => by
  rw [dp_bl r2.1]
  refine ⟨a, rfl, ?_⟩
  cases a with
  | true =>
    rw [if_pos rfl]
    exact h2 rfl σ G2 M2 (s.mono (e.trans e2)) r2.2 G2 H2 F (Ex.refl _) m2 Q fun v G3 M3 H3 e3 m3 r3 => q v G3 M3 H3 (e2.trans e3) m3 r3
  | false =>
    rw [if_neg Bool.false_ne_true]
    exact q _ G2 M2 H2 e2 m2 ⟨.bl false, r2.2⟩
theorem e_or (h1 : E1 ta δ μ (D K (.bool a)) μ1) (h2 : a = false → E1 tb δ μ1 (D K (.bool b)) μ1) : E1 (tOrV ta tb) δ μ (D K (.bool (a || b))) μ1 := fun σ G M s m G1 H F e m1 Q q => h1 σ G M s m G1 H F e m1 _ fun x G2 M2 H2 e2 m2 r2 => by
  rw [dp_bl r2.1]
  refine ⟨a, rfl, ?_⟩
  cases a with
  | true =>
    rw [if_pos rfl]
    exact q _ G2 M2 H2 e2 m2 ⟨.bl true, r2.2⟩
  | false =>
    rw [if_neg Bool.false_ne_true]
    exact h2 rfl σ G2 M2 (s.mono (e.trans e2)) r2.2 G2 H2 F (Ex.refl _) m2 Q fun v G3 M3 H3 e3 m3 r3 => q v G3 M3 H3 (e2.trans e3) m3 r3
theorem e_not (h1 : E1 ta δ μ (D K (.bool a)) μ1) : E1 (tNotV ta) δ μ (D K (.bool (!a))) μ1 := fun σ G M s m G1 H F e m1 Q q => h1 σ G M s m G1 H F e m1 _ fun x G2 M2 H2 e2 m2 r2 => by
  rw [dp_bl r2.1]
  exact ⟨a, rfl, q _ G2 M2 H2 e2 m2 ⟨.bl _, r2.2⟩⟩
theorem t_B (h : E1 te δ μ (D K (.bool a)) μ1) : T1 (tB te) δ μ a μ1 := fun σ G M s m G1 H F e m1 Q q => h σ G M s m G1 H F e m1 _ fun x G2 M2 H2 e2 m2 r2 => by
  rw [dp_bl r2.1]
  exact ⟨a, rfl, q G2 M2 H2 e2 m2 r2.2⟩
theorem t_test (h : E1 te δ μ (D K (.bool a)) μ1) : T1 (tTest te) δ μ a μ1 := fun σ G M s m G1 H F e m1 Q q => h σ G M s m G1 H F e m1 _ fun x G2 M2 H2 e2 m2 r2 => by
  rw [dp_bl r2.1]
  exact ⟨a, rfl, q G2 M2 H2 e2 m2 r2.2⟩
theorem t_yes : T1 tYes δ μ true μ := fun σ G M s m G1 H F e m1 Q q => q G1 M H (Ex.refl _) m1 (m.mono e)
theorem t_not (h : T1 tt δ μ a μ1) : T1 (tNot tt) δ μ (!a) μ1 := fun σ G M s m G1 H F e m1 Q q => h σ G M s m G1 H F e m1 _ fun G2 M2 H2 e2 m2 r2 => q G2 M2 H2 e2 m2 r2
theorem t_and (h1 : T1 tt δ μ a μ1) (h2 : a = true → T1 tu δ μ1 b μ1) : T1 (tAnd tt tu) δ μ (a && b) μ1 := fun σ G M s m G1 H F e m1 Q q => h1 σ G M s m G1 H F e m1 _ fun G2 M2 H2 e2 m2 r2 => by
  cases a with
  | true =>
    show (if true = true then _ else _)
    rw [if_pos rfl]
    exact h2 rfl σ G2 M2 (s.mono (e.trans e2)) r2 G2 H2 F (Ex.refl _) m2 Q fun G3 M3 H3 e3 m3 r3 => q G3 M3 H3 (e2.trans e3) m3 r3
  | false =>
    show (if false = true then _ else _)
    rw [if_neg Bool.false_ne_true]
    exact q G2 M2 H2 e2 m2 r2
theorem t_or (h1 : T1 tt δ μ a μ1) (h2 : a = false → T1 tu δ μ1 b μ1) : T1 (tOr tt tu) δ μ (a || b) μ1 := fun σ G M s m G1 H F e m1 Q q => h1 σ G M s m G1 H F e m1 _ fun G2 M2 H2 e2 m2 r2 => by
  cases a with
  | true =>
    show (if true = true then _ else _)
    rw [if_pos rfl]
    exact q G2 M2 H2 e2 m2 r2
  | false =>
    show (if false = true then _ else _)
    rw [if_neg Bool.false_ne_true]
    exact h2 rfl σ G2 M2 (s.mono (e.trans e2)) r2 G2 H2 F (Ex.refl _) m2 Q fun G3 M3 H3 e3 m3 r3 => q G3 M3 H3 (e2.trans e3) m3 r3
/-- a if t else b -/
theorem e_if (h : T1 tt δ μ a μ1) (h1 : a = true → E1 ta δ μ1 P μ2) (h2 : a = false → E1 tb δ μ1 P μ2) : E1 (tIf tt ta tb) δ μ P μ2 := fun σ G M s m G1 H F e m1 Q q => h σ G M s m G1 H F e m1 _ fun G2 M2 H2 e2 m2 r2 => by
  cases a with
  | true =>
    show (if true = true then _ else _)
    rw [if_pos rfl]
    exact h1 rfl σ G2 M2 (s.mono (e.trans e2)) r2 G2 H2 F (Ex.refl _) m2 Q fun v G3 M3 H3 e3 m3 r3 => q v G3 M3 H3 (e2.trans e3) m3 r3
  | false =>
    show (if false = true then _ else _)
    rw [if_neg Bool.false_ne_true]
    exact h2 rfl σ G2 M2 (s.mono (e.trans e2)) r2 G2 H2 F (Ex.refl _) m2 Q fun v G3 M3 H3 e3 m3 r3 => q v G3 M3 H3 (e2.trans e3) m3 r3
theorem e_ifI (h : T1 tt δ μ a μ1) (h1 : a = true → E1 ta δ μ1 (D K (.int i)) μ2) (h2 : a = false → E1 tb δ μ1 (D K (.int j)) μ2) : E1 (tIf tt ta tb) δ μ (D K (.int (if a = true then i else j))) μ2 :=
  e_if h (fun z => by rw [if_pos z]; exact h1 z) (fun z => by rw [if_neg (by rw [z]; exact Bool.false_ne_true)]; exact h2 z)
theorem e_ifD (h : T1 tt δ μ a μ1) (h1 : a = true → E1 ta δ μ1 (D K d) μ2) (h2 : a = false → E1 tb δ μ1 (D K e) μ2) : E1 (tIf tt ta tb) δ μ (D K (if a = true then d else e)) μ2 :=
  e_if h (fun z => by rw [if_pos z]; exact h1 z) (fun z => by rw [if_neg (by rw [z]; exact Bool.false_ne_true)]; exact h2 z)
theorem e_ifP (h : T1 tt δ μ a μ1) (h1 : a = true → E1 ta δ μ1 P μ2) (h2 : a = false → E1 tb δ μ1 P1 μ2) : E1 (tIf tt ta tb) δ μ (if a = true then P else P1) μ2 :=
  e_if h (fun z => by rw [if_pos z]; exact h1 z) (fun z => by rw [if_neg (by rw [z]; exact Bool.false_ne_true)]; exact h2 z)
theorem e_ifTr (h : T1 tt δ μ a μ1) (ha : a = true) (h1 : E1 ta δ μ1 P μ2) : E1 (tIf tt ta tb) δ μ P μ2 := e_if h (fun _ => h1) fun z => by rw [ha] at z; cases z
theorem e_ifFa (h : T1 tt δ μ a μ1) (ha : a = false) (h1 : E1 tb δ μ1 P μ2) : E1 (tIf tt ta tb) δ μ P μ2 := e_if h (fun z => by rw [ha] at z; cases z) fun _ => h1
theorem e_chain {r r' : R2} {p p' : Int → Int → Bool} {x y z : Int} (h1 : E1 ta δ μ (D K (.int x)) μ1) (h2 : E1 tb δ μ1 (D K (.int y)) μ2) (h3 : E1 tc δ μ2 (D K (.int z)) μ2)
    (hr : ∀ H (Q : VK), Q (.bl (p x y)) H → r (.int x) (.int y) H Q) (hr' : ∀ H (Q : VK), Q (.bl (p' y z)) H → r' (.int y) (.int z) H Q) : E1 (tChain r r' ta tb tc) δ μ (D K (.bool (p x y && p' y z))) μ2 := fun σ G M s m G1 H F e m1 Q q =>
  h1 σ G M s m G1 H F e m1 _ fun v G2 M2 H2 e2 m2 r2 => by
    rw [dp_int r2.1]
    refine h2 σ G2 M2 (s.mono (e.trans e2)) r2.2 G2 H2 F (Ex.refl _) m2 _ fun v G3 M3 H3 e3 m3 r3 => ?_
    rw [dp_int r3.1]
    refine hr _ _ ⟨_, rfl, ?_⟩
    generalize p x y = pij at q ⊢
    cases pij with
    | true =>
      show (if true = true then _ else _)
      rw [if_pos rfl]
      refine h3 σ G3 M3 (s.mono ((e.trans e2).trans e3)) r3.2 G3 H3 F (Ex.refl _) m3 _ fun v G4 M4 H4 e4 m4 r4 => ?_
      rw [dp_int r4.1]
      exact hr' _ _ (q _ G4 _ H4 ((e2.trans e3).trans e4) m4 ⟨by rw [Bool.true_and]; exact .bl _, r4.2⟩)
    | false =>
      show (if false = true then _ else _)
      rw [if_neg Bool.false_ne_true]
      exact q _ G3 _ H3 (e2.trans e3) m3 ⟨by rw [Bool.false_and]; exact .bl _, r3.2⟩
theorem e_chLeLe {x y z : Int} (h1 : E1 ta δ μ (D K (.int x)) μ1) (h2 : E1 tb δ μ1 (D K (.int y)) μ2) (h3 : E1 tc δ μ2 (D K (.int z)) μ2) : E1 (tChain (rI0 fun i j => .bl (decide (i ≤ j))) (rI0 fun i j => .bl (decide (i ≤ j))) ta tb tc) δ μ (D K (.bool (decide (x ≤ y) && decide (y ≤ z)))) μ2 :=
  e_chain (p := fun i j => decide (i ≤ j)) (p' := fun i j => decide (i ≤ j)) h1 h2 h3 (fun _ _ q => ⟨_, _, rfl, rfl, q⟩) (fun _ _ q => ⟨_, _, rfl, rfl, q⟩)
theorem e_chLeLt {x y z : Int} (h1 : E1 ta δ μ (D K (.int x)) μ1) (h2 : E1 tb δ μ1 (D K (.int y)) μ2) (h3 : E1 tc δ μ2 (D K (.int z)) μ2) : E1 (tChain (rI0 fun i j => .bl (decide (i ≤ j))) (rI0 fun i j => .bl (decide (i < j))) ta tb tc) δ μ (D K (.bool (decide (x ≤ y) && decide (y < z)))) μ2 :=
  e_chain (p := fun i j => decide (i ≤ j)) (p' := fun i j => decide (i < j)) h1 h2 h3 (fun _ _ q => ⟨_, _, rfl, rfl, q⟩) (fun _ _ q => ⟨_, _, rfl, rfl, q⟩)
theorem a_nil : EA tNil δ μ [] μ := fun σ G M s m G1 H F e m1 Q q => q [] G1 M H (Ex.refl _) m1 trivial (m.mono e)
theorem a_cons (h1 : E1 ta δ μ P μ1) (h2 : EA tr δ μ1 Ps μ2) : EA (tCons ta tr) δ μ (P :: Ps) μ2 := fun σ G M s m G1 H F e m1 Q q =>
  h1 σ G M s m G1 H F e m1 _ fun v G2 M2 H2 e2 m2 r2 => h2 σ G2 M2 (s.mono (e.trans e2)) r2.2 G2 H2 F (Ex.refl _) m2 _ fun vs G3 M3 H3 e3 m3 a3 r3 => q (v :: vs) G3 M3 H3 (e2.trans e3) m3 ⟨P.m _ _ _ e3 r2.1, a3⟩ r3
theorem EA.imp {Ps' : List Pr} (h : EA tA δ μ Ps μ') (f : ∀ G vs, AP G Ps vs → AP G Ps' vs) : EA tA δ μ Ps' μ' := fun σ G M s m G1 H F e m1 Q q => h σ G M s m G1 H F e m1 Q fun vs G2 M2 H2 e2 m2 a2 r2 => q vs G2 M2 H2 e2 m2 (f _ _ a2) r2
/-- data alone -/
def ED (K : PySem.W.Frag) (tA : TA) (δ : En) (μ : Mp) (ds : List PyData) (μ' : Mp) : Prop := EA tA δ μ (ds.map (D K)) μ'
theorem d_nil : ED K tNil δ μ [] μ := a_nil
theorem d_cons (h1 : E1 ta δ μ (D K d) μ1) (h2 : ED K tr δ μ1 ds μ2) : ED K (tCons ta tr) δ μ (d :: ds) μ2 := a_cons h1 h2
/-- *xs among the items -/
theorem d_star (h1 : E1 te δ μ P μ1) (hl : LR K P μ1 ds) (h2 : ED K tr δ μ1 es μ1) (hs : δ = δ) : ED K (StX.tStar K te tr) δ μ (ds ++ es) μ1 := fun σ G M s m G1 H F e m1 Q q =>
  h1 σ G M s m G1 H F e m1 _ fun v G2 M2 H2 e2 m2 r2 => by
    obtain ⟨p, xs, rfl, h3, h4⟩ := hl.at G2 v M2 F H2 r2.1 r2.2 m2
    refine ⟨p, xs, rfl, .inr h3, h2 σ G2 M2 (s.mono (e.trans e2)) r2.2 G2 H2 F (Ex.refl _) m2 _ fun vs G3 M3 H3 e3 m3 a3 r3 => q _ G3 M3 H3 (e2.trans e3) m3 ?_ r3⟩
    have := dpa_app (dma h4 e3) (AP.dpa a3)
    clear q h2 h3 a3 m3 r3
    revert this
    generalize xs ++ vs = zs
    generalize ds ++ es = fs
    intro h
    induction fs generalizing zs with
    | nil => cases h; trivial
    | cons f fs ih =>
      cases h with
      | cons x y => exact ⟨x, ih _ y⟩
theorem e_tup (h : ED K tA δ μ ds μ') (hl : ds.length ≤ 1000) : E1 (tTup tA) δ μ (D K (.tuple ds)) μ' := fun σ G M s m G1 H F e m1 Q q =>
  h σ G M s m G1 H F e m1 _ fun vs G2 M2 H2 e2 m2 a2 r2 => ⟨by rw [dpa_len (AP.dpa a2)]; exact Nat.le_of_lt (small1000 hl), fun p hp => by
    have g2 := m2.free hp
    exact q _ _ _ _ (e2.trans (Ex.new g2)) (m2.newF hp) ⟨.tup (SqT.of upd_same) (dma (AP.dpa a2) (Ex.new g2)), r2.mono (Ex.new g2)⟩⟩
theorem o_lst (h : ED K tA δ μ ds μ') (hl : ds.length ≤ 100000) : EO K (tLst tA) δ μ ds μ' := fun σ G M s m G1 H F e m1 Q q =>
  h σ G M s m G1 H F e m1 _ fun vs G2 M2 H2 e2 m2 a2 r2 => ⟨by rw [dpa_len (AP.dpa a2)]; exact Nat.le_of_lt (sz_ok hl), fun p hp =>
    q _ _ _ _ e2 (m2.newMid hp) ⟨p, vs, M2, rfl, rfl, AP.dpa a2, r2⟩⟩
/-- tuples of any values -/
def Tp (Ps : List Pr) : Pr := ⟨fun G v => ∃ a vs, v = .ref a ∧ G a = some (.tup vs) ∧ AP G Ps vs, fun G G' v e h => by obtain ⟨a, vs, h1, h2, h3⟩ := h; exact ⟨a, vs, h1, e _ _ h2, AP.mono h3 e⟩⟩
def Lp (Ps : List Pr) : Pr := ⟨fun G v => ∃ a vs, v = .ref a ∧ G a = some (.lst vs) ∧ AP G Ps vs, fun G G' v e h => by obtain ⟨a, vs, h1, h2, h3⟩ := h; exact ⟨a, vs, h1, e _ _ h2, AP.mono h3 e⟩⟩
theorem e_tupP (h : EA tA δ μ Ps μ') (hl : Ps.length ≤ 1000) : E1 (tTup tA) δ μ (Tp Ps) μ' := fun σ G M s m G1 H F e m1 Q q =>
  h σ G M s m G1 H F e m1 _ fun vs G2 M2 H2 e2 m2 a2 r2 => ⟨by rw [AP.len a2]; exact Nat.le_of_lt (small1000 hl), fun p hp => by
    have g2 := m2.free hp
    exact q _ _ _ _ (e2.trans (Ex.new g2)) (m2.newF hp) ⟨⟨p, vs, rfl, upd_same, AP.mono a2 (Ex.new g2)⟩, r2.mono (Ex.new g2)⟩⟩
theorem ixLp {Ps : List Pr} {i : Int} {vs : List V} {G : Hp} (ha : AP G Ps vs) (hi : atI Ps i = some P) : ∃ v, atI vs i = some v ∧ P.p G v := by
  unfold atI at hi ⊢
  obtain ⟨k, hk, hd⟩ := Option.bind_eq_some_iff.mp hi
  obtain ⟨v, h1, h2⟩ := AP.get ha hd
  exact ⟨v, by rw [AP.len ha, hk]; exact h1, h2⟩
theorem e_ixTp (h1 : E1 ta δ μ (Tp Ps) μ1) (h2 : E1 tb δ μ1 (D K (.int i)) μ2) (hx : atI Ps i = some P) : E1 (tOp (rIxT K) ta tb) δ μ P μ2 :=
  e_op h1 h2 fun G H F M x y m mm p1 p2 Q q => by
    rw [dp_int p2]
    obtain ⟨a, vs, rfl, h3, h4⟩ := p1
    obtain ⟨v, h5, h6⟩ := ixLp h4 hx
    exact ⟨a, vs, i, v, rfl, rfl, SqT.of (m.ex _ _ h3), h5, q _ G M H (Ex.refl _) m h6 mm⟩
theorem e_ixLp (h1 : E1 ta δ μ (Lp Ps) μ1) (h2 : E1 tb δ μ1 (D K (.int i)) μ2) (hx : atI Ps i = some P) : E1 (tOp (rIxL K) ta tb) δ μ P μ2 :=
  e_op h1 h2 fun G H F M x y m mm p1 p2 Q q => by
    rw [dp_int p2]
    obtain ⟨a, vs, rfl, h3, h4⟩ := p1
    obtain ⟨v, h5, h6⟩ := ixLp h4 hx
    exact ⟨a, vs, i, v, rfl, rfl, SqL.of (m.ex _ _ h3), h5, q _ G M H (Ex.refl _) m h6 mm⟩
theorem dpa_ix {G : Hp} {vs : List V} (ha : DpAll K G vs ds) (hi : atI ds i = some d) : ∃ v, atI vs i = some v ∧ Dp K G v d := by
  unfold atI at hi ⊢
  obtain ⟨k, hk, hd⟩ := Option.bind_eq_some_iff.mp hi
  obtain ⟨v, h1, h2⟩ := dpa_at ha hd
  exact ⟨v, by rw [dpa_len ha, hk]; exact h1, h2⟩
theorem e_ixT (h1 : E1 ta δ μ (D K (.tuple ds)) μ1) (h2 : E1 tb δ μ1 (D K (.int i)) μ2) (hx : atI ds i = some d) : E1 (tOp (rIxT K) ta tb) δ μ (D K d) μ2 :=
  e_op h1 h2 fun G H F M x y m mm p1 p2 Q q => by
    rw [dp_int p2]
    obtain ⟨a, vs, rfl, h3, h4⟩ := dp_tup p1
    obtain ⟨v, h5, h6⟩ := dpa_ix h4 hx
    exact ⟨a, vs, i, v, rfl, rfl, ex_t m.ex h3, h5, q _ G M H (Ex.refl _) m h6 mm⟩
theorem e_ixL (h1 : E1 ta δ μ P1 μ1) (h2 : E1 tb δ μ1 (D K (.int i)) μ2) (hl : LR K P1 μ2 ds) (hx : atI ds i = some d) : E1 (tOp (rIxL K) ta tb) δ μ (D K d) μ2 :=
  e_op h1 h2 fun G H F M x y m mm p1 p2 Q q => by
    rw [dp_int p2]
    obtain ⟨a, vs, rfl, h3, h4⟩ := hl.at G x M F H p1 mm m
    obtain ⟨v, h5, h6⟩ := dpa_ix h4 hx
    exact ⟨a, vs, i, v, rfl, rfl, h3, h5, q _ G M H (Ex.refl _) m h6 mm⟩
theorem atI_map {α : Type} {enc : α → PyData} {xs : List α} {x : α} (h0 : 0 ≤ i) (h1 : i < xs.length) : atI (xs.map enc) i = some (enc (xs.getD i.toNat x)) := by
  unfold atI ixN
  have : i.toNat < xs.length := by omega
  rw [if_pos h0, if_pos (by simpa using h1)]
  simp [this]
theorem e_ixLI {xs : List Int} (h1 : E1 ta δ μ P1 μ1) (h2 : E1 tb δ μ1 (D K (.int i)) μ2) (hl : LR K P1 μ2 (xs.map .int)) (h : 0 ≤ i ∧ i < xs.length) : E1 (tOp (rIxL K) ta tb) δ μ (D K (.int (xs.getD i.toNat 0))) μ2 := e_ixL h1 h2 hl (atI_map h.1 h.2)
theorem e_ixLC {xs : List (List Int)} (h1 : E1 ta δ μ P1 μ1) (h2 : E1 tb δ μ1 (D K (.int i)) μ2) (hl : LR K P1 μ2 (xs.map colD)) (h : 0 ≤ i ∧ i < xs.length) : E1 (tOp (rIxL K) ta tb) δ μ (D K (colD (xs.getD i.toNat []))) μ2 := e_ixL h1 h2 hl (atI_map h.1 h.2)
theorem e_ixTI {xs : List Int} (h1 : E1 ta δ μ (D K (.tuple (xs.map .int))) μ1) (h2 : E1 tb δ μ1 (D K (.int i)) μ2) (h : 0 ≤ i ∧ i < xs.length) : E1 (tOp (rIxT K) ta tb) δ μ (D K (.int (xs.getD i.toNat 0))) μ2 := e_ixT h1 h2 (atI_map h.1 h.2)
theorem e_ixLM {α : Type} {enc : α → PyData} {xs : List α} (x : α) (h1 : E1 ta δ μ P1 μ1) (h2 : E1 tb δ μ1 (D K (.int i)) μ2) (hl : LR K P1 μ2 (xs.map enc)) (h : 0 ≤ i ∧ i < xs.length) : E1 (tOp (rIxL K) ta tb) δ μ (D K (enc (xs.getD i.toNat x))) μ2 := e_ixL h1 h2 hl (atI_map h.1 h.2)
theorem e_CB {r : List V → Hp → VK → Prop} (h : EA tA δ μ Ps μ1) (hr : ∀ G H F M vs, Me G (M ++ F) H → Mm G M μ1 → AP G Ps vs → ∀ Q : VK, (∀ v G2 M2 H2, Ex G G2 → Me G2 (M2 ++ F) H2 → P.p G2 v → Mm G2 M2 μ2 → Q v H2) → r vs H Q) : E1 (tCB r tA) δ μ P μ2 := fun σ G M s m G1 H F e m1 Q q =>
  h σ G M s m G1 H F e m1 _ fun vs G2 M2 H2 e2 m2 a2 r2 => hr G2 H2 F M2 vs m2 r2 a2 Q fun v G3 M3 H3 e3 m3 p3 mm3 => q v G3 M3 H3 (e2.trans e3) m3 ⟨p3, mm3⟩
theorem e_CB1 {r : List V → Hp → VK → Prop} (h : E1 ta δ μ P1 μ1) (hr : ∀ G H F M v, Me G (M ++ F) H → Mm G M μ1 → P1.p G v → ∀ Q : VK, (∀ v G2 M2 H2, Ex G G2 → Me G2 (M2 ++ F) H2 → P.p G2 v → Mm G2 M2 μ2 → Q v H2) → r [v] H Q) : E1 (tCB r (tCons ta tNil)) δ μ P μ2 :=
  e_CB (a_cons h a_nil) fun G H F M vs m mm p Q q => by
    match vs, p with
    | [v], ⟨p1, _⟩ => exact hr G H F M v m mm p1 Q q
theorem e_isi {T : String} (h : E1 ta δ μ (D K d) μ1) (hT : T = "int" ∨ T = "bool" ∨ T = "tuple" ∨ T = "list" ∨ T = "str") : E1 (tCB (rIsi K) (tCons ta (tCons (tC (.ty T)) tNil))) δ μ (D K (.bool (isTy d T))) μ1 :=
  e_CB (a_cons h (a_cons (e_cst (P := Cv (.ty T)) fun _ => rfl) a_nil)) fun G H F M vs m mm p Q q => by
    match vs, p with
    | [v, c], ⟨p1, p2, _⟩ =>
      have p2 : c = .ty T := p2
      subst p2
      have p1 : Dp K G v d := p1
      refine ⟨v, .ty T, .type (tyName d), .type T, isTy d T, rfl, .ty T, tyx_of (dm p1 m.ex), kit_ty ?_, q _ G M H (Ex.refl _) m (.bl _) mm⟩
      unfold isTy
      cases p1 <;> dsimp only [tyName] <;> rcases hT with rfl | rfl | rfl | rfl | rfl <;> decide +kernel
theorem e_len (h : E1 ta δ μ P1 μ1) (hl : LR K P1 μ1 ds) : E1 (tCB (rLenS K) (tCons ta tNil)) δ μ (D K (.int (ds.length : Int))) μ1 :=
  e_CB1 h fun G H F M v m mm p Q q => by
    obtain ⟨a, xs, rfl, h3, h4⟩ := hl.at G v M F H p mm m
    exact ⟨a, xs, rfl, .inl h3, q _ G M H (Ex.refl _) m (by rw [dpa_len h4]; exact .int _) mm⟩
theorem e_lenT (h : E1 ta δ μ (D K (.tuple ds)) μ1) : E1 (tCB (rLenS K) (tCons ta tNil)) δ μ (D K (.int (ds.length : Int))) μ1 :=
  e_CB1 h fun G H F M v m mm p Q q => by
    obtain ⟨a, xs, rfl, h3, h4⟩ := dp_tup p
    exact ⟨a, xs, rfl, .inr (ex_t m.ex h3), q _ G M H (Ex.refl _) m (by rw [dpa_len h4]; exact .int _) mm⟩
theorem o_list (h : E1 ta δ μ P1 μ1) (hl : LR K P1 μ1 ds) : EO K (tCB (rListS K) (tCons ta tNil)) δ μ ds μ1 := fun σ G M s m G1 H F e m1 Q q =>
  h σ G M s m G1 H F e m1 _ fun v G2 M2 H2 e2 m2 r2 => by
    obtain ⟨a, xs, rfl, h3, h4⟩ := hl.at G2 v M2 F H2 r2.1 r2.2 m2
    exact ⟨a, xs, rfl, .inl h3, fun l hl => q _ G2 _ _ e2 (m2.newMid hl) ⟨l, xs, M2, rfl, rfl, h4, r2.2⟩⟩
theorem o_listT (h : E1 ta δ μ (D K (.tuple ds)) μ1) : EO K (tCB (rListS K) (tCons ta tNil)) δ μ ds μ1 := fun σ G M s m G1 H F e m1 Q q =>
  h σ G M s m G1 H F e m1 _ fun v G2 M2 H2 e2 m2 r2 => by
    obtain ⟨a, xs, rfl, h3, h4⟩ := dp_tup r2.1
    exact ⟨a, xs, rfl, .inr (ex_t m2.ex h3), fun l hl => q _ G2 _ _ e2 (m2.newMid hl) ⟨l, xs, M2, rfl, rfl, h4, r2.2⟩⟩
theorem e_tupL (h : E1 ta δ μ P1 μ1) (hl : LR K P1 μ1 ds) : E1 (tCB (rTupS K) (tCons ta tNil)) δ μ (D K (.tuple ds)) μ1 :=
  e_CB1 h fun G H F M v m mm p Q q => by
    obtain ⟨a, xs, rfl, h3, h4⟩ := hl.at G v M F H p mm m
    refine ⟨a, xs, rfl, .inl ⟨h3, fun l hl => ?_⟩⟩
    have g1 := m.free hl
    exact q _ _ M _ (Ex.new g1) (m.newF hl) (.tup (SqT.of upd_same) (dma h4 (Ex.new g1))) (mm.mono (Ex.new g1))
theorem e_tupT (h : E1 ta δ μ (D K (.tuple ds)) μ1) : E1 (tCB (rTupS K) (tCons ta tNil)) δ μ (D K (.tuple ds)) μ1 :=
  e_CB1 h fun G H F M v m mm p Q q => by
    obtain ⟨a, xs, rfl, h3, h4⟩ := dp_tup p
    exact ⟨a, xs, rfl, .inr ⟨ex_t m.ex h3, q _ G M H (Ex.refl _) m p mm⟩⟩
theorem e_int (h : E1 ta δ μ (D K (.int i)) μ1) : E1 (tCB rInt1 (tCons ta tNil)) δ μ (D K (.int i)) μ1 :=
  e_CB1 h fun G H F M v m mm p Q q => .inl ⟨i, by rw [dp_int p], q _ G M H (Ex.refl _) m (.int i) mm⟩
theorem e_intB (h : E1 ta δ μ (D K (.bool a)) μ1) : E1 (tCB rInt1 (tCons ta tNil)) δ μ (D K (.int (if a then 1 else 0))) μ1 :=
  e_CB1 h fun G H F M v m mm p Q q => .inr ⟨a, by rw [dp_bl p], q _ G M H (Ex.refl _) m (.int _) mm⟩
theorem e_sum {ns : List Int} (h : E1 ta δ μ P1 μ1) (hl : LR K P1 μ1 (ns.map .int)) : E1 (tCB (rSum K) (tCons ta tNil)) δ μ (D K (.int ns.sum)) μ1 :=
  e_CB1 h fun G H F M v m mm p Q q => by
    obtain ⟨a, xs, rfl, h3, h4⟩ := hl.at G v M F H p mm m
    rw [dpAll_ints h4] at h3
    exact ⟨a, ns, rfl, h3, q _ G M H (Ex.refl _) m (.int _) mm⟩
theorem e_sumT {ns : List Int} (h : E1 ta δ μ (D K (.tuple (ns.map .int))) μ1) : E1 (tCB (rSumT K) (tCons ta tNil)) δ μ (D K (.int ns.sum)) μ1 :=
  e_CB1 h fun G H F M v m mm p Q q => by
    obtain ⟨a, xs, rfl, h3, h4⟩ := dp_tup p
    rw [dpAll_ints h4] at h3
    exact ⟨a, ns, rfl, ex_t m.ex h3, q _ G M H (Ex.refl _) m (.int _) mm⟩
theorem e_sumC {c : List Int} (h : E1 ta δ μ (D K (colD c)) μ1) : E1 (tCB (rSumT K) (tCons ta tNil)) δ μ (D K (.int c.sum)) μ1 := e_sumT h
theorem e_all {bs : List Bool} (h : E1 ta δ μ (D K (.list (bs.map .bool))) μ1) : E1 (tCB (rAll K) (tCons ta tNil)) δ μ (D K (.bool (bs.all id))) μ1 :=
  e_CB1 h fun G H F M v m mm p Q q => by
    obtain ⟨a, xs, rfl, h3, h4⟩ := dp_lst p
    rw [dpAll_bls h4] at h3
    exact ⟨a, bs, rfl, ex_l m.ex h3, q _ G M H (Ex.refl _) m (.bl _) mm⟩
theorem e_any {bs : List Bool} (h : E1 ta δ μ (D K (.list (bs.map .bool))) μ1) : E1 (tCB (rAny K) (tCons ta tNil)) δ μ (D K (.bool (bs.any id))) μ1 :=
  e_CB1 h fun G H F M v m mm p Q q => by
    obtain ⟨a, xs, rfl, h3, h4⟩ := dp_lst p
    rw [dpAll_bls h4] at h3
    exact ⟨a, bs, rfl, ex_l m.ex h3, q _ G M H (Ex.refl _) m (.bl _) mm⟩
theorem o_cat (h1 : E1 ta δ μ P1 μ1) (h2 : E1 tb δ μ1 P2 μ2) (l1 : LR K P1 μ2 ds) (l2 : LR K P2 μ2 es) (hl : ds.length + es.length ≤ 100000) : EO K (tOp (rCatS K) ta tb) δ μ (ds ++ es) μ2 := fun σ G M s m G1 H F e m1 Q q =>
  h1 σ G M s m G1 H F e m1 _ fun x G2 M2 H2 e2 m2 r2 => h2 σ G2 M2 (s.mono (e.trans e2)) r2.2 G2 H2 F (Ex.refl _) m2 _ fun y G3 M3 H3 e3 m3 r3 => by
    obtain ⟨a, xs, rfl, h3, h4⟩ := l1.at G3 x M3 F H3 (P1.m _ _ _ e3 r2.1) r3.2 m3
    obtain ⟨b, ys, rfl, h5, h6⟩ := l2.at G3 y M3 F H3 r3.1 r3.2 m3
    refine ⟨a, b, xs, ys, rfl, rfl, h3, h5, ?_, fun p hp => ?_⟩
    · rw [dpa_len h4, dpa_len h6]
      exact Nat.le_of_lt (sz_ok hl)
    · exact q _ G3 _ _ (e2.trans e3) (m3.newMid hp) ⟨p, _, M3, rfl, rfl, dpa_app h4 h6, r3.2⟩
theorem o_catM {α : Type} {enc : α → PyData} {xs ys : List α} (h1 : E1 ta δ μ P1 μ1) (h2 : E1 tb δ μ1 P2 μ2) (l1 : LR K P1 μ2 (xs.map enc)) (l2 : LR K P2 μ2 (ys.map enc)) (hl : xs.length + ys.length ≤ 100000) : EO K (tOp (rCatS K) ta tb) δ μ ((xs ++ ys).map enc) μ2 := by
  rw [List.map_append]
  exact o_cat h1 h2 l1 l2 (by simpa using hl)
theorem e_catT (h1 : E1 ta δ μ (D K (.tuple ds)) μ1) (h2 : E1 tb δ μ1 (D K (.tuple es)) μ2) (hl : ds.length + es.length ≤ 100000) : E1 (tOp (rCatA K) ta tb) δ μ (D K (.tuple (ds ++ es))) μ2 := fun σ G M s m G1 H F e m1 Q q =>
  h1 σ G M s m G1 H F e m1 _ fun x G2 M2 H2 e2 m2 r2 => h2 σ G2 M2 (s.mono (e.trans e2)) r2.2 G2 H2 F (Ex.refl _) m2 _ fun y G3 M3 H3 e3 m3 r3 => by
    refine ev_catT (K := K) (ds := ds) (es := es) (σ := []) (G := G3) (M := M3) (ta := fun _ H Q => Q x H) (tb := fun _ H Q => Q y H) (M1 := M3) (M2 := M3) (fun G1 H F e m Q q => q x G1 _ H (Ex.refl _) m ⟨dm r2.1 (e3.trans e), rfl⟩) (fun G1 H F e m Q q => q y G1 _ H (Ex.refl _) m ⟨dm r3.1 e, rfl⟩) hl G3 H3 F (Ex.refl _) m3 Q fun v G4 M4 H4 e4 m4 r4 => ?_
    obtain ⟨r4, rfl⟩ := r4
    exact q v G4 _ H4 ((e2.trans e3).trans e4) m4 ⟨r4, r3.2.mono e4⟩
def cutG {α : Type} (xs : List α) (lo hi : Option Int) : List α := (xs.drop (HT.sIx xs.length 0 lo)).take (HT.sIx xs.length xs.length hi - HT.sIx xs.length 0 lo)
theorem cutG_map {α β : Type} (f : α → β) (xs : List α) (lo hi : Option Int) : cutG (xs.map f) lo hi = (cutG xs lo hi).map f := by
  unfold cutG
  simp [List.map_drop, List.map_take]
/-- a bound of a slice -/
def OY (to : TO) (δ : En) (μ : Mp) (o : Option Int) : Prop := ∀ σ G M, Sl G σ δ → Mm G M μ → ∀ G1 H F, Ex G G1 → Me G1 (M ++ F) H → ∀ Q : Option Int → Hp → Prop, (∀ G2 M2 H2, Ex G1 G2 → Me G2 (M2 ++ F) H2 → Mm G2 M2 μ → Q o H2) → to σ H Q
theorem y_none : OY tNoPart δ μ none := fun σ G M s m G1 H F e m1 Q q => q G1 M H (Ex.refl _) m1 (m.mono e)
theorem y_some (h : E1 ta δ μ (D K (.int i)) μ) : OY (tPart ta) δ μ (some i) := fun σ G M s m G1 H F e m1 Q q => h σ G M s m G1 H F e m1 _ fun x G2 M2 H2 e2 m2 r2 => by
  rw [dp_int r2.1]
  exact ⟨i, rfl, q G2 M2 H2 e2 m2 r2.2⟩
theorem o_sl {tl th : TO} {lo hi : Option Int} (h : E1 te δ μ P1 μ1) (hl : OY tl δ μ1 lo) (hh : OY th δ μ1 hi) (l : LR K P1 μ1 ds) : EO K (tSl (rSlL K) te tl th) δ μ (cutG ds lo hi) μ1 := fun σ G M s m G1 H F e m1 Q q =>
  h σ G M s m G1 H F e m1 _ fun x G2 M2 H2 e2 m2 r2 => hl σ G2 M2 (s.mono (e.trans e2)) r2.2 G2 H2 F (Ex.refl _) m2 _ fun G3 M3 H3 e3 m3 r3 => hh σ G3 M3 (s.mono ((e.trans e2).trans e3)) r3 G3 H3 F (Ex.refl _) m3 _ fun G4 M4 H4 e4 m4 r4 => by
    obtain ⟨a, xs, rfl, h3, h4⟩ := l.at G4 x M4 F H4 (P1.m _ _ _ (e3.trans e4) r2.1) r4 m4
    exact ⟨a, xs, rfl, h3, fun p hp => q _ G4 _ _ ((e2.trans e3).trans e4) (m4.newMid hp) ⟨p, _, M4, rfl, rfl, dpa_cut h4 lo hi, r4⟩⟩
theorem o_slM {α : Type} {enc : α → PyData} {xs : List α} {tl th : TO} {lo hi : Option Int} (h : E1 te δ μ P1 μ1) (hl : OY tl δ μ1 lo) (hh : OY th δ μ1 hi) (l : LR K P1 μ1 (xs.map enc)) : EO K (tSl (rSlL K) te tl th) δ μ ((cutG xs lo hi).map enc) μ1 := by
  rw [← cutG_map]
  exact o_sl h hl hh l
theorem e_slT {tl th : TO} {lo hi : Option Int} (h : E1 te δ μ (D K (.tuple ds)) μ1) (hl : OY tl δ μ1 lo) (hh : OY th δ μ1 hi) : E1 (tSl (rSlA K) te tl th) δ μ (D K (.tuple (cutG ds lo hi))) μ1 := fun σ G M s m G1 H F e m1 Q q =>
  h σ G M s m G1 H F e m1 _ fun x G2 M2 H2 e2 m2 r2 => hl σ G2 M2 (s.mono (e.trans e2)) r2.2 G2 H2 F (Ex.refl _) m2 _ fun G3 M3 H3 e3 m3 r3 => hh σ G3 M3 (s.mono ((e.trans e2).trans e3)) r3 G3 H3 F (Ex.refl _) m3 _ fun G4 M4 H4 e4 m4 r4 => by
    refine ev_slT (K := K) (ds := ds) (σ := []) (G := G4) (M := M4) (te := fun _ H Q => Q x H) (tl := fun _ H Q => Q lo H) (th := fun _ H Q => Q hi H) (M1 := M4) (fun G1 H F e m Q q => q x G1 _ H (Ex.refl _) m ⟨dm r2.1 ((e3.trans e4).trans e), rfl⟩) (fun G1 H F e m Q q => q G1 H (Ex.refl _) m) (fun G1 H F e m Q q => q G1 H (Ex.refl _) m) G4 H4 F (Ex.refl _) m4 Q fun v G5 M5 H5 e5 m5 r5 => ?_
    obtain ⟨r5, rfl⟩ := r5
    exact q v G5 _ H5 (((e2.trans e3).trans e4).trans e5) m5 ⟨r5, r4.mono e5⟩
theorem o_rev (h : E1 te δ μ P1 μ1) (l : LR K P1 μ1 ds) : EO K (tRevL K te) δ μ ds.reverse μ1 := fun σ G M s m G1 H F e m1 Q q =>
  h σ G M s m G1 H F e m1 _ fun v G2 M2 H2 e2 m2 r2 => by
    obtain ⟨a, xs, rfl, h3, h4⟩ := l.at G2 v M2 F H2 r2.1 r2.2 m2
    exact ⟨a, xs, rfl, h3, fun p hp => q _ G2 _ _ e2 (m2.newMid hp) ⟨p, _, M2, rfl, rfl, dpa_rev h4, r2.2⟩⟩
theorem o_revM {α : Type} {enc : α → PyData} {xs : List α} (h : E1 te δ μ P1 μ1) (l : LR K P1 μ1 (xs.map enc)) : EO K (tRevL K te) δ μ (xs.reverse.map enc) μ1 := by
  rw [List.map_reverse]
  exact o_rev h l
end
end SY
set_option Elab.async false
set_option linter.all false
set_option maxRecDepth 100000
namespace SY
open PySem PySem.Spec L2 SX
structure PY where
  nx : En → Mp → Prop
  rt : Pr → Mp → Prop := fun _ _ => False
  bk : En → Mp → Prop := fun _ _ => False
  ct : En → Mp → Prop := fun _ _ => False
  ex : Value → Option Addr → Mp → Prop := fun _ _ _ => False
def PY.po (P : PY) : Po where
  nx := fun G σ M => ∃ δ μ, P.nx δ μ ∧ Sl G σ δ ∧ Mm G M μ
  rt := fun G v M => ∃ Q μ, P.rt Q μ ∧ Q.p G v ∧ Mm G M μ
  bk := fun G σ M => ∃ δ μ, P.bk δ μ ∧ Sl G σ δ ∧ Mm G M μ
  ct := fun G σ M => ∃ δ μ, P.ct δ μ ∧ Sl G σ δ ∧ Mm G M μ
  ex := fun c d G M => ∃ μ, P.ex c d μ ∧ Mm G M μ
def S1 (E : XK) (t : TS) (δ : En) (μ : Mp) (P : PY) : Prop := ∀ σ G M, Sl G σ δ → Mm G M μ → Sv E t σ G M P.po
/-- a target takes a value; vs: the slots it stores -/
def G1 (g : TG) (P : Pr) (δ δ' : En) (vs : List Nat) : Prop := ∀ σ G M F H v, Sl G σ δ → P.p G v → Me G (M ++ F) H → ∀ Q : L2.St → Hp → Prop, (∀ σ', Sl G σ' δ' → Same σ σ' vs → Q σ' H) → g v σ H Q
def GS (g : TGs) (Ps : List Pr) (δ δ' : En) (vs : List Nat) : Prop := ∀ σ G M F H xs, Sl G σ δ → AP G Ps xs → Me G (M ++ F) H → ∀ Q : L2.St → Hp → Prop, (∀ σ', Sl G σ' δ' → Same σ σ' vs → Q σ' H) → g xs σ H Q
section
variable {E : XK} {K : PySem.W.Frag} {te ta tb tc : TE} {tt tu : TT} {tA tr : TA} {δ δ' δ1 δ2 : En} {μ μ' μ0 μ1 μ2 μ3 : Mp} {Q Q1 Q2 : Pr} {Ps : List Pr} {R : Pr → Mp → Prop} {d e : PyData} {ds es : List PyData} {i j : Int} {a b c : Bool} {k : Nat} {ad : Addr} {t u : TS} {P P' : PY} {g : TG} {gs : TGs} {vs : List Nat} {N : En → Mp → Prop}
theorem g_name (hk : k ∈ vs := by decide) : G1 (gName k) Q δ (δ.set k (some Q)) vs := fun σ G M F H v s p m q z => z _ (s.set p) (Same.set hk)
theorem G1.le {δ0 : En} (h : G1 g Q δ δ' vs) (l : Le δ0 δ) : G1 g Q δ0 δ' vs := fun σ G M F H v s => h σ G M F H v (s.le l)
theorem g_nil : GS gNil [] δ δ vs := fun σ G M F H xs s p m q z => by
  match xs, p with
  | [], _ => exact ⟨rfl, z _ s (Same.refl _ _)⟩
theorem g_cons (h1 : G1 g Q δ δ1 vs) (h2 : GS gs Ps δ1 δ2 vs) : GS (gCons g gs) (Q :: Ps) δ δ2 vs := fun σ G M F H xs s p m q z => by
  match xs, p with
  | x :: xs, p => exact ⟨x, xs, rfl, h1 σ G M F H x s p.1 m _ fun σ' s' w' => h2 σ' G M F H xs s' p.2 m _ fun σ2 s2 w2 => z σ2 s2 (w'.trans w2)⟩
theorem dpa_AP {G : Hp} : ∀ {ds : List PyData} {xs : List V}, DpAll K G xs ds → AP G (ds.map (D K)) xs
  | [], _, h => by cases h; trivial
  | d :: ds, _, h => by
    cases h with
    | cons x y => exact ⟨x, dpa_AP y⟩
theorem g_tup {n : Nat} (h : GS gs (ds.map (D K)) δ δ' vs) (hn : ds.length = n) : G1 (gTup K n gs) (D K (.tuple ds)) δ δ' vs := fun σ G M F H v s p m q z => by
  obtain ⟨a, xs, rfl, h3, h4⟩ := dp_tup p
  exact ⟨a, xs, rfl, ex_t m.ex h3, by rw [dpa_len h4, hn], h σ G M F H xs s (dpa_AP h4) m q z⟩
theorem g_tupP {n : Nat} (h : GS gs Ps δ δ' vs) (hn : Ps.length = n) : G1 (gTup K n gs) (Tp Ps) δ δ' vs := fun σ G M F H v s p m q z => by
  obtain ⟨a, xs, rfl, h3, h4⟩ := p
  exact ⟨a, xs, rfl, SqT.of (m.ex _ _ h3), by rw [AP.len h4, hn], h σ G M F H xs s h4 m q z⟩
theorem g_two {n i j : Nat} (hn : n = 2) : G1 (gTup K n (gCons (gName i) (gCons (gName j) gNil))) (D K (.tuple [d, e])) δ ((δ.set i (some (D K d))).set j (some (D K e))) [i, j] := by
  subst hn
  exact g_tup (ds := [d, e]) (g_cons (g_name (by simp)) (g_cons (g_name (by simp)) g_nil)) rfl
theorem S1.le (h : S1 E t δ' μ P) (l : Le δ δ') : S1 E t δ μ P := fun σ G M s m => h σ G M (s.le l) m
theorem S1.imp (h : S1 E t δ μ P) (nx : ∀ δ μ, P.nx δ μ → P'.nx δ μ) (rt : ∀ q μ, P.rt q μ → P'.rt q μ) (bk : ∀ δ μ, P.bk δ μ → P'.bk δ μ) (ct : ∀ δ μ, P.ct δ μ → P'.ct δ μ) (ex : ∀ c d μ, P.ex c d μ → P'.ex c d μ) : S1 E t δ μ P' := fun σ G M s m =>
  (h σ G M s m).imp (fun _ _ _ _ ⟨x, y, h1, h2⟩ => ⟨x, y, nx _ _ h1, h2⟩) (fun _ _ _ _ ⟨x, y, h1, h2⟩ => ⟨x, y, rt _ _ h1, h2⟩) (fun _ _ _ _ ⟨x, y, h1, h2⟩ => ⟨x, y, bk _ _ h1, h2⟩) (fun _ _ _ _ ⟨x, y, h1, h2⟩ => ⟨x, y, ct _ _ h1, h2⟩) (fun _ _ _ _ _ ⟨y, h1, h2⟩ => ⟨y, ex _ _ _ h1, h2⟩)
theorem s_setY (h : EY te δ μ R) (k' : ∀ q μ', R q μ' → P.nx (δ.set k (some q)) μ') : S1 E (tAsg te (gName k)) δ μ P := fun σ G M s m =>
  sv_set (h σ G M s m) fun v G' M' e r => by
    obtain ⟨q, μ', r0, r1, r2⟩ := r
    exact ⟨_, _, k' q μ' r0, (s.mono e).set r1, r2⟩
theorem s_set (h : E1 te δ μ Q μ1) (k' : P.nx (δ.set k (some Q)) μ1) : S1 E (tAsg te (gName k)) δ μ P := s_setY h.y fun q μ' r => by
  obtain ⟨rfl, rfl⟩ := r
  exact k'
theorem s_letY (h : EY te δ μ R) (k' : ∀ q μ', R q μ' → S1 E u (δ.set k (some q)) μ' P) : S1 E (tSeq (tAsg te (gName k)) u) δ μ P := fun σ G M s m =>
  sv_let (h σ G M s m) fun v G' M' e r => by
    obtain ⟨q, μ', r0, r1, r2⟩ := r
    exact k' q μ' r0 _ G' M' ((s.mono e).set r1) r2
theorem s_let (h : E1 te δ μ Q μ1) (k' : S1 E u (δ.set k (some Q)) μ1 P) : S1 E (tSeq (tAsg te (gName k)) u) δ μ P := s_letY h.y fun q μ' r => by
  obtain ⟨rfl, rfl⟩ := r
  exact k'
/-- x = [..], owned -/
theorem s_own (h : EO K te δ μ ds μ1) (k' : ∀ ad, S1 E u (δ.set k (some (Av ad))) (μ1 ++ [(ad, OL K ds)]) P) : S1 E (tSeq (tAsg te (gName k)) u) δ μ P := s_letY h.own fun q μ' r => by
  obtain ⟨a, rfl, rfl⟩ := r
  exact k' a
theorem s_asg (h : E1 te δ μ Q μ1) (hg : G1 g Q δ δ' vs) (k' : P.nx δ' μ1) : S1 E (tAsg te g) δ μ P := fun σ G M s m G1 H F D e m1 hd =>
  h σ G M s m G1 H F e m1 _ fun v G2 M2 H2 e2 m2 r2 => hg σ G2 M2 F H2 v (s.mono (e.trans e2)) r2.1 m2 _ fun σ' s' _ => hd.nx _ G2 M2 H2 e2 m2 ⟨_, _, k', s', r2.2⟩
theorem s_seq (h : S1 E t δ μ { P with nx := N }) (k' : ∀ δ' μ', N δ' μ' → S1 E u δ' μ' P) : S1 E (tSeq t u) δ μ P := fun σ G M s m =>
  sv_seq (N := fun G σ M => ∃ δ μ, N δ μ ∧ Sl G σ δ ∧ Mm G M μ) (h σ G M s m) fun G' σ' M' e n => by
    obtain ⟨δ', μ', n0, n1, n2⟩ := n
    exact k' δ' μ' n0 σ' G' M' n1 n2
theorem s_let2 (h : E1 te δ μ Q μ1) (hg : G1 g Q δ δ' vs) (k' : S1 E u δ' μ1 P) : S1 E (tSeq (tAsg te g) u) δ μ P := s_seq (N := fun x y => x = δ' ∧ y = μ1) (s_asg h hg ⟨rfl, rfl⟩) fun x y r => by
  obtain ⟨rfl, rfl⟩ := r
  exact k'
theorem s_unp2 {i j : Nat} (h : E1 te δ μ (D K (.tuple [d, e])) μ1) (k' : S1 E u ((δ.set i (some (D K d))).set j (some (D K e))) μ1 P) : S1 E (tSeq (tAsg te (gTup K 2 (gCons (gName i) (gCons (gName j) gNil)))) u) δ μ P :=
  s_let2 h (g_tup (vs := [i, j]) (g_cons (g_name (by simp)) (g_cons (g_name (by simp)) g_nil)) rfl) k'
theorem s_unp3 {i j k : Nat} {d3 : PyData} (h : E1 te δ μ (D K (.tuple [d, e, d3])) μ1) (k' : S1 E u (((δ.set i (some (D K d))).set j (some (D K e))).set k (some (D K d3))) μ1 P) : S1 E (tSeq (tAsg te (gTup K 3 (gCons (gName i) (gCons (gName j) (gCons (gName k) gNil))))) u) δ μ P :=
  s_let2 h (g_tup (vs := [i, j, k]) (g_cons (g_name (by simp)) (g_cons (g_name (by simp)) (g_cons (g_name (by simp)) g_nil))) rfl) k'
theorem s_unp2P {i j : Nat} (h : E1 te δ μ (Tp [Q1, Q2]) μ1) (k' : S1 E u ((δ.set i (some Q1)).set j (some Q2)) μ1 P) : S1 E (tSeq (tAsg te (gTup K 2 (gCons (gName i) (gCons (gName j) gNil)))) u) δ μ P :=
  s_let2 h (g_tupP (vs := [i, j]) (g_cons (g_name (by simp)) (g_cons (g_name (by simp)) g_nil)) rfl) k'
theorem s_dropY (h : EY te δ μ R) (k' : ∀ q μ', R q μ' → P.nx δ μ') : S1 E (tDrop te) δ μ P := fun σ G M s m =>
  sv_drop (h σ G M s m) fun v G' M' e r => by
    obtain ⟨q, μ', r0, r1, r2⟩ := r
    exact ⟨_, _, k' q μ' r0, s.mono e, r2⟩
theorem s_drop (h : E1 te δ μ Q μ1) (k' : P.nx δ μ1) : S1 E (tDrop te) δ μ P := s_dropY h.y fun q μ' r => by
  obtain ⟨rfl, rfl⟩ := r
  exact k'
theorem s_do (h : E1 te δ μ Q μ1) (k' : S1 E u δ μ1 P) : S1 E (tSeq (tDrop te) u) δ μ P := s_seq (N := fun x y => x = δ ∧ y = μ1) (s_drop h ⟨rfl, rfl⟩) fun x y r => by
  obtain ⟨rfl, rfl⟩ := r
  exact k'
theorem s_retY (h : EY te δ μ R) (k' : ∀ q μ', R q μ' → P.rt q μ') : S1 E (tRet te) δ μ P := fun σ G M s m =>
  sv_ret (h σ G M s m) fun v G' M' e r => by
    obtain ⟨q, μ', r0, r1, r2⟩ := r
    exact ⟨q, μ', k' q μ' r0, r1, r2⟩
theorem s_ret (h : E1 te δ μ Q μ1) (k' : P.rt Q μ1) : S1 E (tRet te) δ μ P := s_retY h.y fun q μ' r => by
  obtain ⟨rfl, rfl⟩ := r
  exact k'
theorem s_next (k' : P.nx δ μ) : S1 E tNext δ μ P := fun σ G M s m => sv_next fun G' e => ⟨_, _, k', s.mono e, m.mono e⟩
theorem s_if (h : T1 tt δ μ a μ1) (k1 : a = true → S1 E t δ μ1 P) (k2 : a = false → S1 E u δ μ1 P) : S1 E (tIfS tt t u) δ μ P := fun σ G M s m G1 H F D e m1 hd =>
  h σ G M s m G1 H F e m1 _ fun G2 M2 H2 e2 m2 r2 => by
    cases a with
    | true =>
      show (if true = true then _ else _)
      rw [if_pos rfl]
      exact k1 rfl σ G2 M2 (s.mono (e.trans e2)) r2 G2 H2 F D (Ex.refl _) m2 (hd.up e2)
    | false =>
      show (if false = true then _ else _)
      rw [if_neg Bool.false_ne_true]
      exact k2 rfl σ G2 M2 (s.mono (e.trans e2)) r2 G2 H2 F D (Ex.refl _) m2 (hd.up e2)
/-- if .. : leaves; the rest (no else) -/
theorem s_ifr {r : TS} (h : T1 tt δ μ a μ1) (k1 : a = true → S1 E t δ μ1 { P with nx := fun δ' μ' => S1 E r δ' μ' P }) (k2 : a = false → S1 E r δ μ1 P) : S1 E (tSeq (tIfS tt t tNext) r) δ μ P :=
  s_seq (N := fun δ' μ' => S1 E r δ' μ' P) (s_if h k1 fun z => s_next (k2 z)) fun _ _ z => z
/-- the rest behind both branches -/
theorem s_ifs {r : TS} (h : T1 tt δ μ a μ1) (k1 : a = true → S1 E t δ μ1 { P with nx := fun δ' μ' => S1 E r δ' μ' P }) (k2 : a = false → S1 E u δ μ1 { P with nx := fun δ' μ' => S1 E r δ' μ' P }) : S1 E (tSeq (tIfS tt t u) r) δ μ P :=
  s_seq (N := fun δ' μ' => S1 E r δ' μ' P) (s_if h k1 k2) fun _ _ z => z
/-- the same state behind both -/
theorem s_ifj {r : TS} (N : En → Mp → Prop) (h : T1 tt δ μ a μ1) (k1 : a = true → S1 E t δ μ1 { P with nx := N }) (k2 : a = false → S1 E u δ μ1 { P with nx := N }) (k3 : ∀ δ' μ', N δ' μ' → S1 E r δ' μ' P) : S1 E (tSeq (tIfS tt t u) r) δ μ P :=
  s_seq (N := N) (s_if h k1 k2) k3
/-- what is owned and not needed is forgotten -/
theorem s_less (hs : μ'.Sublist μ) (h : S1 E t δ μ' P) : S1 E t δ μ P := fun σ G M s m => by
  obtain ⟨M', h1, h2⟩ := m.sub hs
  exact sv_sub h1 (h σ G M' s h2)
/-- an owned list, known at slot k, is frozen -/
theorem s_frz {μa μb : Mp} (k : Nat) (hk : δ[k]? = some (some (Av ad))) (h : S1 E t (δ.set k (some (D K (.list ds)))) (μa ++ μb) P) : S1 E t δ (μa ++ (ad, OL K ds) :: μb) P := fun σ G M s m => by
  obtain ⟨Ma, Mb', rfl, ma, mb⟩ := Mm.cut m
  obtain ⟨⟨p, o⟩, Mb, rfl⟩ : ∃ x y, Mb' = x :: y := by
    match Mb', mb with
    | x :: y, _ => exact ⟨x, y, rfl⟩
  obtain ⟨⟨h1, xs, rfl, h2⟩, mb⟩ := mb
  have h1 : p = ad := h1
  subst h1
  intro G1 H F D e m1 hd
  rw [List.append_assoc] at m1
  obtain ⟨m3, e3⟩ := m1.freezeMid
  have e13 := e.trans e3
  refine h σ _ (Ma ++ Mb) ⟨by simp [s.1], fun j q hj => ?_⟩ (Mm.app (ma.mono e13) (mb.mono e13)) _ H F D (Ex.refl _) (by rw [List.append_assoc]; exact m3) (hd.up e3)
  rw [List.getElem?_set] at hj
  split at hj
  · rename_i hkj
    subst hkj
    split at hj
    · cases hj
      obtain ⟨v, hv, hp⟩ := s.get hk
      have hp : v = .ref p := hp
      subst hp
      exact ⟨_, hv, .lst (SqL.of upd_same) (dma h2 e13)⟩
    · cases hj
  · obtain ⟨v, hv, hp⟩ := s.get hj
    exact ⟨v, hv, q.m _ _ _ e13 hp⟩
/-- l[i] = e of an owned list -/
theorem s_setIx {tx ti : TE} {n : Nat} {i : Int} (h : E1 te δ μ (D K d) μ1) (h1 : E1 tx δ μ1 (Av ad) μ1) (h2 : E1 ti δ μ1 (D K (.int i)) μ1) (hl : μ1[n]? = some (ad, OL K ds)) (hi : 0 ≤ i ∧ i < ds.length) (k' : P.nx δ (μ1.set n (ad, OL K (ds.set i.toNat d)))) : S1 E (tAsg te (gSub tx ti rSetL)) δ μ P := fun σ G M s m G1 H F DD e m1 hd =>
  h σ G M s m G1 H F e m1 _ fun v G2 M2 H2 e2 m2 r2 => h1 σ G2 M2 (s.mono (e.trans e2)) r2.2 G2 H2 F (Ex.refl _) m2 _ fun x G3 M3 H3 e3 m3 r3 => h2 σ G3 M3 (s.mono ((e.trans e2).trans e3)) r3.2 G3 H3 F (Ex.refl _) m3 _ fun y G4 M4 H4 e4 m4 r4 => by
    have hx : x = .ref ad := r3.1
    subst hx
    rw [dp_int r4.1]
    obtain ⟨o, h5, xs, rfl, h6⟩ := r4.2.get hl
    have hxl := dpa_len h6
    have hj : ixN xs.length i = some i.toNat := by
      unfold ixN
      rw [if_pos hi.1, if_pos (by rw [hxl]; exact hi.2)]
    refine ⟨ad, xs, i, i.toNat, rfl, rfl, m4.getF h5, hj, hd.nx _ G4 _ _ ((e2.trans e3).trans e4) (m4.putF h5) ⟨_, _, k', s.mono (((e.trans e2).trans e3).trans e4), Mm.set ?_ r4.2 hl⟩⟩
    exact ⟨_, rfl, dpa_set h6 (dm r2.1 (e3.trans e4))⟩
theorem e_append (n : Nat) (h : E1 te δ μ (Av ad) μ) (h2 : E1 ta δ μ (D K d) μ1) (hl0 : ∃ (n' : Nat) (ds' : List PyData), μ[n']? = some (ad, OL K ds')) (hl : μ1[n]? = some (ad, OL K ds)) (hz : ds.length ≤ 100000) :
    E1 (tBM K "list" rAppend te (tCons ta tNil)) δ μ (D K .none) (μ1.set n (ad, OL K (ds ++ [d]))) := fun σ G M s m G1 H F e m1 q z =>
  h σ G M s m G1 H F e m1 _ fun v G2 M2 H2 e2 m2 r2 => by
    have hv : v = .ref ad := r2.1
    subst hv
    obtain ⟨n', ds', hn'⟩ := hl0
    obtain ⟨o, h5, xs, rfl, h6⟩ := r2.2.get hn'
    refine ⟨.inl ⟨rfl, xs, SqL.of (m2.getF h5)⟩, h2 σ G2 M2 (s.mono (e.trans e2)) r2.2 G2 H2 F (Ex.refl _) m2 _ fun y G3 M3 H3 e3 m3 r3 => ?_⟩
    obtain ⟨o, h7, ys, rfl, h8⟩ := r3.2.get hl
    refine ⟨ad, ys, y, rfl, rfl, m3.getF h7, sz_ok (by rw [dpa_len h8]; exact hz), z _ G3 _ _ (e2.trans e3) (m3.putF h7) ⟨.non, Mm.set ?_ r3.2 hl⟩⟩
    exact ⟨_, rfl, dpa_app h8 (.cons r3.1 .nil)⟩
/-- a list that stands still in the heap -/
def Hl (K : PySem.W.Frag) (ds : List PyData) : Pr := ⟨fun G v => ∃ a xs, v = .ref a ∧ G a = some (.lst xs) ∧ DpAll K G xs ds, fun G G' v e h => by obtain ⟨a, xs, h1, h2, h3⟩ := h; exact ⟨a, xs, h1, e _ _ h2, dma h3 e⟩⟩
theorem EO.frzH (h : EO K te δ μ ds μ') : E1 te δ μ (Hl K ds) μ' := fun σ G M s m G1 H F e m1 Q q => (h σ G M s m) G1 H F e m1 Q fun v G2 M2 H2 e2 m2 r => by
  obtain ⟨p, vs, M0, rfl, rfl, r1, r2⟩ := r
  obtain ⟨m3, e3⟩ := m2.freezeLast
  exact q _ _ M0 H2 (e2.trans e3) m3 ⟨⟨p, vs, rfl, upd_same, dma r1 e3⟩, r2.mono e3⟩
theorem lr_H : LR K (Hl K ds) μ ds := fun G v M p _ => by
  obtain ⟨a, xs, rfl, h1, h2⟩ := p
  exact ⟨a, xs, rfl, .G (SqL.of h1), h2⟩
theorem e_extendH (n : Nat) (h : E1 te δ μ (Av ad) μ) (h2 : E1 ta δ μ (Hl K es) μ1) (hl0 : ∃ (n' : Nat) (ds' : List PyData), μ[n']? = some (ad, OL K ds')) (hl : μ1[n]? = some (ad, OL K ds)) (hz : ds.length + es.length ≤ 100000) :
    E1 (tBM K "list" rExtend te (tCons ta tNil)) δ μ (D K .none) (μ1.set n (ad, OL K (ds ++ es))) := fun σ G M s m G1 H F e m1 q z =>
  h σ G M s m G1 H F e m1 _ fun v G2 M2 H2 e2 m2 r2 => by
    have hv : v = .ref ad := r2.1
    subst hv
    obtain ⟨n', ds', hn'⟩ := hl0
    obtain ⟨o, h5, xs, rfl, h6⟩ := r2.2.get hn'
    refine ⟨.inl ⟨rfl, xs, SqL.of (m2.getF h5)⟩, h2 σ G2 M2 (s.mono (e.trans e2)) r2.2 G2 H2 F (Ex.refl _) m2 _ fun y G3 M3 H3 e3 m3 r3 => ?_⟩
    obtain ⟨b, zs, rfl, hb, h9⟩ := r3.1
    obtain ⟨o, h7, ys, rfl, h8⟩ := r3.2.get hl
    refine ⟨ad, b, ys, zs, rfl, rfl, m3.getF h7, m3.ex _ _ hb, by rw [dpa_len h8, dpa_len h9]; exact Nat.le_of_lt (sz_ok hz), z _ G3 _ _ (e2.trans e3) (m3.putF h7) ⟨.non, Mm.set ?_ r3.2 hl⟩⟩
    exact ⟨_, rfl, dpa_app h8 h9⟩
end
/-- a walk of n turns; X i is known of the i-th value -/
structure WkY (J : It) (n : Nat) (X : Nat → Pr) (G2 : Hp) (kp : Mp) : Prop where
  ex : ∃ (Gd : Hp → Prop) (Y : Nat → Hp → V → Hp → Prop), Walk J n Gd Y ∧ (∀ G3 M3 F3 H3 Mk, Ex G2 G3 → Me G3 (M3 ++ F3) H3 → Mk.Sublist M3 → Mm G3 Mk kp → Gd H3) ∧
    ∀ i G3 M3 F3 H3 x H4 Mk, i < n → Ex G2 G3 → Me G3 (M3 ++ F3) H3 → Mk.Sublist M3 → Mm G3 Mk kp → Y i H3 x H4 → ∃ G4, Ex G3 G4 ∧ Me G4 (M3 ++ F3) H4 ∧ (X i).p G4 x
def IY (wi : TI) (δ : En) (μ : Mp) (n : Nat) (X : Nat → Pr) (μ' : Mp) (kp : Mp := []) : Prop := ∀ σ G M, Sl G σ δ → Mm G M μ → ∀ G1 H F, Ex G G1 → Me G1 (M ++ F) H → ∀ Q : It → Hp → Prop,
  (∀ (J : It) G2 M2 H2, Ex G1 G2 → Me G2 (M2 ++ F) H2 → Mm G2 M2 μ' → WkY J n X G2 kp → Q J H2) → wi σ H Q
section
variable {E : XK} {K : PySem.W.Frag} {te ta tb tc : TE} {tt tu : TT} {tA tr : TA} {δ δ' δ1 δ2 : En} {μ μ' μ0 μ1 μ2 μ3 : Mp} {Q Q1 Q2 : Pr} {Ps : List Pr} {R : Pr → Mp → Prop} {d e : PyData} {ds es : List PyData} {i j : Int} {a b c : Bool} {k n : Nat} {ad : Addr} {t u : TS} {P P' : PY} {g : TG} {gs : TGs} {vs : List Nat} {wi : TI} {X : Nat → Pr}
/-- over data that stands still -/
theorem i_list (h : E1 te δ μ (D K (.list ds)) μ') : IY (iList K te) δ μ ds.length (fun i => D K ((ds[i]?).getD .none)) μ' := fun σ G M s m G1 H F e m1 Q q =>
  h σ G M s m G1 H F e m1 _ fun v G2 M2 H2 e2 m2 r2 => by
    obtain ⟨a, xs, rfl, hs, hd⟩ := dp_lst r2.1
    refine ⟨a, rfl, ⟨xs, ex_l m2.ex hs⟩, q _ G2 M2 H2 e2 m2 r2.2 ⟨⟨_, _, by rw [← dpa_len hd]; exact walk_list, fun G3 M3 F3 H3 _ e3 m3 _ _ => ex_l m3.ex (ex_l e3 hs), fun i G3 M3 F3 H3 x H4 Mk hi e3 m3 hsub hkp y => ?_⟩⟩⟩
    obtain ⟨rfl, hx⟩ := y
    obtain ⟨d, h1, h2⟩ := dpa_atV hd hx
    exact ⟨G3, Ex.refl _, m3, by rw [h1]; exact dm h2 e3⟩
theorem i_tup (h : E1 te δ μ (D K (.tuple ds)) μ') : IY (iTup K te) δ μ ds.length (fun i => D K ((ds[i]?).getD .none)) μ' := fun σ G M s m G1 H F e m1 Q q =>
  h σ G M s m G1 H F e m1 _ fun v G2 M2 H2 e2 m2 r2 => by
    obtain ⟨a, xs, rfl, hs, hd⟩ := dp_tup r2.1
    refine ⟨a, rfl, ⟨xs, ex_t m2.ex hs⟩, q _ G2 M2 H2 e2 m2 r2.2 ⟨⟨_, _, by rw [← dpa_len hd]; exact walk_tup, fun G3 M3 F3 H3 _ e3 m3 _ _ => ex_t m3.ex (ex_t e3 hs), fun i G3 M3 F3 H3 x H4 Mk hi e3 m3 hsub hkp y => ?_⟩⟩⟩
    obtain ⟨rfl, hx⟩ := y
    obtain ⟨d, h1, h2⟩ := dpa_atV hd hx
    exact ⟨G3, Ex.refl _, m3, by rw [h1]; exact dm h2 e3⟩
theorem i_lp (h : E1 te δ μ (Lp Ps) μ') : IY (iList K te) δ μ Ps.length (fun i => (Ps[i]?).getD (D K .none)) μ' := fun σ G M s m G1 H F e m1 Q q =>
  h σ G M s m G1 H F e m1 _ fun v G2 M2 H2 e2 m2 r2 => by
    obtain ⟨a, xs, rfl, hs, hd⟩ := r2.1
    refine ⟨a, rfl, ⟨xs, SqL.of (m2.ex _ _ hs)⟩, q _ G2 M2 H2 e2 m2 r2.2 ⟨⟨_, _, by rw [← AP.len hd]; exact walk_list, fun G3 M3 F3 H3 _ e3 m3 _ _ => SqL.of (m3.ex _ _ (e3 _ _ hs)), fun i G3 M3 F3 H3 x H4 Mk hi e3 m3 hsub hkp y => ?_⟩⟩⟩
    obtain ⟨rfl, hx⟩ := y
    have hi' : ∃ q, Ps[i]? = some q := ⟨_, List.getElem?_eq_getElem hi⟩
    obtain ⟨q, hq⟩ := hi'
    obtain ⟨v, h1, h2⟩ := AP.get hd hq
    rw [h1] at hx
    cases hx
    exact ⟨G3, Ex.refl _, m3, by rw [hq]; exact q.m _ _ _ e3 h2⟩
theorem i_rng1 (h : E1 te δ μ (D K (.int i)) μ') (hi : -(2 ^ 62) ≤ i ∧ i < 2 ^ 62) : IY (iRng1 (tCons te tNil)) δ μ i.toNat (fun k => D K (.int (k : Int))) μ' := fun σ G M s m G1 H F e m1 Q q =>
  (a_cons h a_nil) σ G M s m G1 H F e m1 _ fun ws G2 M2 H2 e2 m2 a2 r2 => by
    match ws, a2 with
    | [v], ⟨p1, _⟩ =>
    rw [dp_int p1]
    refine ⟨i, rfl, hi.1, hi.2, q _ G2 M2 H2 e2 m2 r2 ⟨⟨_, _, walk_range, fun _ _ _ _ _ _ _ _ _ => trivial, fun k G3 M3 F3 H3 x H4 Mk hk e3 m3 hsub hkp y => ?_⟩⟩⟩
    obtain ⟨rfl, rfl⟩ := y
    exact ⟨G3, Ex.refl _, m3, by show Dp K G3 (.int (0 + (k : Int))) _; rw [Int.zero_add]; exact .int _⟩
theorem i_rng2 (h : E1 ta δ μ (D K (.int i)) μ1) (h2 : E1 tb δ μ1 (D K (.int j)) μ') (hi : -(2 ^ 62) ≤ i ∧ i < 2 ^ 62 ∧ -(2 ^ 62) ≤ j ∧ j < 2 ^ 62) : IY (iRng2 (tCons ta (tCons tb tNil))) δ μ (j - i).toNat (fun k => D K (.int (i + (k : Int)))) μ' := fun σ G M s m G1 H F e m1 Q q =>
  (a_cons h (a_cons h2 a_nil)) σ G M s m G1 H F e m1 _ fun ws G2 M2 H2 e2 m2 a2 r2 => by
    match ws, a2 with
    | [v, w], ⟨p1, p2, _⟩ =>
    rw [dp_int p1, dp_int p2]
    refine ⟨i, j, rfl, hi, q _ G2 M2 H2 e2 m2 r2 ⟨⟨_, _, walk_range, fun _ _ _ _ _ _ _ _ _ => trivial, fun k G3 M3 F3 H3 x H4 Mk hk e3 m3 hsub hkp y => ?_⟩⟩⟩
    obtain ⟨rfl, rfl⟩ := y
    exact ⟨G3, Ex.refl _, m3, .int _⟩
theorem i_enumR {kp : Mp} {P : Pr} (h : E1 te δ μ P μ') (hl : LR K P kp ds) (hs : kp.Sublist μ') : IY (iEnum K (tCons te tNil)) δ μ ds.length (fun i => D K (.tuple [.int (i : Int), (ds[i]?).getD .none])) μ' kp := fun σ G M s m G1 H F e m1 Q q =>
  (a_cons h a_nil) σ G M s m G1 H F e m1 _ fun ws G2 M2 H2 e2 m2 a2 r2 => by
    match ws, a2 with
    | [v], ⟨p1, _⟩ =>
    obtain ⟨Mk, h1, h2⟩ := r2.sub hs
    obtain ⟨a, xs, rfl, hs', hd⟩ := hl.at G2 v Mk F H2 p1 h2 (m2.sub (List.Sublist.append_right h1 F))
    have rd : ∀ G3 M3 F3 H3 Mk', Ex G2 G3 → Me G3 (M3 ++ F3) H3 → Mk'.Sublist M3 → Mm G3 Mk' kp → ∃ ys, SqL K H3 a ys ∧ DpAll K G3 ys ds := fun G3 M3 F3 H3 Mk' e3 m3 hsub hk => by
      obtain ⟨a', ys, ea, k1, k2⟩ := hl.at G3 (.ref a) Mk' F3 H3 (P.m _ _ _ e3 p1) hk (m3.sub (List.Sublist.append_right hsub F3))
      cases ea
      exact ⟨ys, k1, k2⟩
    refine ⟨a, xs, rfl, hs', q _ G2 M2 H2 e2 m2 r2 ⟨⟨(fun H => ∃ ys, SqL K H a ys ∧ ys.length = ds.length), (Ite K a).yld, ⟨?_, ?_, ?_⟩, ?_, ?_⟩⟩⟩
    · rintro i H hi ⟨ys, k1, k2⟩
      exact ⟨ys, ys[i], k1, List.getElem?_eq_getElem (by omega)⟩
    · rintro H ⟨ys, k1, k2⟩
      exact ⟨ys, k1, by omega⟩
    · rintro i H x H' hi _ y
      exact y
    · intro G3 M3 F3 H3 Mk' e3 m3 hsub hk
      obtain ⟨ys, k1, k2⟩ := rd G3 M3 F3 H3 Mk' e3 m3 hsub hk
      exact ⟨ys, k1, dpa_len k2⟩
    · rintro i G3 M3 F3 H3 x H4 Mk' hi e3 m3 hsub hk ⟨T, y, rfl, hT, rfl, hy⟩
      obtain ⟨ys, k1, k2⟩ := rd G3 M3 F3 H3 Mk' e3 m3 hsub hk
      obtain ⟨d, h3, h4⟩ := dpa_atV k2 (hy ys k1)
      have g3 := m3.free hT
      refine ⟨_, Ex.new g3, m3.newF hT, ?_⟩
      rw [h3]
      exact .tup (SqT.of upd_same) (.cons (.int _) (.cons (dm h4 (Ex.new g3)) .nil))
/-- for: I by the turn -/
theorem s_for {kp : Mp} (I : Nat → En → Mp → Prop) (hw : IY wi δ μ n X μ1 kp) (h0 : I 0 δ μ1)
    (hb : ∀ i δ' μ', i < n → I i δ' μ' → ∃ δ'' ks, G1 g (X i) δ' δ'' ks ∧ S1 E t δ'' μ' { P with nx := I (i + 1), ct := I (i + 1), bk := P.nx })
    (he : ∀ δ' μ', I n δ' μ' → P.nx δ' μ') (hk : ∀ i δ' μ', I i δ' μ' → kp.Sublist μ' := by intros; exact List.nil_sublist _) : S1 E (tFor wi g t) δ μ P := fun σ G M s m G1 H F D e m1 hd =>
  hw σ G M s m G1 H F e m1 _ fun J G2 M2 H2 e2 m2 r2 => by
    intro ⟨⟨Gd, Y, W, hG, hY⟩⟩
    refine for_it W (fun i σ' H' => ∃ G' M' δ' μ', I i δ' μ' ∧ Ex G2 G' ∧ Me G' (M' ++ F) H' ∧ Sl G' σ' δ' ∧ Mm G' M' μ') ⟨G2, M2, δ, μ1, h0, Ex.refl _, m2, s.mono (e.trans e2), r2⟩ ?_ ?_ ?_
    · rintro i σ' H' _ ⟨G', M', δ', μ', ii, e', m', _, r'⟩
      obtain ⟨Mk, h1, h2⟩ := r'.sub (hk _ _ _ ii)
      exact hG G' M' F H' Mk e' m' h1 h2
    · rintro i x σ' H' H4 hi ⟨G', M', δ', μ', ii, e', m', s', r'⟩ y
      obtain ⟨Mk, hk1, hk2⟩ := r'.sub (hk _ _ _ ii)
      obtain ⟨G4, e4, m4, px⟩ := hY i G' M' F H' x H4 Mk hi e' m' hk1 hk2 y
      obtain ⟨δ'', ks, hg, hs⟩ := hb i δ' μ' hi ii
      refine hg σ' G4 M' F H4 x (s'.mono e4) px m4 _ fun σ5 s5 _ => hs σ5 G4 M' s5 (r'.mono e4) G4 H4 F _ (Ex.refl _) m4 ⟨?_, ?_, ?_, ?_, ?_⟩
      · exact fun σ2 G3 M3 H3 e3 m3 ⟨x, y, n1, n2, n3⟩ => ⟨G3, M3, x, y, n1, (e'.trans e4).trans e3, m3, n2, n3⟩
      · exact fun v G3 M3 H3 e3 m3 r => hd.rt v G3 M3 H3 (((e2.trans e').trans e4).trans e3) m3 r
      · exact fun v G3 M3 H3 e3 m3 r => hd.nx v G3 M3 H3 (((e2.trans e').trans e4).trans e3) m3 r
      · exact fun σ2 G3 M3 H3 e3 m3 ⟨x, y, n1, n2, n3⟩ => ⟨G3, M3, x, y, n1, (e'.trans e4).trans e3, m3, n2, n3⟩
      · exact fun c v G3 M3 H3 e3 m3 r => hd.ex c v G3 M3 H3 (((e2.trans e').trans e4).trans e3) m3 r
    · rintro σ' H' ⟨G', M', δ', μ', ii, e', m', s', r'⟩
      exact hd.nx σ' G' M' H' (e2.trans e') m' ⟨δ', μ', he _ _ ii, s', r'⟩
/-- [e for x in l if t]: owned; Ms: what else is owned, by the turn -/
theorem o_lc {kp : Mp} (Ms : Nat → Mp) (bb : Nat → Bool) (fd : Nat → PyData) (hw : IY wi δ μ n X (Ms 0) kp) (hn : n ≤ 100000)
    (hb : ∀ i, i < n → ∃ δ'', G1 g (X i) (wipeY δ vs) δ'' vs ∧ T1 tt δ'' (Ms i) (bb i) (Ms i) ∧ (bb i = true → E1 te δ'' (Ms i) (D K (fd i)) (Ms (i + 1))) ∧ (bb i = false → Ms (i + 1) = Ms i)) (hk : ∀ i, kp.Sublist (Ms i) := by intros; exact List.nil_sublist _) :
    EO K (tLc wi g tt te vs) δ μ (kept n bb fd) (Ms n) := fun σ G M s m G1 H F e m1 Q q =>
  hw σ G M s m G1 H F e m1 _ fun J G2 M2 H2 e2 m2 r2 => by
    rintro ⟨⟨Gd, Y, W, hG, hY⟩⟩ D hD
    refine lc_it W (fun i H' => ∃ G' M' ws, Ex G2 G' ∧ Me G' (M' ++ (D, .lst ws) :: F) H' ∧ Mm G' M' (Ms i) ∧ DpAll K G' ws (kept i bb fd)) ?_ ?_ ?_ ?_
    · exact ⟨G2, M2, [], Ex.refl _, by rw [mem_mid]; exact m2.newMid hD, r2, .nil⟩
    · rintro i H' _ ⟨G', M', ws, e', m', r', _⟩
      obtain ⟨Mk, h1, h2⟩ := r'.sub (hk i)
      exact hG G' M' _ H' Mk e' m' h1 h2
    · rintro i x H' H4 hi ⟨G', M', ws, e', m', r', da⟩ y
      obtain ⟨Mk, hk1, hk2⟩ := r'.sub (hk i)
      obtain ⟨G4, e4, m4, px⟩ := hY i G' M' _ H' x H4 Mk hi e' m' hk1 hk2 y
      obtain ⟨δ'', hg, ht, he, hno⟩ := hb i hi
      have s4 : Sl G4 (wipe σ vs) (wipeY δ vs) := (s.mono (((e.trans e2).trans e').trans e4)).wipe vs
      refine hg _ G4 M' _ H4 x s4 px m4 _ fun σ5 s5 w5 => ⟨by rw [w5.wipe, wipe_wipe], ht σ5 G4 M' s5 (r'.mono e4) G4 H4 _ (Ex.refl _) m4 _ fun G5 M5 H5 e5 m5 r5 => ?_⟩
      have hlw : ws.length ≤ i := by rw [dpa_len da]; exact kept_len i bb fd
      cases hbb : bb i with
      | true =>
        rw [if_pos rfl]
        refine he hbb σ5 G5 M5 (s5.mono e5) r5 G5 H5 _ (Ex.refl _) m5 _ fun y G6 M6 H6 e6 m6 r6 => ?_
        have hm : (M6 ++ (D, HO.lst ws) :: F)[M6.length]? = some (D, .lst ws) := by
          rw [List.getElem?_append_right (Nat.le_refl _), Nat.sub_self]
          rfl
        refine ⟨ws, m6.get hm, sz_ok (by omega), G6, M6, ws ++ [y], ((e'.trans e4).trans e5).trans e6, ?_, r6.2, ?_⟩
        · have := m6.put (o' := .lst (ws ++ [y])) hm
          rw [List.set_append_right _ _ (Nat.le_refl _), Nat.sub_self] at this
          exact this
        · rw [kept_succ, hbb, if_pos rfl]
          exact dpa_app (dma da ((e4.trans e5).trans e6)) (.cons r6.1 .nil)
      | false =>
        rw [if_neg Bool.false_ne_true]
        refine ⟨G5, M5, ws, (e'.trans e4).trans e5, m5, by rw [hno hbb]; exact r5, ?_⟩
        rw [kept_succ, hbb, if_neg Bool.false_ne_true, List.append_nil]
        exact dma da (e4.trans e5)
    · rintro H' ⟨G', M', ws, e', m', r', da⟩
      rw [mem_mid] at m'
      exact q _ G' _ H' (e2.trans e') m' ⟨D, ws, M', rfl, rfl, da, r'⟩
end
end SY
set_option Elab.async false
set_option linter.all false
set_option maxRecDepth 100000
namespace SY
open PySem PySem.Spec L2 SX
/-- less is told -/
def Imp (P Q : Pr) : Prop := ∀ G v, P.p G v → Q.p G v
theorem Imp.refl (P : Pr) : Imp P P := fun _ _ h => h
theorem imp_D {K : PySem.W.Frag} {d e : PyData} (h : d = e) : Imp (D K d) (D K e) := by rw [h]; exact Imp.refl _
theorem imp_H {K : PySem.W.Frag} {ds : List PyData} : Imp (Hl K ds) (D K (.list ds)) := fun G v h => by
  obtain ⟨a, xs, rfl, h1, h2⟩ := h
  exact .lst (SqL.of h1) h2
def startY (N : List Str) (Ps : List Pr) : En := Ps.map some ++ List.replicate (N.length - Ps.length) none
theorem sl_start {G : Hp} {N : List Str} {Ps : List Pr} {vs : List V} (h : AP G Ps vs) : Sl G (start N vs) (startY N Ps) := by
  have hl := AP.len h
  refine ⟨by simp [L2.start, startY, hl], fun k P hk => ?_⟩
  unfold startY at hk
  unfold L2.start
  rw [List.getElem?_append] at hk ⊢
  split at hk
  · rename_i hlt
    rw [List.getElem?_map] at hk
    cases q : Ps[k]? with
    | none => rw [q] at hk; cases hk
    | some p =>
      rw [q] at hk
      cases hk
      obtain ⟨v, h1, h2⟩ := AP.get h q
      rw [if_pos (by simpa [hl] using hlt)]
      exact ⟨v, by rw [List.getElem?_map, h1]; rfl, h2⟩
  · rw [List.getElem?_replicate] at hk
    split at hk <;> cases hk
/-- a promise: the arguments, what is owned there, what comes back and what is owned then -/
def sp {α : Type} (A : α → List Pr) (m : α → Mp) (pre : α → Prop) (R : α → Pr → Mp → Prop) : Sp :=
  spec (fun x G M vs => Mm G M (m x) ∧ AP G (A x) vs ∧ pre x) (fun x _ G v M' => ∃ Q μ', R x Q μ' ∧ Q.p G v ∧ Mm G M' μ')
/-- what is handed back is as promised -/
@[irreducible] def BackY {α : Type} (R : α → Pr → Mp → Prop) (x : α) (Q : Pr) (μ : Mp) : Prop := ∃ Q2 μ2, R x Q2 μ2 ∧ Imp Q Q2 ∧ μ2.Sublist μ
theorem backY_mk {α : Type} {R : α → Pr → Mp → Prop} {x : α} {Q Q2 : Pr} {μ μ2 : Mp} (h : R x Q2 μ2) (hi : Imp Q Q2) (hs : μ2.Sublist μ) : BackY R x Q μ := by
  unfold BackY
  exact ⟨Q2, μ2, h, hi, hs⟩
theorem backY_of {α : Type} {R : α → Pr → Mp → Prop} {x : α} {Q : Pr} {μ : Mp} (h : BackY R x Q μ) : ∃ Q2 μ2, R x Q2 μ2 ∧ Imp Q Q2 ∧ μ2.Sublist μ := by
  unfold BackY at h
  exact h
section
variable {P : Program} {w : World} {K : PySem.W.Frag} {mg : Str → Option Value} {base : Heap} {α : Type} {A : α → List Pr} {m : α → Mp} {pre : α → Prop} {R : α → Pr → Mp → Prop}
theorem fn_Y {x qual : Str} {st : Stmt} {f : Addr} {fd : FuncData} {N ps : List Str} {k : Nat} (F : Fun K x qual st f fd) (S : FnScope N ps (defScope st)) (len : ∀ x, (A x).length = ps.length)
    (body : ∀ (cdv : Value) (Ar : Around) (outer : List Env) (s : Shared) (H : Hp) (E : XK), Room k (Ar.deeper (PyProof.Rows.envOfC qual (defScope st) s.heap.objs.size f cdv)) →
      ∃ t, PSs (cxOf CX0 P w K mg base N qual (defScope st) f cdv Ar outer s H E).nox (defBody st) t ∧ ∀ x, pre x → S1 E t (startY N (A x)) (m x) { nx := fun _ μ => BackY R x (D K .none) μ, rt := BackY R x }) :
    FnOk P w K mg base CX0 (k + 1) f fd ps (sp A m pre R) := by
  refine fn_sv F S (fun x G M vs h => by rw [AP.len h.2.1, len]) fun cdv Ar outer s H E hr => ?_
  obtain ⟨t, ht, hs⟩ := body cdv Ar outer s H E hr
  refine ⟨t, ht, fun x G M vs h => ?_⟩
  have hb : ∀ {Q : Pr} {μ : Mp} {G' : Hp} {v : V} {M' : Mem} {F : Mem} {H' : Hp}, BackY R x Q μ → Q.p G' v → Mm G' M' μ → Me G' (M' ++ F) H' → ∃ M2, Me G' (M2 ++ F) H' ∧ ∃ Q2 μ2, R x Q2 μ2 ∧ Q2.p G' v ∧ Mm G' M2 μ2 := by
    intro Q μ G' v M' F H' hq hp hm he
    obtain ⟨Q2, μ2, h1, h2, h3⟩ := backY_of hq
    obtain ⟨M2, h4, h5⟩ := hm.sub h3
    exact ⟨M2, he.sub (List.Sublist.append_right h4 F), Q2, μ2, h1, h2 _ _ hp, h5⟩
  intro G1 H F DD e m1 hd
  refine hs x h.2.2 _ G M (sl_start h.2.1) h.1 G1 H F DD e m1 ⟨?_, ?_, ?_, ?_, ?_⟩
  · rintro σ2 G2 M2 H2 e2 m2 ⟨δ2, μ2, n0, n1, n2⟩
    obtain ⟨M3, m3, r⟩ := hb n0 .non n2 m2
    exact hd.nx σ2 G2 M3 H2 e2 m3 r
  · rintro v G2 M2 H2 e2 m2 ⟨Q2, μ2, n0, n1, n2⟩
    obtain ⟨M3, m3, r⟩ := hb n0 n1 n2 m2
    exact hd.rt v G2 M3 H2 e2 m3 r
  · rintro σ2 G2 M2 H2 e2 m2 ⟨δ2, μ2, n0, _⟩
    exact n0.elim
  · rintro σ2 G2 M2 H2 e2 m2 ⟨δ2, μ2, n0, _⟩
    exact n0.elim
  · rintro c d G2 M2 H2 e2 m2 ⟨μ2, n0, _⟩
    exact n0.elim
end
theorem cx_K {P : Program} {w : World} {K : PySem.W.Frag} {mg : Str → Option Value} {base : Heap} {N : List Str} {q : Str} {sc : Scope} {f : Addr} {cdv : Value} {A : Around} {outer : List Env} {s : Shared} {H : Hp} {E : XK} : (cxOf CX0 P w K mg base N q sc f cdv A outer s H E).nox.K = K := rfl
theorem cx_KX {P : Program} {w : World} {K : PySem.W.Frag} {mg : Str → Option Value} {base : Heap} {N : List Str} {q : Str} {sc : Scope} {f : Addr} {cdv : Value} {A : Around} {outer : List Env} {s : Shared} {H : Hp} {E : XK} {CX : CXT} : (cxOf CX P w K mg base N q sc f cdv A outer s H E).K = K := rfl
/-- nothing owned, one thing back -/
abbrev spD {α : Type} (A : α → List Pr) (pre : α → Prop) (B : α → Pr) : Sp := sp A (fun _ => []) pre (fun x Q μ => Q = B x ∧ μ = [])
/-- a deck first -/
abbrev spK {α : Type} (A : α → List Pr) (pre : α → Prop) (D0 : α → Deck) (B : α → Pr) (D1 : α → Deck) : Sp := sp (fun x : Addr × α => Av x.1 :: A x.2) (fun x => [(x.1, DKo (D0 x.2))]) (fun x => pre x.2) (fun x Q μ => Q = B x.2 ∧ μ = [(x.1, DKo (D1 x.2))])
theorem back_D {α : Type} {B : α → Pr} {x : α} {Q : Pr} {μ : Mp} (h : Imp Q (B x)) : BackY (fun x Q μ => Q = B x ∧ μ = []) x Q μ := backY_mk ⟨rfl, rfl⟩ h (List.nil_sublist _)
theorem back_K {α : Type} {B : α → Pr} {D1 : α → Deck} {x : Addr × α} {Q : Pr} {D : Deck} {μ : Mp} (h : Imp Q (B x.2)) (hD : D = D1 x.2) : BackY (fun x Q μ => Q = B x.2 ∧ μ = [(x.1, DKo (D1 x.2))]) x Q ((x.1, DKo D) :: μ) := backY_mk ⟨rfl, rfl⟩ h (by rw [hD]; exact (List.nil_sublist _).cons_cons _)
section
variable {E : XK} {K : PySem.W.Frag} {te ta tb tc tl : TE} {tt tu : TT} {tA tr : TA} {δ δ' : En} {μ μ' μ0 μ1 μ2 rest : Mp} {Q P1 P2 : Pr} {Ps : List Pr} {d e : PyData} {ds es : List PyData} {i j : Int} {a b c : Bool} {k n : Nat} {ad : Addr} {g : TG} {vs : List Nat} {wi : TI}
section
variable {α : Type} {A : α → List Pr} {m : α → Mp} {pre : α → Prop} {R : α → Pr → Mp → Prop} {B : α → Pr} {D0 D1 : α → Deck}
theorem y_call (x : α) (h : EA tA δ μ (A x) (m x ++ rest)) (hp : pre x) : EY (tCall (sp A m pre R) [] E tA) δ μ (fun Q μ' => ∃ μ2, R x Q μ2 ∧ μ' = μ2 ++ rest) := fun σ G M s mm G1 H F e m1 q z =>
  h σ G M s mm G1 H F e m1 _ fun vs G2 M2 H2 e2 m2 a2 r2 => by
    obtain ⟨Ma, Mb, rfl, ma, mb⟩ := Mm.cut r2
    refine ⟨x, G2, Ma, Mb ++ F, by rw [← List.append_assoc]; exact m2, ⟨ma, by rw [List.append_nil]; exact a2, hp⟩, fun v G' M' H' e' m' ⟨Q, μ', r0, r1, r2⟩ => ?_⟩
    exact z v G' (M' ++ Mb) H' (e2.trans e') (by rw [List.append_assoc]; exact m') ⟨Q, _, ⟨μ', r0, rfl⟩, r1, Mm.app r2 (mb.mono e')⟩
theorem e_callD (x : α) (h : EA tA δ μ (A x) μ1) (hp : pre x) : E1 (tCall (spD A pre B) [] E tA) δ μ (B x) μ1 := ((y_call (m := fun _ => []) (R := fun x Q μ => Q = B x ∧ μ = []) x h hp).imp fun Q μ' r => by
  obtain ⟨_, ⟨rfl, rfl⟩, rfl⟩ := r
  exact ⟨rfl, rfl⟩).one
theorem e_callR {α : Type} {A : α → List Pr} {m : α → Mp} {pre : α → Prop} {B : α → Pr} (x : α) (h : EA tA δ μ (A x) (m x)) (hp : pre x) : E1 (tCall (sp A m pre (fun x Q μ => Q = B x ∧ μ = m x)) [] E tA) δ μ (B x) (m x) := ((y_call (m := m) (rest := []) (R := fun x Q μ => Q = B x ∧ μ = m x) x (by rw [List.append_nil]; exact h) hp).imp fun Q μ' r => by
  obtain ⟨_, ⟨rfl, rfl⟩, rfl⟩ := r
  exact ⟨rfl, List.append_nil _⟩).one
theorem e_callK (x : α) (h : EA tA δ μ (Av ad :: A x) ((ad, DKo (D0 x)) :: rest)) (hp : pre x) : E1 (tCall (spK A pre D0 B D1) [] E tA) δ μ (B x) ((ad, DKo (D1 x)) :: rest) := ((y_call (A := fun x : Addr × α => Av x.1 :: A x.2) (m := fun x => [(x.1, DKo (D0 x.2))]) (pre := fun x => pre x.2) (R := fun x Q μ => Q = B x.2 ∧ μ = [(x.1, DKo (D1 x.2))]) (ad, x) h hp).imp fun Q μ' r => by
  obtain ⟨_, ⟨rfl, rfl⟩, rfl⟩ := r
  exact ⟨rfl, rfl⟩).one
end
theorem kept_mapM {α : Type} {enc out : α → PyData} {xs : List α} {fd : Nat → PyData} (h : ∀ (i : Nat) x, xs[i]? = some x → fd i = out x) : kept xs.length (fun _ => true) fd = xs.map out := kept_ext (by simp) fun i d hd => by
  rw [List.getElem?_map] at hd
  cases q : xs[i]? with
  | none => rw [q] at hd; cases hd
  | some x => rw [q] at hd; cases hd; exact h i x q
theorem getD_map {α : Type} {enc : α → PyData} {xs : List α} {i : Nat} {x : α} (h : xs[i]? = some x) : ((xs.map enc)[i]?).getD .none = enc x := by
  rw [List.getElem?_map, h]
  rfl
/-- a walk over typed items -/
theorem o_mapW {α : Type} {out : α → PyData} {xs : List α} {X : Nat → Pr} {en : α → Pr} (hw : IY wi δ μ xs.length X μ1) (hX : ∀ (i : Nat) x, xs[i]? = some x → X i = en x) (hn : xs.length ≤ 100000)
    (hb : ∀ x, x ∈ xs → ∃ δ'', G1 g (en x) (wipeY δ vs) δ'' vs ∧ E1 te δ'' μ1 (D K (out x)) μ1) : EO K (tLc wi g tYes te vs) δ μ (xs.map out) μ1 := by
  have := o_lc (K := K) (g := g) (tt := tYes) (te := te) (vs := vs) (fun _ => μ1) (fun _ => true) (fun i => ((xs.map out)[i]?).getD .none) hw hn fun i hi => by
    have hx : xs[i]? = some xs[i] := List.getElem?_eq_getElem hi
    obtain ⟨δ'', h1, h2⟩ := hb xs[i] (List.getElem_mem hi)
    exact ⟨δ'', by rw [hX i _ hx]; exact h1, t_yes, fun _ => by rw [getD_map hx]; exact h2, fun z => by cases z⟩
  rw [kept_mapM (enc := out) (out := out) fun i x h => getD_map h] at this
  exact this
theorem o_mapL {α : Type} {enc out : α → PyData} {xs : List α} (hs : E1 tl δ μ (D K (.list (xs.map enc))) μ1) (hn : xs.length ≤ 100000)
    (hb : ∀ x, x ∈ xs → E1 te ((wipeY δ vs).set k (some (D K (enc x)))) μ1 (D K (out x)) μ1) (hk : k ∈ vs := by decide) : EO K (tLc (iList K tl) (gName k) tYes te vs) δ μ (xs.map out) μ1 :=
  o_mapW (X := fun i => D K (((xs.map enc)[i]?).getD .none)) (en := fun x => D K (enc x)) (by have := i_list hs; rw [List.length_map] at this; exact this) (fun i x h => by rw [getD_map h]) hn fun x hx => ⟨_, g_name hk, hb x hx⟩
theorem o_mapT {α : Type} {enc out : α → PyData} {xs : List α} (hs : E1 tl δ μ (D K (.tuple (xs.map enc))) μ1) (hn : xs.length ≤ 100000)
    (hb : ∀ x, x ∈ xs → E1 te ((wipeY δ vs).set k (some (D K (enc x)))) μ1 (D K (out x)) μ1) (hk : k ∈ vs := by decide) : EO K (tLc (iTup K tl) (gName k) tYes te vs) δ μ (xs.map out) μ1 :=
  o_mapW (X := fun i => D K (((xs.map enc)[i]?).getD .none)) (en := fun x => D K (enc x)) (by have := i_tup hs; rw [List.length_map] at this; exact this) (fun i x h => by rw [getD_map h]) hn fun x hx => ⟨_, g_name hk, hb x hx⟩
theorem o_mapR {out : Nat → PyData} (hs : E1 ta δ μ (D K (.int i)) μ1) (hi : -100000 ≤ i ∧ i ≤ 100000)
    (hb : ∀ x : Nat, x < i.toNat → E1 te ((wipeY δ vs).set k (some (D K (.int (x : Int))))) μ1 (D K (out x)) μ1) (hk : k ∈ vs := by decide) : EO K (tLc (iRng1 (tCons ta tNil)) (gName k) tYes te vs) δ μ ((List.range i.toNat).map out) μ1 :=
  o_mapW (xs := List.range i.toNat) (X := fun k => D K (.int (k : Int))) (en := fun x => D K (.int (x : Int))) (by rw [List.length_range]; exact i_rng1 hs (by omega)) (fun i x h => by rw [List.getElem?_eq_some_iff] at h; obtain ⟨_, h⟩ := h; rw [← h, List.getElem_range]) (by rw [List.length_range]; omega) fun x hx => ⟨_, g_name hk, hb x (List.mem_range.mp hx)⟩
theorem o_mapR2 {out : Int → PyData} (hs : E1 ta δ μ (D K (.int i)) μ0) (hs2 : E1 tb δ μ0 (D K (.int j)) μ1) (hi : -50000 ≤ i ∧ i ≤ 50000 ∧ -50000 ≤ j ∧ j ≤ 50000)
    (hb : ∀ x : Int, i ≤ x → x < j → E1 te ((wipeY δ vs).set k (some (D K (.int x)))) μ1 (D K (out x)) μ1) (hk : k ∈ vs := by decide) : EO K (tLc (iRng2 (tCons ta (tCons tb tNil))) (gName k) tYes te vs) δ μ (((List.range (j - i).toNat).map fun (x : Nat) => i + (x : Int)).map out) μ1 :=
  o_mapW (xs := (List.range (j - i).toNat).map fun (x : Nat) => i + (x : Int)) (X := fun k => D K (.int (i + (k : Int)))) (en := fun x => D K (.int x)) (by rw [List.length_map, List.length_range]; exact i_rng2 hs hs2 (by omega)) (fun n x h => by
    rw [List.getElem?_map] at h
    cases q : (List.range (j - i).toNat)[n]? with
    | none => rw [q] at h; cases h
    | some y =>
      rw [q] at h
      cases h
      rw [List.getElem?_eq_some_iff] at q
      obtain ⟨_, q⟩ := q
      rw [← q, List.getElem_range]) (by rw [List.length_map, List.length_range]; omega) fun x hx => ⟨_, g_name hk, by
    obtain ⟨n, hn, rfl⟩ := List.mem_map.mp hx
    rw [List.mem_range] at hn
    exact hb _ (by omega) (by omega)⟩
/-- with a test -/
theorem kept_filter {α : Type} {out : α → PyData} {xs : List α} {p : α → Bool} {bb : Nat → Bool} {fd : Nat → PyData} (h : ∀ (i : Nat) x, xs[i]? = some x → bb i = p x ∧ fd i = out x) : kept xs.length bb fd = (xs.filter p).map out := by
  have : ∀ n, n ≤ xs.length → kept n bb fd = ((xs.take n).filter p).map out := fun n => by
    induction n with
    | zero => intro _; rfl
    | succ n ih =>
      intro hn
      have hx : xs[n]? = some xs[n] := List.getElem?_eq_getElem (by omega)
      obtain ⟨h1, h2⟩ := h n _ hx
      rw [kept_succ, ih (by omega), List.take_add_one, hx, h1, h2]
      simp only [Option.toList, List.filter_append, List.map_append]
      cases hp : p xs[n] <;> simp [hp]
  rw [this _ (Nat.le_refl _), List.take_length]
theorem o_filtW {α : Type} {out : α → PyData} {p : α → Bool} {xs : List α} {X : Nat → Pr} {en : α → Pr} (hw : IY wi δ μ xs.length X μ1) (hX : ∀ (i : Nat) x, xs[i]? = some x → X i = en x) (hn : xs.length ≤ 100000)
    (hb : ∀ x, x ∈ xs → ∃ δ'', G1 g (en x) (wipeY δ vs) δ'' vs ∧ T1 tt δ'' μ1 (p x) μ1 ∧ (p x = true → E1 te δ'' μ1 (D K (out x)) μ1)) : EO K (tLc wi g tt te vs) δ μ ((xs.filter p).map out) μ1 := by
  have := o_lc (K := K) (g := g) (tt := tt) (te := te) (vs := vs) (fun _ => μ1) (fun i => ((xs[i]?).map p).getD false) (fun i => ((xs.map out)[i]?).getD .none) hw hn fun i hi => by
    have hx : xs[i]? = some xs[i] := List.getElem?_eq_getElem hi
    obtain ⟨δ'', h1, h2, h3⟩ := hb xs[i] (List.getElem_mem hi)
    refine ⟨δ'', by rw [hX i _ hx]; exact h1, by rw [hx]; exact h2, fun z => by rw [getD_map hx]; rw [hx] at z; exact h3 z, fun _ => rfl⟩
  rw [kept_filter (p := p) (out := out) fun i x h => ⟨by rw [h]; rfl, getD_map h⟩] at this
  exact this
theorem o_filtL {α : Type} {enc out : α → PyData} {p : α → Bool} {xs : List α} (hs : E1 tl δ μ (D K (.list (xs.map enc))) μ1) (hn : xs.length ≤ 100000)
    (hb : ∀ x, x ∈ xs → T1 tt ((wipeY δ vs).set k (some (D K (enc x)))) μ1 (p x) μ1) (hb2 : ∀ x, x ∈ xs → p x = true → E1 te ((wipeY δ vs).set k (some (D K (enc x)))) μ1 (D K (out x)) μ1) (hk : k ∈ vs := by decide) : EO K (tLc (iList K tl) (gName k) tt te vs) δ μ ((xs.filter p).map out) μ1 :=
  o_filtW (X := fun i => D K (((xs.map enc)[i]?).getD .none)) (en := fun x => D K (enc x)) (by have := i_list hs; rw [List.length_map] at this; exact this) (fun i x h => by rw [getD_map h]) hn fun x hx => ⟨_, g_name hk, hb x hx, hb2 x hx⟩
theorem o_filtR {out : Nat → PyData} {p : Nat → Bool} (hs : E1 ta δ μ (D K (.int i)) μ1) (hi : -100000 ≤ i ∧ i ≤ 100000)
    (hb : ∀ x : Nat, x < i.toNat → T1 tt ((wipeY δ vs).set k (some (D K (.int (x : Int))))) μ1 (p x) μ1) (hb2 : ∀ x : Nat, x < i.toNat → p x = true → E1 te ((wipeY δ vs).set k (some (D K (.int (x : Int))))) μ1 (D K (out x)) μ1) (hk : k ∈ vs := by decide) : EO K (tLc (iRng1 (tCons ta tNil)) (gName k) tt te vs) δ μ (((List.range i.toNat).filter p).map out) μ1 :=
  o_filtW (xs := List.range i.toNat) (X := fun k => D K (.int (k : Int))) (en := fun x => D K (.int (x : Int))) (by rw [List.length_range]; exact i_rng1 hs (by omega)) (fun i x h => by rw [List.getElem?_eq_some_iff] at h; obtain ⟨_, h⟩ := h; rw [← h, List.getElem_range]) (by rw [List.length_range]; omega) fun x hx => ⟨_, g_name hk, hb x (List.mem_range.mp hx), hb2 x (List.mem_range.mp hx)⟩
theorem e_allO {f : α → Bool} {xs : List α} (h : EO K te δ μ (xs.map fun x => .bool (f x)) μ1) : E1 (tCB (rAll K) (tCons te tNil)) δ μ (D K (.bool (xs.all f))) μ1 := by
  have := e_all (bs := xs.map f) (by rw [List.map_map]; exact h.frz)
  rw [List.all_map] at this
  exact this
theorem e_anyO {f : α → Bool} {xs : List α} (h : EO K te δ μ (xs.map fun x => .bool (f x)) μ1) : E1 (tCB (rAny K) (tCons te tNil)) δ μ (D K (.bool (xs.any f))) μ1 := by
  have := e_any (bs := xs.map f) (by rw [List.map_map]; exact h.frz)
  rw [List.any_map] at this
  exact this
theorem e_sumO {f : α → Int} {xs : List α} (h : EO K te δ μ (xs.map fun x => .int (f x)) μ1) : E1 (tCB (rSum K) (tCons te tNil)) δ μ (D K (.int (xs.map f).sum)) μ1 :=
  e_sum (P1 := D K (.list ((xs.map f).map .int))) (by rw [List.map_map]; exact h.frz) lr_D
end
end SY
set_option Elab.async false
set_option linter.all false
set_option maxRecDepth 100000
namespace SY
open PySem PySem.Spec L2 SX
inductive Deed where
  | forget | again | off (d : Int) | read (j d : Int) | copy (j : Int) | swap | out | twice | right
  deriving DecidableEq
def Deed.L : Deed → List PyData
  | .forget => [.str "forget"]
  | .again => [.str "again"]
  | .off d => [.str "off", .int d]
  | .read j d => [.str "read", .int j, .int d]
  | .copy j => [.str "copy", .int j]
  | .swap => [.str "swap"]
  | .out => [.str "out"]
  | .twice => [.str "twice"]
  | .right => [.str "right"]
def Deed.word : Deed → Str
  | .forget => "forget"
  | .again => "again"
  | .off _ => "off"
  | .read _ _ => "read"
  | .copy _ => "copy"
  | .swap => "swap"
  | .out => "out"
  | .twice => "twice"
  | .right => "right"
abbrev deedD (x : Deed) : PyData := .tuple x.L
abbrev odD : Option Deed → PyData
  | none => .none
  | some x => deedD x
theorem cdiv_small {i j : Int} (h0 : 0 < j) (h1 : j < 2 ^ 64) : CDivW i j := wide_div h0 (b := 64) (by omega) (by decide) (by decide)
theorem e_word {K : PySem.W.Frag} {ta : TE} {δ : En} {μ μ1 : Mp} {x : Deed} (h : E1 ta δ μ (D K (.tuple (Deed.L x))) μ1) : E1 (tOp (rIxT K) ta (tC (.int 0))) δ μ (D K (.str x.word)) μ1 := e_ixT h e_cI (by cases x <;> rfl)
/-- what a doing gives: figures, the carry then; none where it is not possible -/
def stepD : Option (List Int × Int) → PyData
  | none => .none
  | some (fs, c) => .tuple [.list (fs.map .int), .int c]
/-- .., its figures a list that stands in the heap -/
def stepP (K : PySem.W.Frag) : Option (List Int × Int) → Pr
  | none => D K .none
  | some (fs, c) => Tp [Hl K (fs.map .int), D K (.int c)]
def doSum (b t c : Int) : Option Deed → Option (List Int × Int)
  | some .out => some ([], c)
  | some .forget => if (t + c) / b > 0 then some ([(t + c) % b], 0) else none
  | some .again => some ([(t + c) % b], (t + c) / b + 1)
  | some (.off d) => some ([((t + c) % b + d) % b], (t + c) / b)
  | some .twice => some ([(t + c) % b, (t + (t + c) / b) % b], (t + (t + c) / b) / b)
  | _ => some ([(t + c) % b], (t + c) / b)
def sumTaken (b : Int) (c : List Int) (cp : Int) : Option Deed → Int
  | some (.read j d) => c.sum - c.getD j.toNat 0 + (c.getD j.toNat 0 + d) % b
  | some (.copy j) => c.sum - c.getD j.toNat 0 + cp
  | _ => c.sum
/-- the row of a deed is one of these -/
def RowOk (n : Nat) : Option Deed → Prop
  | some (.read j _) => 0 ≤ j ∧ j < n
  | some (.copy j) => 0 ≤ j ∧ j < n
  | _ => True
/-- columns done rightly -/
def doCols (b : Int) : List (List Int) → Int → List Int × Int
  | [], c => ([], c)
  | x :: xs, c => let r := doCols b xs ((x.sum + c) / b); ((x.sum + c) % b :: r.1, r.2)
theorem doCols_app (b : Int) : ∀ (xs ys : List (List Int)) (c : Int), doCols b (xs ++ ys) c = ((doCols b xs c).1 ++ (doCols b ys (doCols b xs c).2).1, (doCols b ys (doCols b xs c).2).2)
  | [], _, _ => by simp [doCols]
  | x :: xs, ys, c => by simp [doCols, doCols_app b xs ys]
theorem doCols_snoc (b : Int) (xs : List (List Int)) (x : List Int) (c : Int) : doCols b (xs ++ [x]) c = ((doCols b xs c).1 ++ [(x.sum + (doCols b xs c).2) % b], (x.sum + (doCols b xs c).2) / b) := by
  rw [doCols_app]
  rfl
theorem doCols_len (b : Int) : ∀ (xs : List (List Int)) (c : Int), (doCols b xs c).1.length = xs.length
  | [], _ => rfl
  | x :: xs, c => by simp [doCols, doCols_len b xs]
end SY
namespace SY
open PySem PySem.Spec L2 SX
theorem w_read {x : Deed} (h : decide (x.word = "read") = true) : ∃ j d, x = .read j d := by cases x <;> first | exact ⟨_, _, rfl⟩ | (exfalso; have h := of_decide_eq_true h; revert h; simp only [Deed.word]; decide)
theorem w_copy {x : Deed} (h : decide (x.word = "copy") = true) : ∃ j, x = .copy j := by cases x <;> first | exact ⟨_, rfl⟩ | (exfalso; have h := of_decide_eq_true h; revert h; simp only [Deed.word]; decide)
theorem w_off {x : Deed} (h : decide (x.word = "off") = true) : ∃ d, x = .off d := by cases x <;> first | exact ⟨_, rfl⟩ | (exfalso; have h := of_decide_eq_true h; revert h; simp only [Deed.word]; decide)
theorem w_forget {x : Deed} (h : decide (x.word = "forget") = true) : x = .forget := by cases x <;> first | rfl | (exfalso; have h := of_decide_eq_true h; revert h; simp only [Deed.word]; decide)
theorem w_again {x : Deed} (h : decide (x.word = "again") = true) : x = .again := by cases x <;> first | rfl | (exfalso; have h := of_decide_eq_true h; revert h; simp only [Deed.word]; decide)
theorem w_swap {x : Deed} (h : decide (x.word = "swap") = true) : x = .swap := by cases x <;> first | rfl | (exfalso; have h := of_decide_eq_true h; revert h; simp only [Deed.word]; decide)
theorem w_out {x : Deed} (h : decide (x.word = "out") = true) : x = .out := by cases x <;> first | rfl | (exfalso; have h := of_decide_eq_true h; revert h; simp only [Deed.word]; decide)
theorem w_twice {x : Deed} (h : decide (x.word = "twice") = true) : x = .twice := by cases x <;> first | rfl | (exfalso; have h := of_decide_eq_true h; revert h; simp only [Deed.word]; decide)
end SY
set_option Elab.async false
set_option linter.all false
set_option maxRecDepth 100000
namespace SY
open PySem PySem.Spec L2 SX
section
variable {E : XK} {K : PySem.W.Frag} {C C2 : Addr} {te ta tb tc tl : TE} {tt tu : TT} {tA tr : TA} {δ δ' : En} {μ μ' μ0 μ1 μ2 rest : Mp} {Q P P1 P2 : Pr} {Ps : List Pr} {R : Post} {d e : PyData} {ds es : List PyData} {i j b r b' r' last last' : Int} {cs cs' : List (List Int)} {figs figs' : List Int} {k n : Nat} {ad l : Addr} {m : Str} {t u : TS} {PP : PY}
section
variable {α : Type} {pre : α → Hp → Mem → List V → Prop} {post : α → Mem → Post} {σ : L2.St} {G : Hp} {M : Mem}
theorem ev_callO (h : EA tA δ μ Ps μ1) (s : Sl G σ δ) (mm : Mm G M μ) (hp : ∀ G M vs, AP G Ps vs → Mm G M μ1 → ∃ x, pre x G M vs ∧ ∀ G' v M', Ex G G' → post x M G' v M' → R G' v M') : Ev (tCall (spec pre post) [] E tA) σ G M R := fun G1 H F e m1 q z =>
  h σ G M s mm G1 H F e m1 _ fun vs G2 M2 H2 e2 m2 a2 r2 => by
    obtain ⟨x, h1, h2⟩ := hp G2 M2 vs a2 r2
    exact ⟨x, G2, M2, F, m2, by rw [List.append_nil]; exact h1, fun v G' M' H' e' m' r' => z v G' M' H' (e2.trans e') m' (h2 G' v M' e' r')⟩
theorem ev_propO (h : E1 ta δ μ P1 μ1) (s : Sl G σ δ) (mm : Mm G M μ) (hp : ∀ G v M, P1.p G v → Mm G M μ1 → ∃ x p dx fs, v = .ref p ∧ At G M p (.ins C dx fs) ∧ pre x G M [.ref p] ∧ ∀ G' v' M', Ex G G' → post x M G' v' M' → R G' v' M') : Ev (tProp C (spec pre post) [] E ta) σ G M R := fun G1 H F e m1 q z =>
  h σ G M s mm G1 H F e m1 _ fun v G2 M2 H2 e2 m2 r2 => by
    obtain ⟨x, p, dx, fs, rfl, h1, h2, h3⟩ := hp G2 v M2 r2.1 r2.2
    exact ⟨p, dx, fs, rfl, h1 G2 H2 F (Ex.refl _) m2, x, G2, M2, F, m2, h2, fun v G' M' H' e' m' r' => z v G' M' H' (e2.trans e') m' (h3 G' v M' e' r')⟩
theorem ev_methO (h : E1 ta δ μ P1 μ1) (h2 : EA tA δ μ1 Ps μ2) (s : Sl G σ δ) (mm : Mm G M μ) (hi : ∀ G v M, P1.p G v → Mm G M μ1 → ∃ p dx fs, v = .ref p ∧ At G M p (.ins C dx fs) ∧ fs.lookup m = none)
    (hp : ∀ G v vs M, P1.p G v → AP G Ps vs → Mm G M μ2 → ∃ x, pre x G M (v :: vs) ∧ ∀ G' v' M', Ex G G' → post x M G' v' M' → R G' v' M') : Ev (tMeth C m (spec pre post) [] E ta tA) σ G M R := fun G1 H F e m1 q z =>
  h σ G M s mm G1 H F e m1 _ fun v G2 M2 H2 e2 m2 r2 => by
    obtain ⟨p, dx, fs, rfl, h3, h4⟩ := hi G2 v M2 r2.1 r2.2
    refine ⟨p, dx, fs, rfl, h3 G2 H2 F (Ex.refl _) m2, h4, h2 σ G2 M2 (s.mono (e.trans e2)) r2.2 G2 H2 F (Ex.refl _) m2 _ fun vs G3 M3 H3 e3 m3 a3 r3 => ?_⟩
    obtain ⟨x, h5, h6⟩ := hp G3 _ vs M3 (P1.m _ _ _ e3 r2.1) a3 r3
    exact ⟨x, G3, M3, F, m3, by rw [List.append_nil]; exact h5, fun v G' M' H' e' m' r' => z v G' M' H' ((e2.trans e3).trans e') m' (h6 G' v M' e' r')⟩
end
/-- a sheet that stands still; one whose list l is owned -/
def ShF (K : PySem.W.Frag) (C : Addr) (b r : Int) (cs : List (List Int)) : Pr := ⟨ShFz K C b r cs, fun _ _ _ e h => Mono.mono _ _ _ e h⟩
def ShI (C : Addr) (b r : Int) (l : Addr) : Pr := ⟨fun G v => ∃ p dx, v = .ref p ∧ G p = some (.ins C dx (shF (.int b) (.int r) (.ref l))), fun _ _ _ e h => by obtain ⟨p, dx, h1, h2⟩ := h; exact ⟨p, dx, h1, e _ _ h2⟩⟩
def SR (K : PySem.W.Frag) (C : Addr) (P : Pr) (μ : Mp) (b r : Int) (cs : List (List Int)) : Prop := ∀ G v M, P.p G v → Mm G M μ → ∃ p, v = .ref p ∧ ShAt K C G M p b r cs
theorem sr_F : SR K C (ShF K C b r cs) μ b r cs := fun G v M h _ => by
  obtain ⟨p, rfl, h2⟩ := ShFz.at_ h
  exact ⟨p, rfl, h2 M⟩
theorem sr_O (i : Nat) (h : μ[i]? = some (l, OL K (cs.map colD))) : SR K C (ShI C b r l) μ b r cs := fun G v M hv mm => by
  obtain ⟨p, dx, rfl, h1⟩ := hv
  obtain ⟨o, h2, xs, rfl, h3⟩ := mm.get h
  exact ⟨p, rfl, dx, l, xs, .G h1, .M h2, h3⟩
theorem sr_cons {x : Addr × Ob} (h : SR K C P μ b r cs) : SR K C P (x :: μ) b r cs := fun G v M hv mm => by
  match M, mm with
  | m :: M, mm =>
    obtain ⟨p, rfl, h2⟩ := h G v M hv mm.2
    obtain ⟨dx, l, xs, h3, h4, h5⟩ := h2
    refine ⟨p, rfl, dx, l, xs, fun G1 H F e m1 => h3 G1 H F e (m1.sub (List.sublist_cons_self _ _)), fun G1 H F e m1 => h4 G1 H F e (m1.sub (List.sublist_cons_self _ _)), h5⟩
theorem lr_cons {x : Addr × Ob} (h : LR K P μ ds) : LR K P (x :: μ) ds := fun G v M hv mm => by
  match M, mm with
  | m :: M, mm =>
    obtain ⟨a, xs, h1, h2, h3⟩ := h G v M hv mm.2
    exact ⟨a, xs, h1, fun G1 H F e m1 => h2 G1 H F e (m1.sub (List.sublist_cons_self _ _)), h3⟩
theorem ShAt.ins {G : Hp} {M : Mem} {p : Addr} (h : ShAt K C G M p b r cs) : ∃ dx fs, At G M p (.ins C dx fs) := by
  obtain ⟨dx, l, xs, h1, _⟩ := h
  exact ⟨dx, _, h1⟩
theorem SR.pre (hs : SR K C P μ b r cs) {G : Hp} {v : V} {M : Mem} (h : P.p G v) (mm : Mm G M μ) : ∃ p dx fs, v = .ref p ∧ At G M p (.ins C dx fs) ∧ ShAt K C G M p b r cs := by
  obtain ⟨p, rfl, h2⟩ := hs G v M h mm
  obtain ⟨dx, fs, h3⟩ := ShAt.ins h2
  exact ⟨p, dx, fs, rfl, h3, h2⟩
theorem e_shBase (h : E1 ta δ μ P μ1) (hs : SR K C P μ1 b r cs) : E1 (tProp C (spec (shPre K C) fun x M => isV (.int x.2.1) M) [] E ta) δ μ (D K (.int b)) μ1 := fun σ G M s mm =>
  ev_propO h s mm fun G v M hv m2 => by
    obtain ⟨p, dx, fs, rfl, h1, h2⟩ := hs.pre hv m2
    refine ⟨(p, b, r, cs), p, dx, fs, rfl, h1, ⟨rfl, h2⟩, ?_⟩
    rintro G' _ _ e ⟨rfl, rfl⟩
    exact ⟨.int b, m2.mono e⟩
theorem e_shRows (h : E1 ta δ μ P μ1) (hs : SR K C P μ1 b r cs) : E1 (tProp C (spec (shPre K C) fun x M => isV (.int x.2.2.1) M) [] E ta) δ μ (D K (.int r)) μ1 := fun σ G M s mm =>
  ev_propO h s mm fun G v M hv m2 => by
    obtain ⟨p, dx, fs, rfl, h1, h2⟩ := hs.pre hv m2
    refine ⟨(p, b, r, cs), p, dx, fs, rfl, h1, ⟨rfl, h2⟩, ?_⟩
    rintro G' _ _ e ⟨rfl, rfl⟩
    exact ⟨.int r, m2.mono e⟩
theorem o_shCols (h : E1 ta δ μ P μ1) (hs : SR K C P μ1 b r cs) : EO K (tProp C (spec (shPre K C) fun x M => own K (x.2.2.2.map colD) M) [] E ta) δ μ (cs.map colD) μ1 := fun σ G M s mm =>
  ev_propO h s mm fun G v M hv m2 => by
    obtain ⟨p, dx, fs, rfl, h1, h2⟩ := hs.pre hv m2
    refine ⟨(p, b, r, cs), p, dx, fs, rfl, h1, ⟨rfl, h2⟩, ?_⟩
    rintro G' _ _ e ⟨q, vs, rfl, rfl, hd⟩
    exact ⟨q, vs, M, rfl, rfl, hd, m2.mono e⟩
theorem e_shVal (h : E1 ta δ μ P μ1) (hs : SR K C P μ1 b r cs) (g : GoodSh b r cs) : E1 (tProp C (spec (shGPre K C) fun x M => isV (.int (valueOf x.2.1 x.2.2.2)) M) [] E ta) δ μ (D K (.int (valueOf b cs))) μ1 := fun σ G M s mm =>
  ev_propO h s mm fun G v M hv m2 => by
    obtain ⟨p, dx, fs, rfl, h1, h2⟩ := hs.pre hv m2
    have := g.b2
    have := g.b12
    have := g.len
    refine ⟨(p, b, r, cs), p, dx, fs, rfl, h1, ⟨⟨rfl, h2⟩, by show cs.length ≤ 100000; omega, by show -(2 ^ 64) < b ∧ b < 2 ^ 64; omega⟩, ?_⟩
    rintro G' _ _ e ⟨rfl, rfl⟩
    exact ⟨.int _, m2.mono e⟩
theorem e_shLen (h : E1 ta δ μ P μ1) (hs : SR K C P μ1 b r cs) (hl : cs.length ≤ 10000) : E1 (tCB (rLenO C (spec (shPre K C) fun x M => isV (.int (x.2.2.2.length : Int)) M) E) (tCons ta tNil)) δ μ (D K (.int (cs.length : Int))) μ1 := fun σ G M s mm G1 H F e m1 q z =>
  h σ G M s mm G1 H F e m1 _ fun v G2 M2 H2 e2 m2 r2 => by
    obtain ⟨p, dx, fs, rfl, h1, h2⟩ := hs.pre r2.1 r2.2
    refine ⟨p, dx, fs, rfl, h1 G2 H2 F (Ex.refl _) m2, (p, b, r, cs), G2, M2, F, m2, ⟨rfl, h2⟩, ?_⟩
    rintro v G' M' H' e' m' ⟨rfl, rfl⟩
    exact ⟨_, rfl, ⟨by show (0 : Int) ≤ (cs.length : Int); omega, by show (cs.length : Int) < 2 ^ 63; omega⟩, z _ G' _ H' (e2.trans e') m' ⟨.int _, r2.2.mono e'⟩⟩
theorem e_shIx (h : E1 ta δ μ P μ1) (h' : E1 tb δ μ1 (D K (.int i)) μ2) (hs : SR K C P μ2 b r cs) (hi : 0 ≤ i ∧ i < cs.length) : E1 (tOp (rIxO C (spec (shIxPre K C) fun x M => isD K (colD x.2.2) M) E) ta tb) δ μ (D K (colD (cs.getD i.toNat []))) μ2 :=
  e_op h h' fun G H F M x y m mm p1 p2 Q q => by
    rw [dp_int p2]
    obtain ⟨p, dx, fs, rfl, h1, h2⟩ := hs.pre p1 mm
    refine ⟨p, dx, fs, rfl, h1 G H F (Ex.refl _) m, ((p, b, r, cs), i, cs.getD i.toNat []), G, M, F, m, ⟨rfl, h2, hi.1, ?_⟩, ?_⟩
    · have : i.toNat < cs.length := by omega
      show cs[i.toNat]? = some (cs.getD i.toNat [])
      simp [List.getD, List.getElem?_eq_getElem this]
    · rintro v G' M' H' e' m' ⟨h3, rfl⟩
      exact q v G' _ H' e' m' h3 (mm.mono e')
theorem shF_cut {l : V} : (shF (.int b) (.int r) l).lookup ("cut" : Str) = none := shF_no (by decide +kernel) (by decide +kernel) (by decide +kernel)
/-- what is new: an instance that stands still, its list owned -/
theorem y_new {M : Mem} {G : Hp} (mm : Mm G M μ) {G' : Hp} {v : V} {M' : Mem} (e : Ex G G') (h : newSh K C b r cs M G' v M') : ∃ l ys, M' = M ++ [(l, .lst ys)] ∧ (ShI C b r l).p G' v ∧ Mm G' M' (μ ++ [(l, OL K (cs.map colD))]) := by
  obtain ⟨p, dx, l, ys, rfl, h1, rfl, h2⟩ := h
  exact ⟨l, ys, rfl, ⟨p, dx, rfl, h1⟩, Mm.app (mm.mono e) ⟨⟨rfl, ys, rfl, h2⟩, trivial⟩⟩
def newY (K : PySem.W.Frag) (C : Addr) (b r : Int) (cs : List (List Int)) (μ : Mp) : Pr → Mp → Prop := fun P μ' => ∃ l, P = ShI C b r l ∧ μ' = μ ++ [(l, OL K (cs.map colD))]
theorem y_shCut (h : E1 ta δ μ P μ1) (h1 : E1 tb δ μ1 (D K (.int i)) μ1) (h2 : E1 tc δ μ1 (D K (.int j)) μ1) (hs : SR K C P μ1 b r cs) (g : GoodSh b r cs) (hi : 0 ≤ i) (hj : 0 ≤ j) : EY (tMeth C "cut" (spec (cutPre K C) (cutPost K C)) [] E ta (tCons tb (tCons tc tNil))) δ μ (newY K C b r (cutL cs i j) μ1) := fun σ G M s mm =>
  ev_methO h (a_cons h1 (a_cons h2 a_nil)) s mm (fun G v M hv m2 => by
    obtain ⟨p, rfl, dx, l, xs, k1, k2, k3⟩ := hs G v M hv m2
    exact ⟨p, dx, _, rfl, k1, shF_cut⟩) fun G v vs M hv a m2 => by
    obtain ⟨p, dx, fs, rfl, k1, k2⟩ := hs.pre hv m2
    match vs, a with
    | [v1, v2], ⟨q1, q2, _⟩ =>
    refine ⟨((p, b, r, cs), i, j), ⟨by rw [dp_int q1, dp_int q2], k2, g, hi, hj⟩, fun G' v' M' e r => ?_⟩
    obtain ⟨l, ys, rfl, h5, h6⟩ := y_new m2 e r
    exact ⟨_, _, ⟨l, rfl, rfl⟩, h5, h6⟩
/-- .. all of it stands still -/
theorem EY.frzNew (h : EY te δ μ (newY K C b r cs μ1)) : E1 te δ μ (ShF K C b r cs) μ1 := fun σ G M s mm G1 H F e m1 q z => h σ G M s mm G1 H F e m1 q fun v G2 M2 H2 e2 m2 r2 => by
  obtain ⟨P, μ2, ⟨l, rfl, rfl⟩, ⟨p, dx, rfl, h1⟩, h2⟩ := r2
  obtain ⟨Ma, Mb, rfl, ma, mb⟩ := Mm.cut h2
  obtain ⟨o, rfl, xs, rfl, h3⟩ := Mm.sing mb
  obtain ⟨m3, e3⟩ := m2.freezeLast
  exact z _ _ Ma H2 (e2.trans e3) m3 ⟨⟨p, dx, l, xs, rfl, e3 _ _ h1, SqL.of upd_same, dma h3 e3⟩, ma.mono e3⟩
theorem y_shAdd (h1 : E1 ta δ μ P1 μ1) (h2 : E1 tb δ μ1 P2 μ2) (s1 : SR K C P1 μ2 b r cs) (s2 : SR K C P2 μ2 b r cs') (g : GoodSh b r cs) (g' : GoodSh b r cs') (hl : cs.length + cs'.length ≤ 10000) : EY (tOp (rBinO C (spec (addGPre K C) (addPost K C)) E) ta tb) δ μ (newY K C b r (cs ++ cs') μ2) := fun σ G M s mm G1 H F e m1 q z =>
  h1 σ G M s mm G1 H F e m1 _ fun x G2 M2 H2 e2 m2 r2 => h2 σ G2 M2 (s.mono (e.trans e2)) r2.2 G2 H2 F (Ex.refl _) m2 _ fun y G3 M3 H3 e3 m3 r3 => by
    obtain ⟨p, dx, fs, rfl, k1, k2⟩ := s1.pre (P1.m _ _ _ e3 r2.1) r3.2
    obtain ⟨p', dx', fs', rfl, k3, k4⟩ := s2.pre r3.1 r3.2
    refine ⟨p, dx, fs, p', dx', fs', rfl, rfl, k1 G3 H3 F (Ex.refl _) m3, k3 G3 H3 F (Ex.refl _) m3, ((p, b, r, cs), (p', b, r, cs')), G3, M3, F, m3, ⟨⟨rfl, k2, k4, g, g', hl⟩, rfl, rfl⟩, fun v G' M' H' e' m' r' => ?_⟩
    obtain ⟨l, ys, rfl, h5, h6⟩ := y_new r3.2 e' r'.2
    exact z v G' _ H' ((e2.trans e3).trans e') m' ⟨_, _, ⟨l, rfl, rfl⟩, h5, h6⟩
/-- one op other by the own comparison -/
theorem e_shCmp {f : PyData → PyData → Bool} (h1 : E1 ta δ μ P1 μ1) (h2 : E1 tb δ μ1 P2 μ2) (s1 : SR K C P1 μ2 b r cs) (s2 : SR K C P2 μ2 b' r' cs') : E1 (tOp (rCmpO C (spec (cmpPre K C) (cmpPost f)) E) ta tb) δ μ (D K (.bool (f (placeD b r cs) (placeD b' r' cs')))) μ2 :=
  e_op h1 h2 fun G H F M x y m mm p1 p2 Q q => by
    obtain ⟨p, dx, fs, rfl, k1, k2⟩ := s1.pre p1 mm
    obtain ⟨p', dx', fs', rfl, k3, k4⟩ := s2.pre p2 mm
    refine ⟨p, dx, fs, p', dx', fs', rfl, rfl, k1 G H F (Ex.refl _) m, k3 G H F (Ex.refl _) m, ((p, b, r, cs), (p', b', r', cs')), G, M, F, m, ⟨rfl, k2, k4⟩, ?_⟩
    rintro v G' M' H' e' m' ⟨rfl, rfl⟩
    exact q _ G' _ H' e' m' (.bl _) (mm.mono e')
/-- a sheet is made -/
theorem y_mkSh (h1 : E1 ta δ μ (D K (.int b)) μ0) (h2 : E1 tb δ μ0 (D K (.int r)) μ1) (h3 : E1 tc δ μ1 P μ2) (hl : LR K P μ2 (cs.map colD)) (g : GoodSh b r cs) : EY (tMake C (spec (mkShPre K C) (mkShPost K C)) [] E (tCons ta (tCons tb (tCons tc tNil)))) δ μ (newY K C b r cs μ2) := fun σ G M s mm G1 H F e m1 q z =>
  (a_cons h1 (a_cons h2 (a_cons h3 a_nil))) σ G M s mm G1 H F e m1 _ fun vs G2 M2 H2 e2 m2 a2 r2 => by
    match vs, a2 with
    | [v1, v2, v3], ⟨q1, q2, q3, _⟩ =>
    obtain ⟨a, xs, rfl, hA, hd⟩ := hl G2 v3 M2 q3 r2
    rw [dp_int q1, dp_int q2]
    have k := ev_mkSh (K := K) (σ := σ) (G := G2) (M := M2) (M1 := M2) (tA := fun _ H Q => Q [.int b, .int r, .ref a] H) (E := E) (C := C) (a := a) (b := b) (r := r) (cs := cs) (fun G1 H F e m Q q => q _ G1 H (Ex.refl _) m ⟨rfl, rfl, rfl, trivial⟩) hA hd g
    refine k G2 H2 F (Ex.refl _) m2 q fun v G3 M3 H3 e3 m3 r3 => ?_
    obtain ⟨l, ys, rfl, h5, h6⟩ := y_new r2 e3 r3
    exact z v G3 _ H3 (e2.trans e3) m3 ⟨_, _, ⟨l, rfl, rfl⟩, h5, h6⟩
/-- s[i] = column, of a sheet whose list is owned -/
theorem s_shSet {to ti : TE} {c : List Int} {n : Nat} {E' : XK} (h : E1 te δ μ (D K (colD c)) μ1) (h1 : E1 to δ μ1 (ShI C b r l) μ1) (h2 : E1 ti δ μ1 (D K (.int i)) μ1) (hl : μ1[n]? = some (l, OL K (cs.map colD))) (hi : 0 ≤ i ∧ i < cs.length) (g : GoodCol b r c) (hc : c.length ≤ 100000) (k' : PP.nx δ (μ1.set n (l, OL K ((cs.set i.toNat c).map colD)))) :
    S1 E (tAsg te (gSub to ti (rSetO C (spec (setGPre K C) (setPost K)) E'))) δ μ PP := fun σ G M s m G1 H F DD e m1 hd =>
  h σ G M s m G1 H F e m1 _ fun v G2 M2 H2 e2 m2 r2 => h1 σ G2 M2 (s.mono (e.trans e2)) r2.2 G2 H2 F (Ex.refl _) m2 _ fun x G3 M3 H3 e3 m3 r3 => h2 σ G3 M3 (s.mono ((e.trans e2).trans e3)) r3.2 G3 H3 F (Ex.refl _) m3 _ fun y G4 M4 H4 e4 m4 r4 => by
    obtain ⟨p, dx, rfl, hp⟩ := r3.1
    rw [dp_int r4.1]
    obtain ⟨o, h5, xs, rfl, h6⟩ := r4.2.get hl
    have hxl : xs.length = cs.length := by rw [dpa_len h6, List.length_map]
    have hj : ixN xs.length i = some i.toNat := by
      unfold ixN
      rw [if_pos hi.1, if_pos (by rw [hxl]; exact hi.2)]
    have hp4 := m4.ex _ _ (e4 _ _ hp)
    refine ⟨p, dx, _, rfl, hp4, ⟨p, dx, l, n, b, r, xs, i, i.toNat, v, colD c⟩, G4, M4, F, m4, ⟨⟨rfl, .G (e4 _ _ hp), h5, hj, dm r2.1 (e3.trans e4), by rw [dlen_colD]; exact hc⟩, isCol_good g⟩, ?_⟩
    rintro w G' M' H' e' m' ⟨_, rfl, y, hy, rfl⟩
    refine hd.nx _ G' _ H' (((e2.trans e3).trans e4).trans e') m' ⟨_, _, k', s.mono ((((e.trans e2).trans e3).trans e4).trans e'), Mm.set ?_ (r4.2.mono e') hl⟩
    refine ⟨_, rfl, ?_⟩
    rw [List.map_set]
    exact dpa_set (dma h6 e') hy
def WrP (K : PySem.W.Frag) (C : Addr) (b : Int) (figs : List Int) (last : Int) : Pr := ⟨WrFz K C b figs last, fun _ _ _ e h => Mono.mono _ _ _ e h⟩
theorem wr_pre {G : Hp} {v : V} (h : (WrP K C b figs last).p G v) (M : Mem) : ∃ p dx fs, v = .ref p ∧ At G M p (.ins C dx fs) ∧ WrG K C p b figs last G := by
  obtain ⟨p, rfl, dx, l, xs, h1, h2, h3⟩ := h
  exact ⟨p, dx, _, rfl, .G h1, dx, l, xs, h1, h2, h3⟩
theorem e_wrBase (h : E1 ta δ μ (WrP K C b figs last) μ1) : E1 (tProp C (spec (wrPre K C) fun x M => isV (.int x.2.1) M) [] E ta) δ μ (D K (.int b)) μ1 := fun σ G M s mm =>
  ev_propO h s mm fun G v M hv m2 => by
    obtain ⟨p, dx, fs, rfl, h1, h2⟩ := wr_pre hv M
    refine ⟨(p, b, figs, last), p, dx, fs, rfl, h1, ⟨rfl, h2⟩, ?_⟩
    rintro G' _ _ e ⟨rfl, rfl⟩
    exact ⟨.int b, m2.mono e⟩
theorem e_wrLast (h : E1 ta δ μ (WrP K C b figs last) μ1) : E1 (tProp C (spec (wrPre K C) fun x M => isV (.int x.2.2.2) M) [] E ta) δ μ (D K (.int last)) μ1 := fun σ G M s mm =>
  ev_propO h s mm fun G v M hv m2 => by
    obtain ⟨p, dx, fs, rfl, h1, h2⟩ := wr_pre hv M
    refine ⟨(p, b, figs, last), p, dx, fs, rfl, h1, ⟨rfl, h2⟩, ?_⟩
    rintro G' _ _ e ⟨rfl, rfl⟩
    exact ⟨.int last, m2.mono e⟩
theorem o_wrFigs (h : E1 ta δ μ (WrP K C b figs last) μ1) : EO K (tProp C (spec (wrPre K C) fun x M => own K (x.2.2.1.map .int) M) [] E ta) δ μ (figs.map .int) μ1 := fun σ G M s mm =>
  ev_propO h s mm fun G v M hv m2 => by
    obtain ⟨p, dx, fs, rfl, h1, h2⟩ := wr_pre hv M
    refine ⟨(p, b, figs, last), p, dx, fs, rfl, h1, ⟨rfl, h2⟩, ?_⟩
    rintro G' _ _ e ⟨q, vs, rfl, rfl, hd⟩
    exact ⟨q, vs, M, rfl, rfl, hd, m2.mono e⟩
theorem e_wrVal (h : E1 ta δ μ (WrP K C b figs last) μ1) (hb : -(2 ^ 64) < b ∧ b < 2 ^ 64) : E1 (tProp C (spec (wrGPre K C) fun x M => isV (.int (horner x.2.1 x.2.2.1 x.2.2.2)) M) [] E ta) δ μ (D K (.int (horner b figs last))) μ1 := fun σ G M s mm =>
  ev_propO h s mm fun G v M hv m2 => by
    obtain ⟨p, dx, fs, rfl, h1, h2⟩ := wr_pre hv M
    refine ⟨(p, b, figs, last), p, dx, fs, rfl, h1, ⟨⟨rfl, h2⟩, hb⟩, ?_⟩
    rintro G' _ _ e ⟨rfl, rfl⟩
    exact ⟨.int _, m2.mono e⟩
theorem wrF_rest {b l last : V} : (wrF b l last).lookup ("rest" : Str) = none := wrF_no (by decide +kernel) (by decide +kernel) (by decide +kernel)
theorem e_wrRest (h : E1 ta δ μ (WrP K C b figs last) μ1) (h2 : E1 tb δ μ1 (D K (.int i)) μ2) (hb : -(2 ^ 64) < b ∧ b < 2 ^ 64) (hi : 0 < i) : E1 (tMeth C "rest" (spec (restPre K C) restPost) [] E ta (tCons tb tNil)) δ μ (D K (.int (horner b figs last % i))) μ2 := fun σ G M s mm =>
  ev_methO h (a_cons h2 a_nil) s mm (fun G v M hv m2 => by
    obtain ⟨p, rfl, dx, l, xs, h1, _⟩ := hv
    exact ⟨p, dx, _, rfl, .G h1, wrF_rest⟩) fun G v vs M hv a m2 => by
    obtain ⟨p, dx, fs, rfl, k1, k2⟩ := wr_pre hv M
    match vs, a with
    | [v1], ⟨q1, _⟩ =>
    refine ⟨((p, b, figs, last), i), ⟨by rw [dp_int q1], k2, hb, hi⟩, ?_⟩
    rintro G' v' M' e ⟨rfl, rfl⟩
    exact ⟨.int _, m2.mono e⟩
theorem e_wrSub (h1 : E1 ta δ μ (WrP K C b figs last) μ1) (h2 : E1 tb δ μ1 P2 μ2) (s2 : SR K C2 P2 μ2 b' r' cs') (hb : -(2 ^ 64) < b ∧ b < 2 ^ 64) (hb' : -(2 ^ 64) < b' ∧ b' < 2 ^ 64) (hl : cs'.length ≤ 100000) : E1 (tOp (rBin2 C C2 (spec (wsubPre K C C2) wsubPost) E) ta tb) δ μ (D K (.int (horner b figs last - valueOf b' cs'))) μ2 :=
  e_op h1 h2 fun G H F M x y m mm p1 p2 Q q => by
    obtain ⟨p, dx, fs, rfl, k1, k2⟩ := wr_pre p1 M
    obtain ⟨p', dx', fs', rfl, k3, k4⟩ := s2.pre p2 mm
    refine ⟨p, dx, fs, p', dx', fs', rfl, rfl, k1 G H F (Ex.refl _) m, k3 G H F (Ex.refl _) m, ((p, b, figs, last), (p', b', r', cs')), G, M, F, m, ⟨rfl, k2, k4, hb, hb', hl⟩, ?_⟩
    rintro v G' M' H' e' m' ⟨rfl, rfl⟩
    exact q _ G' _ H' e' m' (.int _) (mm.mono e')
theorem e_wrEq (h1 : E1 ta δ μ (WrP K C b figs last) μ1) (h2 : E1 tb δ μ1 (WrP K C b' figs' last') μ2) : E1 (tOp (rCmpO C (spec (weqPre K C) weqPost) E) ta tb) δ μ (D K (.bool (decide ((b, figs, last) = (b', figs', last'))))) μ2 :=
  e_op h1 h2 fun G H F M x y m mm p1 p2 Q q => by
    obtain ⟨p, dx, fs, rfl, k1, k2⟩ := wr_pre p1 M
    obtain ⟨p', dx', fs', rfl, k3, k4⟩ := wr_pre p2 M
    refine ⟨p, dx, fs, p', dx', fs', rfl, rfl, k1 G H F (Ex.refl _) m, k3 G H F (Ex.refl _) m, ((p, b, figs, last), (p', b', figs', last')), G, M, F, m, ⟨rfl, k2, k4⟩, ?_⟩
    rintro v G' M' H' e' m' ⟨rfl, rfl⟩
    exact q _ G' _ H' e' m' (.bl _) (mm.mono e')
theorem e_mkWr (h1 : E1 ta δ μ (D K (.int b)) μ0) (h2 : E1 tb δ μ0 P μ1) (h3 : E1 tc δ μ1 (D K (.int last)) μ2) (hl : LR K P μ2 (figs.map .int)) : E1 (tMake C (spec (mkWrPre K C) (mkWrPost K C)) [] E (tCons ta (tCons tb (tCons tc tNil)))) δ μ (WrP K C b figs last) μ2 := fun σ G M s mm G1 H F e m1 q z =>
  (a_cons h1 (a_cons h2 (a_cons h3 a_nil))) σ G M s mm G1 H F e m1 _ fun vs G2 M2 H2 e2 m2 a2 r2 => by
    match vs, a2 with
    | [v1, v2, v3], ⟨q1, q2, q3, _⟩ =>
    obtain ⟨a, xs, rfl, hA, hd⟩ := hl G2 v2 M2 q2 r2
    rw [dp_int q1, dp_int q3]
    have k := ev_mkWr (K := K) (σ := σ) (G := G2) (M := M2) (M1 := M2) (tA := fun _ H Q => Q [.int b, .ref a, .int last] H) (E := E) (C := C) (b := b) (last := last) (figs := figs) (Pv := fun _ v => v = .ref a) (fun G1 H F e m Q q => q _ G1 H (Ex.refl _) m ⟨rfl, rfl, rfl, trivial⟩) fun G1 v e h => .inr ⟨a, xs, _, h, rfl, hA.ex e, dma hd e⟩
    refine k G2 H2 F (Ex.refl _) m2 q fun v G3 M3 H3 e3 m3 r3 => ?_
    obtain ⟨r3, rfl⟩ := r3
    exact z v G3 _ H3 (e2.trans e3) m3 ⟨r3, r2.mono e3⟩
end
end SY
set_option Elab.async false
set_option linter.all false
set_option maxRecDepth 100000
namespace SY
open PySem PySem.Spec L2 SX
section
variable {E : XK} {K : PySem.W.Frag} {C : Addr} {te ta tb tc tl : TE} {tA : TA} {δ δ' : En} {μ μ' μ0 μ1 μ2 rest : Mp} {P P1 P2 : Pr} {d e : PyData} {ds es : List PyData} {i j b r lo hi n : Int} {cs : List (List Int)} {figs ns : List Int} {k : Nat} {ad dk : Addr} {f : PyData → Bool} {Dk : Deck}
theorem e_whole (h : EA tA δ μ [D K d, D K (.int lo), D K (.int hi)] μ1) : E1 (tCall (spec (wholePre K) wholePost) [] E tA) δ μ (D K (.bool (isWhole d lo hi))) μ1 := fun σ G M s mm =>
  ev_callO h s mm fun G M vs a m2 => by
    obtain ⟨v, w, u, rfl, p1, p2, p3⟩ := allP3 a
    refine ⟨(d, lo, hi), ⟨v, by rw [dp_int p2, dp_int p3], p1⟩, ?_⟩
    rintro G' v' M' e ⟨rfl, rfl⟩
    exact ⟨.bl _, m2.mono e⟩
theorem e_d1 (h : EA tA δ μ [D K d] μ1) : E1 (tCall (spec (d1Pre K) (b1Post f)) [] E tA) δ μ (D K (.bool (f d))) μ1 := fun σ G M s mm =>
  ev_callO h s mm fun G M vs a m2 => by
    match vs, a with
    | [v], ⟨p1, _⟩ =>
    refine ⟨d, ⟨v, rfl, p1⟩, ?_⟩
    rintro G' v' M' e ⟨rfl, rfl⟩
    exact ⟨.bl _, m2.mono e⟩
theorem e_place (h : EA tA δ μ [D K (.int b), D K (.list (figs.map .int)), D K (.int n)] μ1) (hb : -(2 ^ 64) < b ∧ b < 2 ^ 64) : E1 (tCall (spec (placePre K) placePost) [] E tA) δ μ (D K (.int (horner b figs n))) μ1 := fun σ G M s mm =>
  ev_callO h s mm fun G M vs a m2 => by
    obtain ⟨v, w, u, rfl, p1, p2, p3⟩ := allP3 a
    refine ⟨(b, figs, n), ⟨w, by rw [dp_int p1, dp_int p3], p2, hb⟩, ?_⟩
    rintro G' v' M' e ⟨rfl, rfl⟩
    exact ⟨.int _, m2.mono e⟩
theorem e_power (h : EA tA δ μ [D K (.int b), D K (.int n)] μ1) (hb : -(2 ^ 64) < b ∧ b < 2 ^ 64) (hn : 0 ≤ n ∧ n ≤ 100000) : E1 (tCall (spec powPre powPost) [] E tA) δ μ (D K (.int (b ^ n.toNat))) μ1 := fun σ G M s mm =>
  ev_callO h s mm fun G M vs a m2 => by
    obtain ⟨v, w, rfl, p1, p2⟩ := allP2 a
    refine ⟨(b, n.toNat), ⟨by rw [dp_int p1, dp_int p2]; show _ = [V.int b, V.int ((n.toNat : Nat) : Int)]; rw [Int.toNat_of_nonneg hn.1], hb, by show n.toNat ≤ 100000; omega⟩, ?_⟩
    rintro G' v' M' e ⟨rfl, rfl⟩
    exact ⟨.int _, m2.mono e⟩
theorem e_cells (h : EA tA δ μ [D K (.list (ns.map .int))] μ1) (hl : ns.length ≤ 63) : E1 (tCall (spec (cellsPre K) (cellsPost K)) [] E tA) δ μ (D K (.list ((cellsOf ns).map .int))) μ1 := fun σ G M s mm =>
  ev_callO h s mm fun G M vs a m2 => by
    match vs, a with
    | [v], ⟨p1, _⟩ =>
    refine ⟨ns, ⟨v, rfl, p1, hl⟩, ?_⟩
    rintro G' v' M' e ⟨r, rfl⟩
    exact ⟨r, m2.mono e⟩
/-- the deck stands first -/
theorem y_deck (h : EA tA δ μ [D K (.int n)] []) : EY (tCall (spec deckPre deckPost) [] E tA) δ μ (fun P μ' => ∃ a, P = Av a ∧ μ' = [(a, DKo (deckOf n))]) := fun σ G M s mm =>
  ev_callO h s mm fun G M vs a m2 => by
    match vs, a with
    | [v], ⟨p1, _⟩ =>
    refine ⟨n, by rw [dp_int p1], ?_⟩
    rintro G' v' M' e ⟨dk, rfl, rfl⟩
    have := m2.nil
    subst this
    exact ⟨_, _, ⟨dk, rfl, rfl⟩, rfl, ⟨⟨rfl, rfl⟩, trivial⟩⟩
theorem head_dk {G : Hp} {M : Mem} (m2 : Mm G M ((dk, DKo Dk) :: rest)) : ∃ M0, M = (dk, Dk.ho) :: M0 ∧ Mm G M0 rest := by
  match M, m2 with
  | (b, o) :: M0, ⟨⟨h1, h2⟩, h3⟩ =>
    have h1 : b = dk := h1
    have h2 : o = Dk.ho := h2
    subst h1 h2
    exact ⟨M0, rfl, h3⟩
theorem e_draw (h : EA tA δ μ [Av dk, D K (.int n)] ((dk, DKo Dk) :: rest)) (hn : 0 < n ∧ n < 2 ^ 200) : E1 (tCall (spec drawPre drawPost) [] E tA) δ μ (D K (.int (dv Dk n))) ((dk, DKo (dn Dk n)) :: rest) := fun σ G M s mm =>
  ev_callO h s mm fun G M vs a m2 => by
    obtain ⟨v, w, rfl, p1, p2⟩ := allP2 a
    obtain ⟨M0, rfl, m3⟩ := head_dk m2
    have p1 : v = .ref dk := p1
    subst p1
    refine ⟨(dk, 0, Dk, n), ⟨by rw [dp_int p2], hn.1, hn.2, rfl⟩, ?_⟩
    rintro G' v' M' e ⟨rfl, rfl⟩
    exact ⟨.int _, ⟨rfl, rfl⟩, m3.mono e⟩
theorem e_lcol (h : EA tA δ μ [Av dk, D K (.int b), D K (.int r)] ((dk, DKo Dk) :: rest)) (hb : 0 < b ∧ b < 2 ^ 200) (hr : 0 ≤ r ∧ r ≤ 1000) : E1 (tCall (spec lcolPre (lcolPost K)) [] E tA) δ μ (D K (colD (colOf Dk b r))) ((dk, DKo (colDk Dk b r)) :: rest) := fun σ G M s mm =>
  ev_callO h s mm fun G M vs a m2 => by
    obtain ⟨v, w, u, rfl, p1, p2, p3⟩ := allP3 a
    obtain ⟨M0, rfl, m3⟩ := head_dk m2
    have p1 : v = .ref dk := p1
    subst p1
    refine ⟨(dk, 0, Dk, b, r), ⟨by rw [dp_int p2, dp_int p3], hb.1, hb.2, hr.1, hr.2, rfl⟩, ?_⟩
    rintro G' v' M' e ⟨r, rfl⟩
    exact ⟨r, ⟨rfl, rfl⟩, m3.mono e⟩
theorem o_lcols {most : Int} (h : EA tA δ μ [Av dk, D K (.int b), D K (.int r), D K (.int most)] ((dk, DKo Dk) :: rest)) (hb : 0 < b ∧ b < 2 ^ 200) (hr : 0 ≤ r ∧ r ≤ 1000) (hm : 0 ≤ most ∧ most ≤ 1000) : EO K (tCall (spec lcolsPre (lcolsPost K)) [] E tA) δ μ ((colsOf Dk b r most).map colD) ((dk, DKo (colsEnd Dk b r most)) :: rest) := fun σ G M s mm =>
  ev_callO h s mm fun G M vs a m2 => by
    obtain ⟨v, w, u, x, rfl, p1, p2, p3, p4⟩ := allP4 a
    obtain ⟨M0, rfl, m3⟩ := head_dk m2
    have p1 : v = .ref dk := p1
    subst p1
    refine ⟨(dk, 0, Dk, b, r, most), ⟨by rw [dp_int p2, dp_int p3, dp_int p4], hb.1, hb.2, hr.1, hr.2, hm.1, hm.2, rfl⟩, ?_⟩
    rintro G' v' M' e ⟨p, vs, rfl, rfl, hd⟩
    exact ⟨p, vs, (dk, (colsEnd Dk b r most).ho) :: M0, rfl, rfl, hd, ⟨rfl, rfl⟩, m3.mono e⟩
end
theorem law_Y {P : Program} {w : World} {K : PySem.W.Frag} {mg : Str → Option Value} {base : Heap} {x qual : Str} {st : Stmt} {f : Addr} {fd : FuncData} {N ps : List Str} {k : Nat} (F : Fun K x qual st f fd) (S : FnScope N ps (defScope st)) (hps : ps.length = 1)
    (body : ∀ (cdv : Value) (Ar : Around) (outer : List Env) (s : Shared) (H : Hp) (E : XK), Room k (Ar.deeper (PyProof.Rows.envOfC qual (defScope st) s.heap.objs.size f cdv)) →
      ∃ t, PSs (cxOf CX0 P w K mg base N qual (defScope st) f cdv Ar outer s H E).nox (defBody st) t ∧ ∀ ns : List Int, ns.length ≤ 63 → S1 E t (startY N [D K (.list (ns.map .int))]) [] { nx := fun _ _ => False, rt := fun Q _ => Q = D K (.bool true) }) :
    FnOk P w K mg base CX0 (k + 1) f fd ps (spec (lawPre K) lawPost) := by
  refine fn_sv F S (fun x G M vs h => by obtain ⟨v, rfl, _⟩ := h; rw [hps]; rfl) fun cdv Ar outer s H E hr => ?_
  obtain ⟨t, ht, hs⟩ := body cdv Ar outer s H E hr
  refine ⟨t, ht, ?_⟩
  rintro ns G M vs ⟨v, rfl, hv, hl, rfl⟩ G1 H F DD e m1 hd
  refine hs ns hl _ G [] (sl_start (Ps := [D K (.list (ns.map .int))]) (vs := [v]) ⟨hv, trivial⟩) trivial G1 H F DD e m1 ⟨?_, ?_, ?_, ?_, ?_⟩
  · rintro σ2 G2 M2 H2 e2 m2 ⟨_, _, n0, _⟩
    exact n0.elim
  · rintro v G2 M2 H2 e2 m2 ⟨Q2, μ2, rfl, n1, n2⟩
    exact hd.rt v G2 M2 H2 e2 m2 (dp_bl n1)
  · rintro σ2 G2 M2 H2 e2 m2 ⟨_, _, n0, _⟩
    exact n0.elim
  · rintro σ2 G2 M2 H2 e2 m2 ⟨_, _, n0, _⟩
    exact n0.elim
  · rintro c d G2 M2 H2 e2 m2 ⟨_, n0, _⟩
    exact n0.elim
end SY
set_option Elab.async false
set_option linter.all false
set_option maxRecDepth 100000
namespace SY
open PySem PySem.Spec L2 SX
theorem yes_if {p q : Prop} (h : p) : if true = true then p else q := by rw [if_pos rfl]; exact h
theorem room65 {k : Nat} {A : Around} (r : Room k A) : A.units + 65 < cLine := by have := r.un; omega
theorem k_inD {X : Cx} {K : PySem.W.Frag} (hK : X.K = K) (hu : X.A.units + 65 < cLine) : OpR X (compareOp .In) (rInD K) := hK ▸ op_inD hu
section
variable {K : PySem.W.Frag} {te ta tb tl : TE} {tt tt1 : TT} {δ : En} {μ μ1 : Mp} {d : PyData} {g g1 : TG} {vs vs1 : List Nat} {wi wi1 : TI} {X : Nat → Pr}
/-- [e for x in l for y in f(x)], what is owned stays -/
theorem o_lc2 {α : Type} {xs : List α} {en : α → Pr} {ys : α → List PyData} {N : Nat} (hw : IY wi δ μ xs.length X μ1) (hX : ∀ (i : Nat) x, xs[i]? = some x → X i = en x) (hN : ∀ x ∈ xs, (ys x).length ≤ N) (hn : xs.length * N ≤ 100000)
    (hb : ∀ x, x ∈ xs → ∃ δ'', G1 g (en x) (wipeY δ vs) δ'' vs ∧ ∃ Y : Nat → Pr, IY wi1 δ'' μ1 (ys x).length Y μ1 ∧ ∀ (j : Nat) y, (ys x)[j]? = some y → ∃ δ3, G1 g1 (Y j) (wipeY δ'' vs1) δ3 vs1 ∧ E1 te δ3 μ1 (D K y) μ1) :
    EO K (tLc2 wi g tYes wi1 g1 tYes te vs vs1) δ μ (xs.flatMap ys) μ1 := fun σ G M s m G1 H F e m1 Q q =>
  hw σ G M s m G1 H F e m1 _ fun J G2 M2 H2 e2 m2 r2 => by
    rintro ⟨⟨Gd, Y, W, hG, hY⟩⟩ D hD
    -- Pv i: the items of the first i
    let Pv : Nat → Hp → Prop := fun i H' => ∃ G' M' ws, Ex G2 G' ∧ Me G' (M' ++ (D, .lst ws) :: F) H' ∧ Mm G' M' μ1 ∧ DpAll K G' ws ((xs.take i).flatMap ys)
    refine ⟨fun i m H => m = xs.length - i ∧ i ≤ xs.length ∧ Pv i H, ⟨xs.length, by simp, Nat.zero_le _, G2, M2, [], Ex.refl G2, by rw [mem_mid]; exact m2.newMid hD, r2, by simp; exact .nil⟩, ?_⟩
    rintro i m H' ⟨rfl, hi, G', M', ws, e', m', r', da⟩
    have hGd := hG G' M' _ H' [] e' m' (List.nil_sublist _) (show Mm G' [] [] from trivial)
    by_cases hlt : i < xs.length
    · refine .inr ⟨W.goes i H' hlt hGd, Pv (i + 1), fun H'' p' => ⟨xs.length - (i + 1), by omega, rfl, hlt, p'⟩, fun x H4 y => ?_⟩
      have hx : xs[i]? = some xs[i] := List.getElem?_eq_getElem hlt
      obtain ⟨G4, e4, m4, px⟩ := hY i G' M' _ H' x H4 [] hlt e' m' (List.nil_sublist _) (show Mm G' [] [] from trivial) (W.yields i H' x H4 hlt hGd y)
      rw [hX i _ hx] at px
      obtain ⟨δ'', hg, Yj, hw1, hb1⟩ := hb xs[i] (List.getElem_mem hlt)
      have s4 : Sl G4 (L2.wipe σ vs) (wipeY δ vs) := (s.mono (((e.trans e2).trans e').trans e4)).wipe vs
      refine hg _ G4 M' _ H4 x s4 px m4 _ fun σ5 s5 w5 => ⟨by rw [w5.wipe, wipe_wipe], ?_⟩
      unfold tYes
      refine yes_if ?_
      refine hw1 σ5 G4 M' s5 (r'.mono e4) G4 H4 _ (Ex.refl _) m4 _ fun J1 G5 M5 H5 e5 m5 r5 => ?_
      rintro ⟨⟨Gd1, Y1, W1, hG1, hY1⟩⟩
      have hlen : ws.length ≤ i * N := by
        rw [dpa_len da]
        have : ∀ k, k ≤ xs.length → ((xs.take k).flatMap ys).length ≤ k * N := fun k => by
          induction k with
          | zero => intro _; simp
          | succ k ih =>
            intro hk
            have hk' : xs[k]? = some xs[k] := List.getElem?_eq_getElem (by omega)
            rw [List.take_add_one, hk', Option.toList, List.flatMap_append, List.length_append]
            simp only [List.flatMap_cons, List.flatMap_nil, List.append_nil]
            have := ih (by omega)
            have := hN _ (List.getElem_mem (show k < xs.length by omega))
            rw [Nat.succ_mul]
            omega
        exact this i hi
      have hNi := hN _ (List.getElem_mem hlt)
      have hmul : (i + 1) * N ≤ 100000 := Nat.le_trans (Nat.mul_le_mul_right N hlt) hn
      rw [Nat.succ_mul] at hmul
      refine ⟨fun j m H => m = (ys xs[i]).length - j ∧ j ≤ (ys xs[i]).length ∧ ∃ G' M' ws', Ex G5 G' ∧ Me G' (M' ++ (D, .lst ws') :: F) H ∧ Mm G' M' μ1 ∧ ws'.length = ws.length + j ∧ DpAll K G' ws' ((xs.take i).flatMap ys ++ (ys xs[i]).take j), ⟨_, rfl, Nat.zero_le _, G5, M5, ws, Ex.refl G5, m5, r5, rfl, by simp; exact dma da (e4.trans e5)⟩, ?_⟩
      rintro j m H6 ⟨rfl, hj, G6, M6, ws6, e6, m6, r6, hl6, da6⟩
      have hGd1 := hG1 G6 M6 _ H6 [] e6 m6 (List.nil_sublist _) (show Mm G6 [] [] from trivial)
      by_cases hltj : j < (ys xs[i]).length
      · refine .inr ⟨W1.goes j H6 hltj hGd1, fun H => j + 1 ≤ (ys xs[i]).length ∧ ∃ G' M' ws', Ex G5 G' ∧ Me G' (M' ++ (D, .lst ws') :: F) H ∧ Mm G' M' μ1 ∧ ws'.length = ws.length + (j + 1) ∧ DpAll K G' ws' ((xs.take i).flatMap ys ++ (ys xs[i]).take (j + 1)), fun H'' p' => ⟨_, by omega, rfl, p'.1, p'.2⟩, fun x H7 y => ?_⟩
        have hy : (ys xs[i])[j]? = some (ys xs[i])[j] := List.getElem?_eq_getElem hltj
        obtain ⟨G7, e7, m7, py⟩ := hY1 j G6 M6 _ H6 x H7 [] hltj e6 m6 (List.nil_sublist _) (show Mm G6 [] [] from trivial) (W1.yields j H6 x H7 hltj hGd1 y)
        obtain ⟨δ3, hg3, he3⟩ := hb1 j _ hy
        have s7 : Sl G7 (L2.wipe σ5 vs1) (wipeY δ'' vs1) := (s5.mono ((e5.trans e6).trans e7)).wipe vs1
        refine hg3 _ G7 M6 _ H7 x s7 py m7 _ fun σ8 s8 w8 => ⟨by rw [w8.wipe, wipe_wipe], ?_⟩
        refine yes_if ?_
        refine he3 σ8 G7 M6 s8 (r6.mono e7) G7 H7 _ (Ex.refl _) m7 _ fun z G8 M8 H8 e8 m8 r8 => ?_
        have hm : (M8 ++ (D, HO.lst ws6) :: F)[M8.length]? = some (D, .lst ws6) := by
          rw [List.getElem?_append_right (Nat.le_refl _), Nat.sub_self]
          rfl
        refine ⟨ws6, m8.get hm, sz_ok (by omega), hltj, G8, M8, ws6 ++ [z], (e6.trans e7).trans e8, ?_, r8.2, by simp [hl6]; omega, ?_⟩
        · have := m8.put (o' := .lst (ws6 ++ [z])) hm
          rw [List.set_append_right _ _ (Nat.le_refl _), Nat.sub_self] at this
          exact this
        · rw [List.take_add_one, hy, Option.toList, ← List.append_assoc]
          exact dpa_app (dma da6 (e7.trans e8)) (.cons r8.1 .nil)
      · have : j = (ys xs[i]).length := by omega
        subst this
        refine .inl ⟨W1.stops H6 hGd1, G6, M6, ws6, ((e'.trans e4).trans e5).trans e6, m6, r6, ?_⟩
        rw [List.take_length] at da6
        rw [List.take_add_one, hx, Option.toList, List.flatMap_append]
        simpa using da6
    · have : i = xs.length := by omega
      subst this
      rw [List.take_length] at da
      rw [mem_mid] at m'
      exact .inl ⟨W.stops H' hGd, q _ G' _ H' (e2.trans e') m' ⟨D, ws, M', rfl, rfl, da, r'⟩⟩
/-- isinstance(x, (int, str)) -/
theorem e_isiT2 (h : E1 ta δ μ (D K d) μ1) : E1 (tCB (rIsiT K) (tCons ta (tCons (tTup (tCons (tC (.ty "int")) (tCons (tC (.ty "str")) tNil))) tNil))) δ μ (D K (.bool (isTy d "int" || isTy d "str"))) μ1 :=
  e_CB (a_cons h (a_cons (e_tupP (a_cons (e_cst (P := Cv (.ty "int")) fun _ => rfl) (a_cons (e_cst (P := Cv (.ty "str")) fun _ => rfl) a_nil)) (by simp)) a_nil)) fun G H F M vs m mm p Q q => by
    match vs, p with
    | [v, c], ⟨p1, pt, _⟩ =>
      obtain ⟨tp, ws, rfl, p2, p3⟩ := pt
      match ws, p3 with
      | [w1, w2], ⟨q1, q2, _⟩ =>
      have q1 : w1 = .ty "int" := q1
      have q2 : w2 = .ty "str" := q2
      subst q1 q2
      have p1 : Dp K G v d := p1
      refine ⟨v, tp, [.ty "int", .ty "str"], .type (tyName d), [.type "int", .type "str"], (isTy d "int" || isTy d "str"), rfl, m.ex _ _ p2, .cons (.ty "int") (.cons (.ty "str") .nil), tyx_of (dm p1 m.ex), kitAny_cons (b := isTy d "int") (kit_ty ?_) (fun hb => kitAny_cons (b := isTy d "str") (kit_ty ?_) (fun hb2 => ?_) (fun hb2 => ?_)) (fun hb => ?_), q _ G M H (Ex.refl _) m (.bl _) mm⟩
      · unfold isTy
        cases p1 <;> dsimp only [tyName] <;> decide +kernel
      · unfold isTy
        cases p1 <;> dsimp only [tyName] <;> decide +kernel
      · rw [hb, hb2]
        rfl
      · rw [hb2]
        simp
      · rw [hb]
        rfl
end
def isPlain : PyData → Bool
  | .tuple ds => ds.all fun d => (isTy d "int" || isTy d "str") && !isTy d "bool"
  | _ => false
def offsOf (b : Int) : List Deed := ((List.range (b - 1).toNat).map fun (n : Nat) => 1 + (n : Int)).map Deed.off
def readsOf (b r : Int) : List Deed := (List.range r.toNat).flatMap fun (j : Nat) => ((List.range (b - 1).toNat).map fun (n : Nat) => 1 + (n : Int)).map (Deed.read (j : Int))
def copiesOf (r : Int) : List Deed := (List.range r.toNat).map fun (j : Nat) => Deed.copy (j : Int)
def allDeeds (b r : Int) : List Deed := [.forget, .again] ++ (offsOf b ++ (readsOf b r ++ (copiesOf r ++ [.swap, .out, .twice])))
theorem offsOf_len (b : Int) : (offsOf b).length = (b - 1).toNat := by simp [offsOf]
theorem readsOf_len (b r : Int) : (readsOf b r).length = r.toNat * (b - 1).toNat := by
  unfold readsOf
  rw [List.length_flatMap]
  simp [List.map_const']
theorem copiesOf_len (r : Int) : (copiesOf r).length = r.toNat := by simp [copiesOf]
def isDeedD (b r : Int) (d : PyData) : Bool := isPlain d && (allDeeds b r).any fun x => PyData.eqv (deedD x) d
end SY
set_option Elab.async false
set_option linter.all false
set_option maxRecDepth 100000
namespace SY
open PySem PySem.Spec L2 SX
def isCopy : Deed → Bool
  | .copy _ => true
  | _ => false
/-- the figure that is copied -/
def copiedV (cs : List (List Int)) (a : Nat) : Deed → Int
  | .copy j => (cs.getD (a - 1) []).getD j.toNat 0
  | _ => 0
def copiedD (cs : List (List Int)) (a : Nat) (x : Deed) : PyData := if isCopy x = true then .int (copiedV cs a x) else .none
/-- a slip's own doing at column a -/
def doSlip (b : Int) (cs : List (List Int)) (a : Nat) (c : Int) (x : Deed) : Option (List Int × Int) :=
  if isCopy x = true ∧ a = 0 ∨ x = .swap ∧ a + 1 = cs.length then none
  else if x = .swap then some ((doCols b ((cs.take (a + 2)).drop a) c).1.reverse, (doCols b ((cs.take (a + 2)).drop a) c).2)
  else doSum b (sumTaken b (cs.getD a []) (copiedV cs a x) (some x)) c (some x)
/-- what is written from column lo on, with the carry c; none where some slip is none -/
def addV (b r : Int) (cs : List (List Int)) : List (Int × Deed) → Nat → Int → Option (List Int × Int)
  | [], lo, c => some (doCols b (cs.drop lo) c)
  | (a, x) :: sl, lo, c =>
    if (lo : Int) ≤ a ∧ a < cs.length ∧ x ∈ allDeeds b r then
      (doSlip b cs a.toNat (doCols b ((cs.take a.toNat).drop lo) c).2 x).bind fun w =>
        (addV b r cs sl (if x = .swap then a.toNat + 2 else a.toNat + 1) w.2).map fun f => ((doCols b ((cs.take a.toNat).drop lo) c).1 ++ w.1 ++ f.1, f.2)
    else none
def slipD (s : Int × Deed) : PyData := .tuple [.int s.1, deedD s.2]
theorem mem_offs {b : Int} {x : Deed} : x ∈ offsOf b ↔ ∃ d, x = .off d ∧ 1 ≤ d ∧ d < b := by
  unfold offsOf
  simp only [List.mem_map, List.mem_range]
  constructor
  · rintro ⟨_, ⟨n, hn, rfl⟩, rfl⟩
    exact ⟨_, rfl, by omega, by omega⟩
  · rintro ⟨d, rfl, h1, h2⟩
    exact ⟨d, ⟨(d - 1).toNat, by omega, by omega⟩, rfl⟩
theorem mem_reads {b r : Int} {x : Deed} : x ∈ readsOf b r ↔ ∃ j d, x = .read j d ∧ 0 ≤ j ∧ j < r ∧ 1 ≤ d ∧ d < b := by
  unfold readsOf
  simp only [List.mem_flatMap, List.mem_map, List.mem_range]
  constructor
  · rintro ⟨j, hj, _, ⟨n, hn, rfl⟩, rfl⟩
    exact ⟨(j : Int), 1 + (n : Int), rfl, Int.natCast_nonneg j, by omega, by omega, by omega⟩
  · rintro ⟨j, d, rfl, h1, h2, h3, h4⟩
    exact ⟨j.toNat, by omega, d, ⟨(d - 1).toNat, by omega, by omega⟩, by rw [Int.toNat_of_nonneg h1]⟩
theorem mem_copies {r : Int} {x : Deed} : x ∈ copiesOf r ↔ ∃ j, x = .copy j ∧ 0 ≤ j ∧ j < r := by
  unfold copiesOf
  simp only [List.mem_map, List.mem_range]
  constructor
  · rintro ⟨j, hj, rfl⟩
    exact ⟨(j : Int), rfl, Int.natCast_nonneg j, by omega⟩
  · rintro ⟨j, rfl, h1, h2⟩
    exact ⟨j.toNat, by omega, by rw [Int.toNat_of_nonneg h1]⟩
theorem mem_all {b r : Int} {x : Deed} : x ∈ allDeeds b r ↔ x = .forget ∨ x = .again ∨ (∃ d, x = .off d ∧ 1 ≤ d ∧ d < b) ∨ (∃ j d, x = .read j d ∧ 0 ≤ j ∧ j < r ∧ 1 ≤ d ∧ d < b) ∨ (∃ j, x = .copy j ∧ 0 ≤ j ∧ j < r) ∨ x = .swap ∨ x = .out ∨ x = .twice := by
  unfold allDeeds
  simp only [List.mem_append, List.mem_cons, List.not_mem_nil, or_false, mem_offs, mem_reads, mem_copies]
  constructor
  · rintro ((h | h) | h | h | h | h | h | h)
    · exact .inl h
    · exact .inr (.inl h)
    · exact .inr (.inr (.inl h))
    · exact .inr (.inr (.inr (.inl h)))
    · exact .inr (.inr (.inr (.inr (.inl h))))
    · exact .inr (.inr (.inr (.inr (.inr (.inl h)))))
    · exact .inr (.inr (.inr (.inr (.inr (.inr (.inl h))))))
    · exact .inr (.inr (.inr (.inr (.inr (.inr (.inr h))))))
  · rintro (h | h | h | h | h | h | h | h)
    · exact .inl (.inl h)
    · exact .inl (.inr h)
    · exact .inr (.inl h)
    · exact .inr (.inr (.inl h))
    · exact .inr (.inr (.inr (.inl h)))
    · exact .inr (.inr (.inr (.inr (.inl h))))
    · exact .inr (.inr (.inr (.inr (.inr (.inl h)))))
    · exact .inr (.inr (.inr (.inr (.inr (.inr h)))))
theorem rowOk_all {b r : Int} {x : Deed} {n : Nat} (h : x ∈ allDeeds b r) (hn : r ≤ n) : RowOk n (some x) := by
  rcases mem_all.mp h with rfl | rfl | ⟨d, rfl, _⟩ | ⟨j, d, rfl, h1, h2, _⟩ | ⟨j, rfl, h1, h2⟩ | rfl | rfl | rfl
  all_goals first | trivial | exact ⟨by omega, by omega⟩
theorem isPlain_deed {b r : Int} {x : Deed} (h : x ∈ allDeeds b r) : isPlain (deedD x) = true := by
  rcases mem_all.mp h with rfl | rfl | ⟨d, rfl, _⟩ | ⟨j, d, rfl, _⟩ | ⟨j, rfl, _⟩ | rfl | rfl | rfl <;> rfl
theorem eqv_plain : ∀ {ds es : List PyData}, (∀ d ∈ ds, ∃ i s, d = .int i ∨ d = .str s) → (∀ d ∈ es, ∃ i s, d = .int i ∨ d = .str s) → (PyData.eqvAll ds es = true ↔ ds = es)
  | [], [], _, _ => by simp [PyData.eqvAll]
  | [], _ :: _, _, _ => by simp [PyData.eqvAll]
  | _ :: _, [], _, _ => by simp [PyData.eqvAll]
  | d :: ds, e :: es, h1, h2 => by
    have ih := eqv_plain (ds := ds) (es := es) (fun x hx => h1 x (List.mem_cons_of_mem _ hx)) fun x hx => h2 x (List.mem_cons_of_mem _ hx)
    obtain ⟨i, s, h3⟩ := h1 d List.mem_cons_self
    obtain ⟨j, t, h4⟩ := h2 e List.mem_cons_self
    show (PyData.eqv d e && PyData.eqvAll ds es) = true ↔ _
    rw [Bool.and_eq_true, ih]
    rcases h3 with rfl | rfl <;> rcases h4 with rfl | rfl <;> simp [PyData.eqv]
theorem plain_items {ds : List PyData} (h : isPlain (.tuple ds) = true) : ∀ d ∈ ds, ∃ i s, d = .int i ∨ d = .str s := fun d hd => by
  have := List.all_eq_true.mp h d hd
  cases d <;> first | exact ⟨_, "", .inl rfl⟩ | exact ⟨0, _, .inr rfl⟩ | (exfalso; revert this; simp [isTy, isTyS, tyName])
theorem isDeed_iff {b r : Int} {d : PyData} : isDeedD b r d = true ↔ ∃ x, x ∈ allDeeds b r ∧ d = deedD x := by
  unfold isDeedD
  rw [Bool.and_eq_true, List.any_eq_true]
  constructor
  · rintro ⟨hp, x, hx, he⟩
    refine ⟨x, hx, ?_⟩
    cases d with
    | tuple ds =>
      have h1 := plain_items (isPlain_deed hx)
      have h2 := plain_items hp
      have : x.L = ds := (eqv_plain h1 h2).mp he
      rw [← this]
    | _ => cases hp
  · rintro ⟨x, hx, rfl⟩
    exact ⟨isPlain_deed hx, x, hx, (eqv_plain (plain_items (isPlain_deed hx)) (plain_items (isPlain_deed hx))).mpr rfl⟩
theorem deedD_inj {x y : Deed} (h : deedD x = deedD y) : x = y := by
  have h : x.L = y.L := by injection h
  cases x <;> cases y <;> first | rfl | (exfalso; simp only [Deed.L, List.cons.injEq, PyData.str.injEq] at h; exact absurd h.1 (by decide)) | (simp only [Deed.L, List.cons.injEq, PyData.int.injEq, and_true, true_and] at h; simp_all; done) | (exfalso; simp only [Deed.L, List.cons.injEq, PyData.str.injEq, and_true] at h; exact absurd h (by decide))
end SY
namespace SY
open PySem PySem.Spec L2 SX
theorem word_copy (x : Deed) : decide (x.word = "copy") = isCopy x := by
  cases h : decide (x.word = "copy") with
  | true => obtain ⟨j, rfl⟩ := w_copy h; rfl
  | false => cases x <;> first | rfl | (exfalso; exact of_decide_eq_false h rfl)
theorem word_swap (x : Deed) : decide (x.word = "swap") = decide (x = .swap) := by
  cases h : decide (x.word = "swap") with
  | true => obtain rfl := w_swap h; rfl
  | false => cases x <;> first | rfl | (exfalso; exact of_decide_eq_false h rfl)
theorem sIx_nn (n d : Nat) {i : Int} (h : 0 ≤ i) : HT.sIx n d (some i) = min i.toNat n := by
  show (if i < 0 then _ else _) = _
  rw [if_neg (by omega)]
theorem cutG_lo {α : Type} (xs : List α) {lo : Int} (h0 : 0 ≤ lo) : cutG xs (some lo) none = xs.drop lo.toNat := by
  unfold cutG
  rw [sIx_nn _ _ h0, HT.sIx_none]
  by_cases h : lo.toNat ≤ xs.length
  · rw [Nat.min_eq_left h, List.take_of_length_le (by rw [List.length_drop]; exact Nat.le_refl _)]
  · rw [Nat.min_eq_right (by omega), List.drop_of_length_le (Nat.le_refl _), List.drop_of_length_le (by omega), List.take_nil]
theorem cutG_hi {α : Type} (xs : List α) {hi : Int} (h0 : 0 ≤ hi) : cutG xs none (some hi) = xs.take hi.toNat := by
  unfold cutG
  rw [sIx_nn _ _ h0, HT.sIx_none, Nat.sub_zero, List.drop_zero]
  by_cases h : hi.toNat ≤ xs.length
  · rw [Nat.min_eq_left h]
  · rw [Nat.min_eq_right (by omega), List.take_length, List.take_of_length_le (by omega)]
theorem cutG_two {α : Type} (xs : List α) {lo hi : Int} (h0 : 0 ≤ lo) (h1 : 0 ≤ hi) : cutG xs (some lo) (some hi) = (xs.take hi.toNat).drop lo.toNat := by
  unfold cutG
  rw [sIx_nn _ _ h0, sIx_nn _ _ h1, List.drop_take]
  by_cases h : lo.toNat ≤ xs.length
  · rw [Nat.min_eq_left h]
    by_cases h' : hi.toNat ≤ xs.length
    · rw [Nat.min_eq_left h']
    · rw [Nat.min_eq_right (by omega)]
      rw [List.take_of_length_le (by simp), List.take_of_length_le (by simp; omega)]
  · rw [List.drop_of_length_le (show xs.length ≤ min lo.toNat xs.length by omega), List.drop_of_length_le (show xs.length ≤ lo.toNat by omega), List.take_nil, List.take_nil]
end SY
namespace SY
open PySem PySem.Spec L2 SX
def itemsOf : PyData → List PyData
  | .tuple ds => ds
  | .list ds => ds
  | _ => []
def isSlipD (b r : Int) (n : Nat) (lo : Int) (d : PyData) : Bool := match d with
  | .tuple [x, y] => isWhole x lo ((n : Int) - 1) && isDeedD b r y
  | _ => false
theorem sh_itemsA : ∀ {ds : List PyData} {e : PyData} {n : Nat}, PyData.canLayAll0 ds = true → PyData.depthAll ds ≤ n → e ∈ ds → PyData.canLay0 e = true ∧ PyData.depth e ≤ n
  | d :: ds, e, n, h1, h2, h3 => by
    have h1 : (PyData.canLay0 d && PyData.canLayAll0 ds) = true := h1
    rw [Bool.and_eq_true] at h1
    have h2 : max (PyData.depth d) (PyData.depthAll ds) ≤ n := h2
    rcases List.mem_cons.mp h3 with rfl | h3
    · exact ⟨h1.1, by omega⟩
    · exact sh_itemsA h1.2 (by omega) h3
theorem sh_item {d e : PyData} (h : SeqAt.shaped d = true) (he : e ∈ itemsOf d) : SeqAt.shaped e = true := by
  have h1 := SeqAt.canLay_of_shaped h
  have h2 := SeqAt.depth_of_shaped h
  have key : ∀ ds : List PyData, PyData.canLayAll0 ds = true → PyData.depthAll ds + 1 ≤ 64 → e ∈ ds → SeqAt.shaped e = true := fun ds a1 a2 a3 => by
    obtain ⟨k1, k2⟩ := sh_itemsA a1 (Nat.le_refl _) a3
    unfold SeqAt.shaped
    rw [k1, decide_eq_true (by omega)]
    rfl
  cases d with
  | tuple ds => exact key ds h1 (by have h2 : PyData.depthAll ds + 1 ≤ 64 ∨ 1 + PyData.depthAll ds ≤ 64 := by first | exact .inl h2 | exact .inr h2
                                    omega) he
  | list ds => exact key ds h1 (by have h2 : PyData.depthAll ds + 1 ≤ 64 ∨ 1 + PyData.depthAll ds ≤ 64 := by first | exact .inl h2 | exact .inr h2
                                   omega) he
  | _ => cases he
end SY
namespace SY
open PySem PySem.Spec L2 SX
theorem sh_str {n : Nat} {s : Str} (h : PyData.canLay0 (.str s) = true) : Sh n (.str s) := ⟨h, Nat.zero_le _⟩
theorem sh_deed {n : Nat} (x : Deed) : Sh (n + 1) (deedD x) := sh_tup fun d hd => by
  cases x <;> simp only [Deed.L, List.mem_cons, List.not_mem_nil, or_false] at hd
  all_goals (first | (rcases hd with rfl | rfl | rfl) | (rcases hd with rfl | rfl) | subst hd) <;> first | exact sh_str (by decide +kernel) | exact sh_int _
theorem sh_slip {n : Nat} (s : Int × Deed) : Sh (n + 2) (slipD s) := sh_tup fun d hd => by
  simp only [List.mem_cons, List.not_mem_nil, or_false] at hd
  rcases hd with rfl | rfl
  · exact sh_int _
  · exact sh_deed _
theorem dlen_deed (x : Deed) : dlen (deedD x) ≤ 3 := by
  show x.L.length ≤ 3
  cases x <;> simp [Deed.L]
theorem isSlip_of {b r : Int} {n lo : Nat} {a : Int} {x : Deed} (h : (lo : Int) ≤ a ∧ a < n ∧ x ∈ allDeeds b r) : isSlipD b r n lo (slipD (a, x)) = true := by
  show (isWhole (.int a) lo ((n : Int) - 1) && isDeedD b r (deedD x)) = true
  rw [isDeed_iff.mpr ⟨x, h.2.2, rfl⟩, Bool.and_true]
  show (true && (decide ((lo : Int) ≤ a) && decide (a ≤ (n : Int) - 1))) = true
  rw [decide_eq_true h.1, decide_eq_true (by omega)]
  rfl
theorem doSum_len {b t c : Int} {od : Option Deed} {w : List Int × Int} (h : doSum b t c od = some w) : w.1.length ≤ 2 := by
  cases od with
  | none => cases h; simp
  | some x =>
    cases x <;> simp only [doSum] at h <;> first | (cases h; simp; done) | (split at h <;> cases h; simp; done)
theorem doSlip_len {b : Int} {cs : List (List Int)} {a : Nat} {c : Int} {x : Deed} {w : List Int × Int} (h : doSlip b cs a c x = some w) : w.1.length ≤ 2 := by
  unfold doSlip at h
  split at h
  · cases h
  · split at h
    · cases h
      rw [List.length_reverse, doCols_len]
      simp
      omega
    · exact doSum_len h
theorem doSlip_swap {b : Int} {cs : List (List Int)} {a : Nat} {c : Int} {w : List Int × Int} (h : doSlip b cs a c .swap = some w) (ha : a < cs.length) : a + 2 ≤ cs.length := by
  unfold doSlip at h
  split at h
  · cases h
  · rename_i hn
    have : ¬ (a + 1 = cs.length) := fun e => hn (.inr ⟨rfl, e⟩)
    omega
theorem addV_cons {b r : Int} {cs : List (List Int)} {a : Int} {x : Deed} {sl : List (Int × Deed)} {lo : Nat} {c : Int} {f : List Int × Int} (h : addV b r cs ((a, x) :: sl) lo c = some f) :
    ((lo : Int) ≤ a ∧ a < cs.length ∧ x ∈ allDeeds b r) ∧ ∃ w g, doSlip b cs a.toNat (doCols b ((cs.take a.toNat).drop lo) c).2 x = some w ∧ addV b r cs sl (if x = .swap then a.toNat + 2 else a.toNat + 1) w.2 = some g ∧ f = ((doCols b ((cs.take a.toNat).drop lo) c).1 ++ w.1 ++ g.1, g.2) := by
  unfold addV at h
  split at h
  · rename_i hc
    refine ⟨hc, ?_⟩
    cases hw : doSlip b cs a.toNat (doCols b ((cs.take a.toNat).drop lo) c).2 x with
    | none => rw [hw] at h; cases h
    | some w =>
      rw [hw] at h
      cases hg : addV b r cs sl (if x = .swap then a.toNat + 2 else a.toNat + 1) w.2 with
      | none => simp only [Option.bind_some, hg, Option.map_none] at h; cases h
      | some g =>
        simp only [Option.bind_some, hg, Option.map_some] at h
        exact ⟨w, g, rfl, hg, (Option.some.inj h).symm⟩
  · cases h
theorem addV_len {b r : Int} {cs : List (List Int)} : ∀ {sl : List (Int × Deed)} {lo : Nat} {c : Int} {f : List Int × Int}, lo ≤ cs.length → addV b r cs sl lo c = some f → f.1.length ≤ 2 * (cs.length - lo)
  | [], lo, c, f, hl, h => by
    cases h
    rw [doCols_len, List.length_drop]
    omega
  | (a, x) :: sl, lo, c, f, hl, h => by
    obtain ⟨⟨h1, h2, h3⟩, w, g, hw, hg, rfl⟩ := addV_cons h
    have hwl := doSlip_len hw
    have e1 : ((cs.take a.toNat).drop lo).length = a.toNat - lo := by simp; omega
    simp only [List.length_append, doCols_len, e1]
    by_cases hx : x = .swap
    · subst hx
      have := doSlip_swap hw (by omega)
      rw [if_pos rfl] at hg
      have := addV_len (by omega) hg
      omega
    · rw [if_neg hx] at hg
      have := addV_len (by omega) hg
      omega
theorem addV_lo {b r : Int} {cs : List (List Int)} {a : Int} {x : Deed} {lo : Nat} {c : Int} {w : List Int × Int} (h : (lo : Int) ≤ a ∧ a < cs.length) (hw : doSlip b cs a.toNat c x = some w) : (if x = .swap then a.toNat + 2 else a.toNat + 1) ≤ cs.length := by
  split
  · rename_i hx
    subst hx
    exact doSlip_swap hw (by omega)
  · omega
end SY
set_option Elab.async false
set_option linter.all false
set_option maxRecDepth 100000
namespace SY
open PySem PySem.Spec L2 SX
def digs (b : Int) : Int → Nat → List Int × Int
  | w, 0 => ([], w)
  | w, n + 1 => (w % b :: (digs b (w / b) n).1, (digs b (w / b) n).2)
theorem valueOf_cons (b : Int) (x : List Int) (xs : List (List Int)) : valueOf b (x :: xs) = valueOf b xs * b + x.sum := rfl
theorem doCols_digs {b : Int} (hb : 0 < b) : ∀ (cs : List (List Int)) (c : Int), doCols b cs c = digs b (valueOf b cs + c) cs.length
  | [], c => by
    show ([], c) = ([], (0 : Int) + c)
    rw [Int.zero_add]
  | x :: xs, c => by
    have h1 : (valueOf b (x :: xs) + c) % b = (x.sum + c) % b := by
      rw [valueOf_cons, Int.add_assoc, Int.add_comm, Int.add_mul_emod_self_right]
    have h2 : (valueOf b (x :: xs) + c) / b = valueOf b xs + (x.sum + c) / b := by
      rw [valueOf_cons, Int.add_assoc, Int.add_comm, Int.add_mul_ediv_right _ _ (by omega), Int.add_comm]
    show ((x.sum + c) % b :: (doCols b xs ((x.sum + c) / b)).1, (doCols b xs ((x.sum + c) / b)).2) = ((valueOf b (x :: xs) + c) % b :: (digs b ((valueOf b (x :: xs) + c) / b) xs.length).1, (digs b ((valueOf b (x :: xs) + c) / b) xs.length).2)
    rw [h1, h2, doCols_digs hb xs]
theorem horner_cons (b x last : Int) (xs : List Int) : horner b (x :: xs) last = horner b xs last * b + x := rfl
theorem horner_digs {b : Int} (hb : 0 < b) : ∀ (n : Nat) (w : Int), horner b (digs b w n).1 (digs b w n).2 = w
  | 0, w => rfl
  | n + 1, w => by
    show horner b (w % b :: (digs b (w / b) n).1) (digs b (w / b) n).2 = w
    rw [horner_cons, horner_digs hb n]
    have := Int.mul_ediv_add_emod w b
    rw [Int.mul_comm] at this
    exact this
section
variable {E : XK} {K : PySem.W.Frag} {C : Addr} {ta tb tc : TE} {tA : TA} {δ : En} {μ μ1 : Mp} {P : Pr} {b : Int} {cs : List (List Int)}
theorem e_lv (h : EA tA δ μ [D K (.int b), P] μ1) (hl : LR K P μ1 (cs.map colD)) (h2 : ∀ c ∈ cs, -(2 ^ 64) < c.sum ∧ c.sum < 2 ^ 64) (hb : -(2 ^ 64) < b ∧ b < 2 ^ 64) : E1 (tCall (spec (lvPre K) lvPost) [] E tA) δ μ (D K (.int (valueOf b cs))) μ1 := fun σ G M s mm =>
  ev_callO h s mm fun G M vs a m2 => by
    obtain ⟨v, w, rfl, p1, p2⟩ := allP2 a
    obtain ⟨ad, xs, rfl, h3, h4⟩ := hl G w M p2 m2
    refine ⟨(b, ad, cs), ⟨by rw [dp_int p1], ⟨⟨xs, h3, h4⟩⟩, h2, hb⟩, ?_⟩
    rintro G' v' M' e ⟨rfl, rfl⟩
    exact ⟨.int _, m2.mono e⟩
end
end SY
namespace SY
open PySem PySem.Spec L2 SX
section
variable {K : PySem.W.Frag} {ta : TE} {δ : En} {μ μ1 : Mp} {P : Pr} {ds : List PyData}
theorem e_eqNil (h : E1 ta δ μ P μ1) (hl : LR K P μ1 ds) (hs : SeqAt.shaped (.list ds) = true) : E1 (tOp (rEqD K) ta (tLst tNil)) δ μ (D K (.bool ds.isEmpty)) μ1 :=
  e_eqD h (EO.frz (o_lst (K := K) d_nil (by decide))) (dr_L hl) dr_D hs (by decide) (by cases ds <;> rfl)
theorem e_neNil (h : E1 ta δ μ P μ1) (hl : LR K P μ1 ds) (hs : SeqAt.shaped (.list ds) = true) : E1 (tOp (rNeD K) ta (tLst tNil)) δ μ (D K (.bool (!ds.isEmpty))) μ1 :=
  e_neD h (EO.frz (o_lst (K := K) d_nil (by decide))) (dr_L hl) dr_D hs (by decide) (by cases ds <;> rfl)
end
end SY
namespace SY
open PySem PySem.Spec L2 SX
theorem s_then {E : XK} {t u : TS} {δ : En} {μ : Mp} {P : PY} (h : S1 E t δ μ { P with nx := fun δ' μ' => S1 E u δ' μ' P }) : S1 E (tSeq t u) δ μ P := s_seq (N := fun δ' μ' => S1 E u δ' μ' P) h fun _ _ z => z
end SY
namespace SY
open PySem PySem.Spec L2 SX
theorem tp_notN {Ps : List Pr} : ∀ G v, (Tp Ps).p G v → v ≠ .non := fun G v h => by
  obtain ⟨a, vs, rfl, _⟩ := h
  intro h
  cases h
end SY
set_option Elab.async false
set_option linter.all false
set_option maxRecDepth 100000
namespace SY
open PySem PySem.Spec L2 SX
def slipR (a : Int) (w : Option (List Int × Int)) (x : Deed) : PyData := match w with
  | none => .none
  | some (fs, c) => .tuple [.list (fs.map .int), .int c, .int (if x = .swap then a + 2 else a + 1)]
section
variable {K : PySem.W.Frag} {te ta tb : TE} {δ : En} {μ μ1 : Mp} {P1 : Pr} {α : Type} {enc : α → PyData} {xs : List α} {lo hi : Int}
theorem o_listC {c : List Int} (h : E1 ta δ μ (D K (colD c)) μ1) : EO K (tCB (rListS K) (tCons ta tNil)) δ μ (c.map .int) μ1 := o_listT h
theorem e_ixCI {c : List Int} {i : Int} {μ2 : Mp} (h1 : E1 ta δ μ (D K (colD c)) μ1) (h2 : E1 tb δ μ1 (D K (.int i)) μ2) (h : 0 ≤ i ∧ i < c.length) : E1 (tOp (rIxT K) ta tb) δ μ (D K (.int (c.getD i.toNat 0))) μ2 := e_ixTI h1 h2 h
theorem e_ixLD {i : Int} {μ2 : Mp} {xs : List Deed} (h1 : E1 ta δ μ P1 μ1) (h2 : E1 tb δ μ1 (D K (.int i)) μ2) (hl : LR K P1 μ2 (xs.map deedD)) (h : 0 ≤ i ∧ i < xs.length) : E1 (tOp (rIxL K) ta tb) δ μ (D K (deedD (xs.getD i.toNat .right))) μ2 := e_ixLM .right h1 h2 hl h
theorem e_lenC {c : List Int} (h : E1 ta δ μ (D K (colD c)) μ1) : E1 (tCB (rLenS K) (tCons ta tNil)) δ μ (D K (.int (c.length : Int))) μ1 := by
  have := e_lenT (K := K) h
  rw [List.length_map] at this
  exact this
theorem o_cut2 (h : E1 te δ μ P1 μ1) (hl : E1 ta δ μ1 (D K (.int lo)) μ1) (hh : E1 tb δ μ1 (D K (.int hi)) μ1) (l : LR K P1 μ1 (xs.map enc)) (h0 : 0 ≤ lo) (h1 : 0 ≤ hi) : EO K (tSl (rSlL K) te (tPart ta) (tPart tb)) δ μ (((xs.take hi.toNat).drop lo.toNat).map enc) μ1 := by
  rw [← cutG_two _ h0 h1]
  exact o_slM h (y_some hl) (y_some hh) l
theorem o_cutL (h : E1 te δ μ P1 μ1) (hl : E1 ta δ μ1 (D K (.int lo)) μ1) (l : LR K P1 μ1 (xs.map enc)) (h0 : 0 ≤ lo) : EO K (tSl (rSlL K) te (tPart ta) tNoPart) δ μ ((xs.drop lo.toNat).map enc) μ1 := by
  rw [← cutG_lo _ h0]
  exact o_slM h (y_some hl) y_none l
theorem o_cutH (h : E1 te δ μ P1 μ1) (hh : E1 tb δ μ1 (D K (.int hi)) μ1) (l : LR K P1 μ1 (xs.map enc)) (h1 : 0 ≤ hi) : EO K (tSl (rSlL K) te tNoPart (tPart tb)) δ μ ((xs.take hi.toNat).map enc) μ1 := by
  rw [← cutG_hi _ h1]
  exact o_slM h y_none (y_some hh) l
end
end SY
namespace SY
open PySem PySem.Spec L2 SX
section
variable {K : PySem.W.Frag} {te ta tb : TE} {δ : En} {μ μ1 : Mp} {P : Pr} {C C' : Addr} {b : Bool}
/-- an instance of C -/
def InsY (C : Addr) (P : Pr) (μ : Mp) : Prop := ∀ G v M, P.p G v → Mm G M μ → ∃ p dx fs, v = .ref p ∧ At G M p (.ins C dx fs)
theorem e_isiO (h : E1 ta δ μ P μ1) (ic : IsCls K C) (cl : Cls K C) (hk : PySem.W.kitOne K (.ref C) (.ref C') = some b) (hp : InsY C P μ1) : E1 (tCB (rIsi K) (tCons ta (tCons (tC (.ref C')) tNil))) δ μ (D K (.bool b)) μ1 :=
  e_CB (a_cons h (a_cons (e_cst (P := Cv (.ref C')) fun _ => rfl) a_nil)) fun G H F M vs m mm p Q q => by
    match vs, p with
    | [v, c], ⟨p1, p2, _⟩ =>
      have p2 : c = .ref C' := p2
      subst p2
      obtain ⟨p0, dx, fs, rfl, h3⟩ := hp G v M p1 mm
      exact ⟨.ref p0, .ref C', .ref C, .ref C', b, rfl, .own C', .base (.ins (h3 G H F (Ex.refl _) m) cl ic.ha ic.hn ic.ht ic.hm), hk, q _ G M H (Ex.refl _) m (.bl _) mm⟩
theorem ins_wr {b0 last : Int} {figs : List Int} {μ : Mp} : InsY C (WrP K C b0 figs last) μ := fun G v M h _ => by
  obtain ⟨p, dx, fs, rfl, h1, _⟩ := wr_pre h M
  exact ⟨p, dx, fs, rfl, h1⟩
theorem ins_sh {b0 r : Int} {cs : List (List Int)} {μ : Mp} (h : SR K C P μ b0 r cs) : InsY C P μ := fun G v M hv mm => by
  obtain ⟨p, dx, fs, rfl, h1, _⟩ := h.pre hv mm
  exact ⟨p, dx, fs, rfl, h1⟩
end
end SY
namespace SY
open PySem PySem.Spec L2 SX
theorem eqv_same {d : PyData} (h : SeqAt.shaped d = true) : PyData.eqv d d = true := SeqAt.eqv_refl d (SeqAt.canLay_of_shaped h)
theorem shd_slips (sl : List (Int × Deed)) : SeqAt.shaped (.list (sl.map slipD)) = true := (sh_lst (n := 2) fun x hx => by
  obtain ⟨y, _, rfl⟩ := List.mem_map.mp hx
  exact sh_slip (n := 0) _).ok
theorem shd_deeds (ds : List Deed) : SeqAt.shaped (.list (ds.map deedD)) = true := (sh_lst (n := 1) fun x hx => by
  obtain ⟨y, _, rfl⟩ := List.mem_map.mp hx
  exact sh_deed (n := 0) _).ok
end SY
namespace SY
open PySem PySem.Spec L2 SX
section
variable {K : PySem.W.Frag} {ta : TE} {δ : En} {μ μ1 : Mp} {s : Int × Deed}
theorem e_ixS0 (h : E1 ta δ μ (D K (slipD s)) μ1) : E1 (tOp (rIxT K) ta (tC (.int 0))) δ μ (D K (.int s.1)) μ1 := e_ixT (ds := [.int s.1, deedD s.2]) h e_cI rfl
theorem e_ixS1 (h : E1 ta δ μ (D K (slipD s)) μ1) : E1 (tOp (rIxT K) ta (tC (.int 1))) δ μ (D K (deedD s.2)) μ1 := e_ixT (ds := [.int s.1, deedD s.2]) h e_cI rfl
end
end SY
namespace SY
open PySem PySem.Spec L2 SX
theorem plain_deed (x : Deed) : ∀ d ∈ x.L, ∃ i s, d = PyData.int i ∨ d = .str s := fun d hd => by
  cases x <;> simp only [Deed.L, List.mem_cons, List.not_mem_nil, or_false] at hd
  all_goals (first | (rcases hd with rfl | rfl | rfl) | (rcases hd with rfl | rfl) | subst hd) <;> first | exact ⟨0, _, .inr rfl⟩ | exact ⟨_, "", .inl rfl⟩
theorem eqv_deed (x y : Deed) : PyData.eqv (deedD x) (deedD y) = decide (x = y) := by
  rw [Bool.eq_iff_iff, decide_eq_true_eq]
  show PyData.eqvAll x.L y.L = true ↔ _
  rw [eqv_plain (plain_deed x) (plain_deed y)]
  exact ⟨fun h => deedD_inj (by show PyData.tuple x.L = .tuple y.L; rw [h]), fun h => by rw [h]⟩
section
variable {K : PySem.W.Frag} {ta : TE} {δ : En} {μ μ1 : Mp} {x : Deed} {s : Str}
theorem e_eqW (y : Deed) (hy : deedD y = .tuple [.str s]) (h : E1 ta δ μ (D K (deedD x)) μ1) : E1 (tOp (rEqD K) ta (tTup (tCons (tC (.str s)) tNil))) δ μ (D K (.bool (decide (x = y)))) μ1 := by
  refine e_eqD (K := K) (P2 := D K (.tuple [.str s])) (d := deedD x) (e := deedD y) h (e_tup (K := K) (d_cons e_cS d_nil) (by show 1 ≤ 1000; decide)) dr_D ?_ (sh_deed (n := 0) _).ok (sh_deed (n := 0) _).ok (eqv_deed _ _)
  rw [hy]
  exact dr_D
theorem e_neW (y : Deed) (hy : deedD y = .tuple [.str s]) (h : E1 ta δ μ (D K (deedD x)) μ1) : E1 (tOp (rNeD K) ta (tTup (tCons (tC (.str s)) tNil))) δ μ (D K (.bool (!decide (x = y)))) μ1 := by
  refine e_neD (K := K) (P2 := D K (.tuple [.str s])) (d := deedD x) (e := deedD y) h (e_tup (K := K) (d_cons e_cS d_nil) (by show 1 ≤ 1000; decide)) dr_D ?_ (sh_deed (n := 0) _).ok (sh_deed (n := 0) _).ok (eqv_deed _ _)
  rw [hy]
  exact dr_D
end
end SY
set_option Elab.async false
set_option linter.all false
set_option maxRecDepth 100000
namespace SY
open PySem PySem.Spec L2 SX
abbrev FsQ := List (Str × Pr)
def FsP (G : Hp) : FsQ → List (Str × V) → Prop
  | [], [] => True
  | q :: fs, p :: vs => (p.1 = q.1 ∧ q.2.p G p.2) ∧ FsP G fs vs
  | _, _ => False
theorem FsP.mono {G G' : Hp} (e : Ex G G') : ∀ {fs : FsQ} {vs : List (Str × V)}, FsP G fs vs → FsP G' fs vs
  | [], [], _ => trivial
  | q :: _, _ :: _, h => ⟨⟨h.1.1, q.2.m _ _ _ e h.1.2⟩, FsP.mono e h.2⟩
  | [], _ :: _, h => h.elim
  | _ :: _, [], h => h.elim
theorem FsP.len {G : Hp} : ∀ {fs : FsQ} {vs : List (Str × V)}, FsP G fs vs → vs.length = fs.length
  | [], [], _ => rfl
  | _ :: _, _ :: _, h => by simp [FsP.len h.2]
  | [], _ :: _, h => h.elim
  | _ :: _, [], h => h.elim
theorem lookup_hd (f g : Str) (y : V) (fs : List (Str × V)) : ((f, y) :: fs).lookup g = if g = f then some y else fs.lookup g := by
  by_cases h : g = f
  · subst h
    simp [List.lookup]
  · have e : (g == f) = false := by simpa using h
    rw [if_neg h]
    simp [List.lookup, e]
def lookP (f : Str) : FsQ → Option Pr
  | [] => none
  | (g, P) :: r => if f = g then some P else lookP f r
theorem FsP.get {G : Hp} {f : Str} {P : Pr} : ∀ {fs : FsQ} {vs : List (Str × V)}, FsP G fs vs → lookP f fs = some P → ∃ v, vs.lookup f = some v ∧ P.p G v
  | [], [], _, h => by cases h
  | (g, Q) :: fs, (g', v) :: vs, h, hl => by
    obtain ⟨⟨h1, h2⟩, h3⟩ := h
    have h1 : g' = g := h1
    subst h1
    rw [lookup_hd]
    unfold lookP at hl
    by_cases e : f = g'
    · rw [if_pos e] at hl ⊢
      cases hl
      exact ⟨v, rfl, h2⟩
    · rw [if_neg e] at hl ⊢
      exact FsP.get h3 hl
  | [], _ :: _, h, _ => h.elim
  | _ :: _, [], h, _ => h.elim
def putP (f : Str) (P : Pr) : FsQ → FsQ
  | [] => [(f, P)]
  | (g, Q) :: r => if g = f then (g, P) :: r else (g, Q) :: putP f P r
theorem FsP.put {G : Hp} {f : Str} {P : Pr} {v : V} (hv : P.p G v) : ∀ {fs : FsQ} {vs : List (Str × V)}, FsP G fs vs → FsP G (putP f P fs) (putF f v vs)
  | [], [], _ => ⟨⟨rfl, hv⟩, trivial⟩
  | (g, Q) :: fs, (g', w) :: vs, h => by
    obtain ⟨⟨h1, h2⟩, h3⟩ := h
    have h1 : g' = g := h1
    subst h1
    unfold putP putF
    by_cases e : g' = f
    · rw [if_pos e, if_pos e]
      exact ⟨⟨rfl, hv⟩, h3⟩
    · rw [if_neg e, if_neg e]
      exact ⟨⟨rfl, h2⟩, FsP.put hv h3⟩
  | [], _ :: _, h => h.elim
  | _ :: _, [], h => h.elim
/-- an object that stands still -/
def ObP (C : Addr) (fs : FsQ) : Pr := ⟨fun G v => ∃ p dx vs, v = .ref p ∧ G p = some (.ins C dx vs) ∧ FsP G fs vs, fun _ _ _ e h => by
  obtain ⟨p, dx, vs, h1, h2, h3⟩ := h
  exact ⟨p, dx, vs, h1, e _ _ h2, h3.mono e⟩⟩
section
variable {E : XK} {K : PySem.W.Frag} {C C2 p : Addr} {te ta tb tc : TE} {tA : TA} {δ : En} {μ μ' μ0 μ1 μ2 rest : Mp} {P Q P1 P2 : Pr} {Ps : List Pr} {fs gs : FsQ} {f : Str} {n : Nat} {PP : PY} {u : TS}
theorem ins_ob {μ : Mp} : InsY C (ObP C fs) μ := fun G v M h _ => by
  obtain ⟨p, dx, vs, rfl, h1, h2⟩ := h
  exact ⟨p, dx, vs, rfl, .G h1⟩
theorem e_fldP (h : E1 ta δ μ (ObP C fs) μ1) (cl : Cls K C) (hn : NoAttr K C f) (hl : lookP f fs = some P) : E1 (tFld K ta f) δ μ P μ1 := fun σ G M s mm G1 H F e m1 q z =>
  h σ G M s mm G1 H F e m1 _ fun v G2 M2 H2 e2 m2 r2 => by
    obtain ⟨p, dx, vs, rfl, h1, h2⟩ := r2.1
    obtain ⟨w, h3, h4⟩ := h2.get hl
    exact ⟨p, C, dx, vs, w, rfl, m2.ex _ _ h1, cl, hn, h3, z w G2 M2 H2 e2 m2 ⟨h4, r2.2⟩⟩
end
end SY
set_option Elab.async false
set_option linter.all false
set_option maxRecDepth 100000
namespace SY
open PySem PySem.Spec L2 SX
/-- data, or an owned list of data -/
def RD (K : PySem.W.Frag) (P : Pr) (μ : Mp) (d : PyData) : Prop := Imp P (D K d) ∨ ∃ ds, d = .list ds ∧ LR K P μ ds
section
variable {E : XK} {K : PySem.W.Frag} {C : Addr} {te ta tb tc tl : TE} {tt : TT} {tA : TA} {δ δ' : En} {μ μ' μ0 μ1 μ2 rest : Mp} {P Q P1 P2 : Pr} {d e : PyData} {ds es : List PyData} {k : Nat} {g : TG} {vs : List Nat}
theorem rd_D : RD K (D K d) μ d := .inl (Imp.refl _)
theorem rd_L (h : LR K P μ ds) : RD K P μ (.list ds) := .inr ⟨ds, rfl, h⟩
theorem RD.dr (h : RD K P μ d) : DR K P μ d := by
  rcases h with h | ⟨es, rfl, h⟩
  · intro G v M F H p mm m
    exact dr_D G v M F H (h G v p) mm m
  · exact dr_L h
end
/-- a kind -/
structure GoodKd (b r : Int) (ds : List Deed) (m : Int) : Prop where
  b2 : 2 ≤ b
  b12 : b ≤ 12
  r1 : 1 ≤ r
  r4 : r ≤ 4
  pw : b ^ r.toNat ≤ 1000
  m1 : 1 ≤ m
  m3 : m ≤ 3
  n1 : 1 ≤ ds.length
  n8 : ds.length ≤ 8
  nd : ds.Nodup
  ok : ∀ x ∈ ds, x ∈ allDeeds b r
/-- in the order of a kind -/
def inOrder (b r : Int) (ds : List Deed) : List Deed := (allDeeds b r).filter fun x => decide (x ∈ ds)
end SY
namespace SY
open PySem PySem.Spec L2 SX
end SY
namespace SY
open PySem PySem.Spec L2 SX
theorem allDeeds_len {b r : Int} (hb : 2 ≤ b ∧ b ≤ 12) (hr : 1 ≤ r ∧ r ≤ 4) : (allDeeds b r).length ≤ 70 := by
  have h1 : r.toNat * (b - 1).toNat ≤ 4 * 11 := Nat.mul_le_mul (by omega) (by omega)
  simp only [allDeeds, List.length_append, List.length_cons, List.length_nil, offsOf_len, readsOf_len, copiesOf_len]
  omega
end SY
namespace SY
open PySem PySem.Spec L2 SX
end SY
namespace SY
open PySem PySem.Spec L2 SX
end SY
set_option Elab.async false
set_option linter.all false
set_option maxRecDepth 100000
namespace SY
open PySem PySem.Spec L2 SX
theorem dpa_erase {K : PySem.W.Frag} {G : Hp} : ∀ {xs : List V} {ds : List PyData} {i : Nat}, DpAll K G xs ds → DpAll K G (xs.eraseIdx i) (ds.eraseIdx i)
  | _, [], _, h => by cases h; exact .nil
  | _, d :: ds, i, h => by
    cases h with
    | cons h1 h2 =>
      cases i with
      | zero => exact h2
      | succ i => exact .cons h1 (dpa_erase h2)
section
variable {E : XK} {K : PySem.W.Frag} {te ta : TE} {δ : En} {μ μ1 : Mp} {ds : List PyData} {ad : Addr} {i : Int}
theorem e_popAt (n : Nat) (h : E1 te δ μ (Av ad) μ) (h2 : E1 ta δ μ (D K (.int i)) μ1) (hl0 : ∃ (n' : Nat) (ds' : List PyData), μ[n']? = some (ad, OL K ds')) (hl : μ1[n]? = some (ad, OL K ds)) (hi : 0 ≤ i ∧ i < ds.length) (hz : ds.length ≤ 100000) :
    E1 (tBM K "list" rPopAt te (tCons ta tNil)) δ μ (D K (ds.getD i.toNat .none)) (μ1.set n (ad, OL K (ds.eraseIdx i.toNat))) := fun σ G M s m G1 H F e m1 q z =>
  h σ G M s m G1 H F e m1 _ fun v G2 M2 H2 e2 m2 r2 => by
    have hv : v = .ref ad := r2.1
    subst hv
    obtain ⟨n', ds', hn'⟩ := hl0
    obtain ⟨o, h5, xs, rfl, h6⟩ := r2.2.get hn'
    refine ⟨.inl ⟨rfl, xs, SqL.of (m2.getF h5)⟩, h2 σ G2 M2 (s.mono (e.trans e2)) r2.2 G2 H2 F (Ex.refl _) m2 _ fun y G3 M3 H3 e3 m3 r3 => ?_⟩
    obtain ⟨o, h7, ys, rfl, h8⟩ := r3.2.get hl
    rw [dp_int r3.1]
    have hyl := dpa_len h8
    have hk : i.toNat < ys.length := by omega
    have hd : i.toNat < ds.length := by omega
    refine ⟨ad, ys, i, i.toNat, ys[i.toNat], rfl, rfl, m3.getF h7, by omega, by omega, ?_, List.getElem?_eq_getElem hk, z _ G3 _ _ (e2.trans e3) (m3.putF h7) ⟨?_, Mm.set (q' := OL K (ds.eraseIdx i.toNat)) ⟨_, rfl, dpa_erase h8⟩ r3.2 hl⟩⟩
    · unfold PySem.seqIndex?
      simp only [if_neg (by omega : ¬ i < 0), decide_eq_true hi.1, decide_eq_true (by omega : i < (ys.length : Int)), Bool.and_self, if_true]
    · rw [List.getD_eq_getElem?_getD, List.getElem?_eq_getElem hd, Option.getD_some]
      obtain ⟨w, hw, hp⟩ := dpa_at h8 (List.getElem?_eq_getElem hd)
      rw [List.getElem?_eq_getElem hk] at hw
      cases hw
      exact hp
end
/-- some of a list in drawn order: those drawn, those left, the deck -/
def someS (xs : List Deed) (Dk : Deck) : Nat → List Deed × List Deed × Deck
  | 0 => ([], xs, Dk)
  | n + 1 =>
    let t := someS xs Dk n
    (t.1 ++ [t.2.1.getD (dv t.2.2 t.2.1.length).toNat .right], t.2.1.eraseIdx (dv t.2.2 t.2.1.length).toNat, dn t.2.2 t.2.1.length)
theorem map_erase {α β : Type} {f : α → β} : ∀ {l : List α} {k : Nat}, (l.map f).eraseIdx k = (l.eraseIdx k).map f
  | [], _ => rfl
  | _ :: _, 0 => rfl
  | x :: l, k + 1 => by
    show f x :: (l.map f).eraseIdx k = f x :: (l.eraseIdx k).map f
    rw [map_erase]
theorem erase_perm {α : Type} : ∀ {l : List α} {k : Nat} (h : k < l.length), (l[k] :: l.eraseIdx k).Perm l
  | _ :: _, 0, _ => List.Perm.refl _
  | x :: l, k + 1, h => (List.Perm.swap x _ _).trans ((erase_perm (l := l) (k := k) (by simpa using h)).cons x)
theorem someS_ok {xs : List Deed} {Dk : Deck} : ∀ n, n ≤ xs.length → (someS xs Dk n).1.length = n ∧ (someS xs Dk n).2.1.length + n = xs.length ∧ ((someS xs Dk n).1 ++ (someS xs Dk n).2.1).Perm xs
  | 0, _ => ⟨rfl, rfl, List.Perm.refl _⟩
  | n + 1, h => by
    obtain ⟨h1, h2, h3⟩ := someS_ok (xs := xs) (Dk := Dk) n (by omega)
    unfold someS
    dsimp only
    generalize (someS xs Dk n).1 = s at h1 h3 ⊢
    generalize (someS xs Dk n).2.1 = l at h2 h3 ⊢
    generalize (someS xs Dk n).2.2 = D
    have hk0 : 0 ≤ dv D l.length := dv_lo (by omega)
    have hk1 : dv D l.length < l.length := dv_hi (by omega)
    have hk : (dv D l.length).toNat < l.length := by omega
    generalize (dv D l.length).toNat = k at hk
    refine ⟨by simp [h1], by rw [List.length_eraseIdx_of_lt hk]; omega, ?_⟩
    refine List.Perm.trans ?_ h3
    rw [List.append_assoc]
    refine List.Perm.append_left s ?_
    rw [List.getD_eq_getElem?_getD, List.getElem?_eq_getElem hk, Option.getD_some]
    exact erase_perm hk
end SY
namespace SY
open PySem PySem.Spec L2 SX
end SY
namespace SY
open PySem PySem.Spec L2 SX
theorem allDeeds_lo {b r : Int} (hb : 2 ≤ b ∧ b ≤ 12) (hr : 1 ≤ r ∧ r ≤ 4) : 8 ≤ (allDeeds b r).length := by
  have h1 : 1 * 1 ≤ r.toNat * (b - 1).toNat := Nat.mul_le_mul (by omega) (by omega)
  simp only [allDeeds, List.length_append, List.length_cons, List.length_nil, offsOf_len, readsOf_len, copiesOf_len]
  omega
theorem in_offs {b : Int} {x : Deed} (h : x ∈ offsOf b) : ∃ d, x = .off d := by
  obtain ⟨d, _, rfl⟩ := List.mem_map.mp h
  exact ⟨_, rfl⟩
theorem in_reads {b r : Int} {x : Deed} (h : x ∈ readsOf b r) : ∃ j d, x = .read j d := by
  obtain ⟨j, _, h⟩ := List.mem_flatMap.mp h
  obtain ⟨d, _, rfl⟩ := List.mem_map.mp h
  exact ⟨_, _, rfl⟩
theorem in_copies {r : Int} {x : Deed} (h : x ∈ copiesOf r) : ∃ j, x = .copy j := by
  obtain ⟨d, _, rfl⟩ := List.mem_map.mp h
  exact ⟨_, rfl⟩
theorem offsOf_nodup (b : Int) : (offsOf b).Nodup := by
  unfold offsOf List.Nodup
  rw [List.pairwise_map, List.pairwise_map]
  exact List.Pairwise.imp (fun h => by intro e; injection e; omega) List.nodup_range
theorem readsOf_nodup (b r : Int) : (readsOf b r).Nodup := by
  unfold readsOf List.Nodup
  rw [List.pairwise_flatMap]
  refine ⟨fun j _ => ?_, ?_⟩
  · rw [List.pairwise_map, List.pairwise_map]
    exact List.Pairwise.imp (fun h => by intro e; injection e; omega) List.nodup_range
  · refine List.Pairwise.imp (fun h x hx y hy => ?_) List.nodup_range
    obtain ⟨_, _, rfl⟩ := List.mem_map.mp hx
    obtain ⟨_, _, rfl⟩ := List.mem_map.mp hy
    intro e
    injection e
    omega
theorem copiesOf_nodup (r : Int) : (copiesOf r).Nodup := by
  unfold copiesOf List.Nodup
  rw [List.pairwise_map]
  exact List.Pairwise.imp (fun h => by intro e; injection e; omega) List.nodup_range
theorem allDeeds_nodup (b r : Int) : (allDeeds b r).Nodup := by
  unfold allDeeds
  refine List.nodup_append.mpr ⟨by decide, List.nodup_append.mpr ⟨offsOf_nodup b, List.nodup_append.mpr ⟨readsOf_nodup b r, List.nodup_append.mpr ⟨copiesOf_nodup r, by decide, ?_⟩, ?_⟩, ?_⟩, ?_⟩
  · intro x hx y hy e
    obtain ⟨j, rfl⟩ := in_copies hx
    subst e
    simp at hy
  · intro x hx y hy e
    obtain ⟨j, d, rfl⟩ := in_reads hx
    subst e
    rcases List.mem_append.mp hy with h | h
    · obtain ⟨_, h⟩ := in_copies h
      cases h
    · simp at h
  · intro x hx y hy e
    obtain ⟨d, rfl⟩ := in_offs hx
    subst e
    rcases List.mem_append.mp hy with h | h
    · obtain ⟨_, _, h⟩ := in_reads h
      cases h
    · rcases List.mem_append.mp h with h | h
      · obtain ⟨_, h⟩ := in_copies h
        cases h
      · simp at h
  · intro x hx y hy e
    subst e
    rcases List.mem_append.mp hy with h | h
    · obtain ⟨_, rfl⟩ := in_offs h
      simp at hx
    · rcases List.mem_append.mp h with h | h
      · obtain ⟨_, _, rfl⟩ := in_reads h
        simp at hx
      · rcases List.mem_append.mp h with h | h
        · obtain ⟨_, rfl⟩ := in_copies h
          simp at hx
        · simp only [List.mem_cons, List.not_mem_nil, or_false] at hx h
          rcases hx with rfl | rfl <;> rcases h with h | h | h <;> cases h
end SY
namespace SY
open PySem PySem.Spec L2 SX
/-- a kind's deeds, out of a pool of at most eight, one of them in any case -/
structure InPool (b r : Int) (pool : List Deed) (x0 : Deed) (ds : List Deed) : Prop where
  sub : ∀ x ∈ ds, x ∈ pool
  has : x0 ∈ ds
  ord : inOrder b r ds = ds
structure GoodPool (b r : Int) (pool : List Deed) : Prop where
  b2 : 2 ≤ b
  b12 : b ≤ 12
  r1 : 1 ≤ r
  r4 : r ≤ 4
  pw : b ^ r.toNat ≤ 1000
  n8 : pool.length ≤ 8
  nd : pool.Nodup
  ok : ∀ x ∈ pool, x ∈ allDeeds b r
theorem sub_len {xs pool : List Deed} (hx : xs.Nodup) (hp : pool.Nodup) (h : ∀ x ∈ xs, x ∈ pool) : xs.length ≤ pool.length := by
  have : xs.Perm (pool.filter fun x => decide (x ∈ xs)) := (List.perm_ext_iff_of_nodup hx (hp.filter _)).mpr fun x => by
    rw [List.mem_filter, decide_eq_true_eq]
    exact ⟨fun z => ⟨h x z, z⟩, fun z => z.2⟩
  rw [this.length_eq]
  exact List.length_filter_le _ _
theorem GoodPool.kd {b r m : Int} {pool ds : List Deed} (g : GoodPool b r pool) (hm : 1 ≤ m ∧ m ≤ 3) (h1 : 1 ≤ ds.length) (hn : ds.Nodup) (hs : ∀ x ∈ ds, x ∈ pool) : GoodKd b r ds m :=
  ⟨g.b2, g.b12, g.r1, g.r4, g.pw, hm.1, hm.2, h1, Nat.le_trans (sub_len hn g.nd hs) g.n8, hn, fun x hx => g.ok x (hs x hx)⟩
theorem InPool.nd {b r : Int} {pool ds : List Deed} {x0 : Deed} (h : InPool b r pool x0 ds) : ds.Nodup := by
  rw [← h.ord]
  exact (allDeeds_nodup b r).filter _
theorem InPool.pos {b r : Int} {pool ds : List Deed} {x0 : Deed} (h : InPool b r pool x0 ds) : 1 ≤ ds.length := List.length_pos_of_mem h.has
theorem InPool.kd {b r m : Int} {pool ds : List Deed} {x0 : Deed} (h : InPool b r pool x0 ds) (g : GoodPool b r pool) (hm : 1 ≤ m ∧ m ≤ 3) : GoodKd b r ds m := g.kd hm h.pos h.nd h.sub
end SY
namespace SY
open PySem PySem.Spec L2 SX
def rMin2 : List V → Hp → VK → Prop := fun xs H Q => ∃ i j, xs = [.int i, .int j] ∧ Q (.int (if j < i then j else i)) H
theorem k_min2 {X : Cx} (hc : X.calm = true) : CallR X (.builtin "min") rMin2 := call_min2 hc
section
variable {K : PySem.W.Frag} {ta tb : TE} {δ : En} {μ μ1 μ2 : Mp} {i j : Int}
theorem e_min2 (h1 : E1 ta δ μ (D K (.int i)) μ1) (h2 : E1 tb δ μ1 (D K (.int j)) μ2) : E1 (tCB rMin2 (tCons ta (tCons tb tNil))) δ μ (D K (.int (if j < i then j else i))) μ2 :=
  e_CB (a_cons h1 (a_cons h2 a_nil)) fun G H F M vs m mm p Q q => by
    match vs, p with
    | [v, w], ⟨p1, p2, _⟩ =>
      rw [dp_int p1, dp_int p2]
      exact ⟨i, j, rfl, q _ G M H (Ex.refl _) m (.int _) mm⟩
end
end SY
namespace SY
open PySem PySem.Spec L2 SX
structure PK (b r : Int) (pool : List Deed) (x0 : Deed) (ds : List Deed) (m : Int) : Prop where
  g : GoodPool b r pool
  i : InPool b r pool x0 ds
  m1 : 1 ≤ m
  m3 : m ≤ 3
section
variable {b r m m2 : Int} {pool ds es : List Deed} {x0 : Deed}
theorem PK.kd (h : PK b r pool x0 ds m) : GoodKd b r ds m := h.i.kd h.g ⟨h.m1, h.m3⟩
theorem PK.len (h : PK b r pool x0 ds m) : ds.length ≤ 1000 := Nat.le_trans h.kd.n8 (by decide)
theorem PK.sub (h : PK b r pool x0 ds m) {x : Deed} (hx : x ∈ ds) : x ∈ allDeeds b r := h.g.ok x (h.i.sub x hx)
end
end SY
namespace SY
open PySem PySem.Spec L2 SX
end SY
namespace SY
open PySem PySem.Spec L2 SX
end SY
namespace SY
open PySem PySem.Spec L2 SX
end SY
set_option Elab.async false
set_option linter.all false
set_option maxRecDepth 100000
namespace SY
open PySem PySem.Spec L2 SX
end SY
namespace SY
open PySem PySem.Spec L2 SX
end SY
namespace SY
open PySem PySem.Spec L2 SX
end SY
set_option Elab.async false
set_option linter.all false
set_option maxRecDepth 100000
namespace SY
open PySem PySem.Spec L2 SX
abbrev EXY := Value → Option Addr → Mp → Prop
def EXY.po (X : EXY) : Value → Option Addr → Hp → Mem → Prop := fun c d G M => ∃ μ, X c d μ ∧ Mm G M μ
/-- an expression that raises, surely -/
def ER (E : XK) (te : TE) (δ : En) (μ : Mp) (X : EXY) : Prop := ∀ σ G M, Sl G σ δ → Mm G M μ → EvR E te σ G M X.po
section
variable {E : XK} {K : PySem.W.Frag} {te ta tb : TE} {tA tr : TA} {δ δ' : En} {μ μ1 μ2 rest : Mp} {Q : Pr} {u : TS} {P : PY} {g : TG} {X : EXY} {c : Value}
theorem ER.imp {X' : EXY} (h : ER E te δ μ X) (i : ∀ c d μ, X c d μ → X' c d μ) : ER E te δ μ X' := fun σ G M s mm G1 H F e m1 x Q => h σ G M s mm G1 H F e m1 (fun c d G2 M2 H2 e2 m2 ⟨μ2, h2, h3⟩ => x c d G2 M2 H2 e2 m2 ⟨μ2, i c d μ2 h2, h3⟩) Q
end
end SY
namespace SY
open PySem PySem.Spec L2 SX
end SY
set_option Elab.async false
set_option linter.all false
set_option maxRecDepth 100000
namespace SY
open PySem PySem.Spec L2 SX
/-- raises, surely; the wish is told at the slots -/
def ES (EE : L2.St → XK) (te : TE) (δ : En) (μ : Mp) (X : EXY) : Prop := ∀ σ G M, Sl G σ δ → Mm G M μ → EvR (EE σ) te σ G M X.po
section
variable {EE : L2.St → XK} {E : XK} {K : PySem.W.Frag} {te ta tb : TE} {tA tr : TA} {δ δ' : En} {μ μ1 μ2 rest : Mp} {Q P1 P2 : Pr} {u : TS} {P : PY} {g : TG} {X X' : EXY} {R : Pr → Mp → Prop} {k : Nat}
theorem ES.imp (h : ES EE te δ μ X) (i : ∀ c d μ, X c d μ → X' c d μ) : ES EE te δ μ X' := fun σ G M s mm G1 H F e m1 x Q => h σ G M s mm G1 H F e m1 (fun c d G2 M2 H2 e2 m2 ⟨μ2, h2, h3⟩ => x c d G2 M2 H2 e2 m2 ⟨μ2, i c d μ2 h2, h3⟩) Q
end
end SY
namespace SY
open PySem PySem.Spec L2 SX
end SY
namespace SY
open PySem PySem.Spec L2 SX
end SY
namespace SY
open PySem PySem.Spec L2 SX
end SY
namespace SY
open PySem PySem.Spec L2 SX
theorem E1.cast {te : TE} {δ : En} {μ μ' : Mp} {P P1 : Pr} (h : E1 te δ μ P μ') (e : P = P1) : E1 te δ μ P1 μ' := e ▸ h
end SY
namespace SY
open PySem PySem.Spec L2 SX
/-- what some are drawn of -/
structure PoolOk (b r : Int) (pool : List Deed) : Prop where
  nd : pool.Nodup
  ok : ∀ x ∈ pool, x ∈ allDeeds b r
  n1 : 1 ≤ pool.length
  n70 : pool.length ≤ 70
theorem PoolOk.all {b r : Int} (hb : 2 ≤ b ∧ b ≤ 12) (hr : 1 ≤ r ∧ r ≤ 4) : PoolOk b r (allDeeds b r) := ⟨allDeeds_nodup b r, fun _ h => h, by have := allDeeds_lo hb hr; omega, allDeeds_len hb hr⟩
theorem PoolOk.some {b r : Int} {pool : List Deed} (g : PoolOk b r pool) {Dk : Deck} {n : Nat} (h1 : 1 ≤ n) (h : n ≤ pool.length) : PoolOk b r (someS pool Dk n).1 := by
  obtain ⟨h2, h3, h4⟩ := someS_ok (xs := pool) (Dk := Dk) n h
  have := g.n70
  exact ⟨(List.nodup_append.mp (h4.nodup_iff.mpr g.nd)).1, fun x hx => g.ok x (h4.mem_iff.mp (List.mem_append_left _ hx)), by omega, by omega⟩
theorem PoolOk.kd {b r m : Int} {pool : List Deed} (g : PoolOk b r pool) (hb : 2 ≤ b ∧ b ≤ 12) (hr : 1 ≤ r ∧ r ≤ 4) (hp : b ^ r.toNat ≤ 1000) (hm : 1 ≤ m ∧ m ≤ 3) (h8 : pool.length ≤ 8) : GoodKd b r pool m := ⟨hb.1, hb.2, hr.1, hr.2, hp, hm.1, hm.2, g.n1, h8, g.nd, g.ok⟩
end SY
set_option Elab.async false
set_option linter.all false
set_option maxRecDepth 100000
namespace SY
open PySem PySem.Spec L2 SX
section
variable {E : XK} {K : PySem.W.Frag} {te ta tb : TE} {tc tt : TT} {tA tr : TA} {δ δ' : En} {μ μ' μ1 μ2 rest : Mp} {Q P1 : Pr} {u t : TS} {P : PY} {Ps : List Pr} {ad : Addr} {i : Int}
/-- what is owned, told otherwise -/
def Mi (μ μ' : Mp) : Prop := ∀ G M, Mm G M μ → Mm G M μ'
theorem Mi.refl : Mi μ μ := fun _ _ h => h
theorem Mi.cons {a : Addr} {o o' : Ob} (h : ∀ G x, o.p G x → o'.p G x) (i : Mi μ μ') : Mi ((a, o) :: μ) ((a, o') :: μ') := fun G M m => by
  match M, m with
  | _ :: M, ⟨⟨h1, h2⟩, h3⟩ => exact ⟨⟨h1, h _ _ h2⟩, i G M h3⟩
theorem E1.mem (h : E1 te δ μ Q μ1) (i : Mi μ1 μ2) : E1 te δ μ Q μ2 := fun σ G M s m => (h σ G M s m).imp fun G1 v M1 _ r => ⟨r.1, i _ _ r.2⟩
def OLP (Ps : List Pr) : Ob := ⟨fun G o => ∃ vs, o = .lst vs ∧ AP G Ps vs, fun _ _ _ e h => by obtain ⟨vs, h1, h2⟩ := h; exact ⟨vs, h1, AP.mono h2 e⟩⟩
theorem s_frzP {μa μb : Mp} (k : Nat) (hk : δ[k]? = some (some (Av ad))) (h : S1 E t (δ.set k (some (Lp Ps))) (μa ++ μb) P) : S1 E t δ (μa ++ (ad, OLP Ps) :: μb) P := fun σ G M s m => by
  obtain ⟨Ma, Mb', rfl, ma, mb⟩ := Mm.cut m
  obtain ⟨⟨p, o⟩, Mb, rfl⟩ : ∃ x y, Mb' = x :: y := by
    match Mb', mb with
    | x :: y, _ => exact ⟨x, y, rfl⟩
  obtain ⟨⟨h1, xs, rfl, h2⟩, mb⟩ := mb
  have h1 : p = ad := h1
  subst h1
  intro G1 H F D e m1 hd
  rw [List.append_assoc] at m1
  obtain ⟨m3, e3⟩ := m1.freezeMid
  have e13 := e.trans e3
  refine h σ _ (Ma ++ Mb) ⟨by simp [s.1], fun j q hj => ?_⟩ (Mm.app (ma.mono e13) (mb.mono e13)) _ H F D (Ex.refl _) (by rw [List.append_assoc]; exact m3) (hd.up e3)
  rw [List.getElem?_set] at hj
  split at hj
  · rename_i hkj
    subst hkj
    split at hj
    · cases hj
      obtain ⟨v, hv, hp⟩ := s.get hk
      have hp : v = .ref p := hp
      subst hp
      exact ⟨_, hv, p, xs, rfl, upd_same, AP.mono h2 e13⟩
    · cases hj
  · obtain ⟨v, hv, hp⟩ := s.get hj
    exact ⟨v, hv, q.m _ _ _ e13 hp⟩
end
end SY
namespace SY
open PySem PySem.Spec L2 SX
end SY
namespace SY
open PySem PySem.Spec L2 SX
end SY
namespace SY
open PySem PySem.Spec L2 SX
end SY
namespace SY
open PySem PySem.Spec L2 SX
theorem T1.le {tt : TT} {δ δ' : En} {μ μ' : Mp} {b : Bool} (h : T1 tt δ' μ b μ') (l : Le δ δ') : T1 tt δ μ b μ' := fun σ G M s m => h σ G M (s.le l) m
end SY
namespace SY
open PySem PySem.Spec L2 SX
end SY
namespace SY
open PySem PySem.Spec L2 SX
end SY
namespace SY
open PySem PySem.Spec L2 SX
theorem Mm.perm {G : Hp} {μ' μ : Mp} (h : μ'.Perm μ) : ∀ {M : Mem}, Mm G M μ → ∃ M' : Mem, M'.Perm M ∧ Mm G M' μ' := by
  induction h with
  | nil => exact fun h => ⟨_, List.Perm.refl _, h⟩
  | cons x _ ih =>
    intro M h
    match M, h with
    | m :: M, ⟨h1, h2⟩ =>
      obtain ⟨M', h3, h4⟩ := ih h2
      exact ⟨m :: M', h3.cons m, h1, h4⟩
  | swap x y l =>
    intro M h
    match M, h with
    | a :: b :: M, ⟨h1, h2, h3⟩ => exact ⟨b :: a :: M, List.Perm.swap _ _ _, h2, h1, h3⟩
  | trans _ _ ih1 ih2 =>
    intro M h
    obtain ⟨M1, h1, h2⟩ := ih2 h
    obtain ⟨M2, h3, h4⟩ := ih1 h2
    exact ⟨M2, h3.trans h1, h4⟩
theorem s_perm {E : XK} {t : TS} {δ : En} {μ μ' : Mp} {P : PY} (hp : μ'.Perm μ) (h : S1 E t δ μ' P) : S1 E t δ μ P := fun σ G M s mm G1 H F D e m1 hd => by
  obtain ⟨M', h1, h2⟩ := Mm.perm hp mm
  exact h σ G M' s h2 G1 H F D e (m1.perm (h1.append_right F)) hd
end SY
set_option Elab.async false
set_option linter.all false
set_option maxRecDepth 100000
namespace SY
open PySem PySem.Spec L2 SX
section
variable {E : XK} {K : PySem.W.Frag} {te ta : TE} {δ : En} {μ μ1 μ2 : Mp} {cp : List Int} {j : Int}
theorem e_index (h : E1 te δ μ (D K (.list (cp.map .int))) μ1) (h2 : E1 ta δ μ1 (D K (.int j)) μ2) (hj : j ∈ cp) : E1 (tBM K "list" (rIndex K) te (tCons ta tNil)) δ μ (D K (.int ((cp.idxOf j : Nat) : Int))) μ2 := fun σ G M s m G1 H F e m1 q z =>
  h σ G M s m G1 H F e m1 _ fun v G2 M2 H2 e2 m2 r2 => by
    obtain ⟨a, xs, rfl, hs, hd⟩ := dp_lst r2.1
    refine ⟨.inl ⟨rfl, xs, ex_l m2.ex hs⟩, h2 σ G2 M2 (s.mono (e.trans e2)) r2.2 G2 H2 F (Ex.refl _) m2 _ fun y G3 M3 H3 e3 m3 r3 => ?_⟩
    rw [dp_int r3.1]
    have hx := dpAll_ints hd
    subst hx
    have hlt : cp.idxOf j < cp.length := List.idxOf_lt_length_iff.mpr hj
    refine ⟨a, cp.map V.int, .int j, cp.idxOf j, .int j, rfl, rfl, ex_l m3.ex (ex_l e3 hs), rfl, ?_, ?_, ?_, fun k z' hk hz => ?_, z _ G3 M3 H3 (e2.trans e3) m3 ⟨.int _, r3.2⟩⟩
    · rw [List.all_eq_true]
      intro x hx
      obtain ⟨i, _, rfl⟩ := List.mem_map.mp hx
      rfl
    · rw [List.getElem?_map, List.getElem?_eq_getElem hlt, List.getElem_idxOf]
      rfl
    · simp [eqV]
    · rw [List.getElem?_map, Option.map_eq_some_iff] at hz
      obtain ⟨i, hi, rfl⟩ := hz
      have hne : i ≠ j := by
        rintro rfl
        have h1 := List.getElem?_eq_some_iff.mp hi
        obtain ⟨hl, h1⟩ := h1
        have := List.not_of_lt_findIdx (p := fun x => x == i) (xs := cp) (i := k) hk
        simp [h1] at this
      simp [eqV, hne]
end
structure Stand where
  left : Int
  wait : Option Int
  before : Option (List Int)
  carry : Int
  gap : Int
  near : Option Int
  rests : List (Int × Int × Int)
def oiD : Option Int → PyData
  | none => .none
  | some i => .int i
/-- well made, for so wide gaps -/
structure WfS (b : Int) (cp lot : List Int) (N : Int) (s : Stand) : Prop where
  gap : -N ≤ s.gap ∧ s.gap ≤ N
  len : s.rests.length = lot.length
  carry : 0 ≤ s.carry ∧ s.carry ≤ 100
  wait : ∀ w, s.wait = some w → 0 ≤ w ∧ w < b
  bef : ∀ l, s.before = some l → l.length = cp.length ∧ ∀ x ∈ l, 0 ≤ x ∧ x < b
end SY
namespace SY
open PySem PySem.Spec L2 SX
end SY
namespace SY
open PySem PySem.Spec L2 SX
end SY
namespace SY
open PySem PySem.Spec L2 SX
theorem horner_bd {b : Int} (hb : 2 ≤ b ∧ b ≤ 12) {l : Int} (hl : 0 ≤ l ∧ l ≤ 100) : ∀ figs : List Int, (∀ x ∈ figs, 0 ≤ x ∧ x < b) → 0 ≤ horner b figs l ∧ horner b figs l + 1 ≤ 12 ^ figs.length * 101
  | [], _ => by
    show 0 ≤ l ∧ l + 1 ≤ 12 ^ 0 * 101
    omega
  | x :: xs, h => by
    obtain ⟨h1, h2⟩ := horner_bd hb hl xs fun y hy => h y (List.mem_cons_of_mem _ hy)
    have h3 := h x List.mem_cons_self
    show 0 ≤ horner b xs l * b + x ∧ horner b xs l * b + x + 1 ≤ 12 ^ (xs.length + 1) * 101
    have h4 : horner b xs l * b ≤ horner b xs l * 12 := Int.mul_le_mul_of_nonneg_left hb.2 h1
    have h5 : 0 ≤ horner b xs l * b := Int.mul_nonneg h1 (by omega)
    rw [Int.pow_succ]
    omega
end SY
namespace SY
open PySem PySem.Spec L2 SX
structure ColOk (b r : Int) (c : List Int) : Prop where
  len : (c.length : Int) = r
  fig : ∀ x ∈ c, 0 ≤ x ∧ x < b
theorem WfS.mono {b : Int} {cp lot : List Int} {N N' : Int} {s : Stand} (h : WfS b cp lot N s) (hn : N ≤ N') : WfS b cp lot N' s := ⟨⟨by have := h.gap; omega, by have := h.gap; omega⟩, h.len, h.carry, h.wait, h.bef⟩
end SY
namespace SY
open PySem PySem.Spec L2 SX
end SY
set_option Elab.async false
set_option linter.all false
set_option maxRecDepth 100000
namespace SY
open PySem PySem.Spec L2 SX
end SY
set_option Elab.async false
set_option linter.all false
set_option maxRecDepth 100000
namespace SY
open PySem PySem.Spec L2 SX
theorem k_pil {X : Cx} {K : PySem.W.Frag} {tg e : Expr} {te : TE} (hK : X.K = K) (h : PE X e te) : PI X tg e (iList K te) := by
  subst hK
  exact pi_list h
theorem k_inSq {X : Cx} {K : PySem.W.Frag} (hK : X.K = K) : OpR X (compareOp .In) (rIn K false) := hK ▸ op_in_seq
theorem dpa_strs {K : PySem.W.Frag} {G : Hp} : ∀ {ss : List Str} {xs : List V}, DpAll K G xs (ss.map PyData.str) → xs = ss.map V.str
  | [], _, h => by cases h; rfl
  | s :: ss, _, h => by
    cases h with
    | cons a b => rw [dp_str a, dpa_strs b]; rfl
theorem in_strs (s : Str) : ∀ ss : List Str, inV (.str s) (ss.map V.str) = decide (s ∈ ss)
  | [] => rfl
  | t :: ss => by
    have ih := in_strs s ss
    unfold inV at ih ⊢
    rw [List.map_cons, List.any_cons, ih]
    show (t == s || _) = _
    by_cases h : s = t
    · subst h
      simp
    · have : (t == s) = false := by simpa using fun z => h z.symm
      rw [this]
      simp [h]
theorem flat_strs : ∀ ss : List Str, (ss.map V.str).all flatV = true
  | [] => rfl
  | t :: ss => by rw [List.map_cons, List.all_cons, flat_strs ss]; rfl
theorem e_inStrs {K : PySem.W.Frag} {ta tb : TE} {δ : En} {μ μ1 μ2 : Mp} {s : Str} {ss : List Str} (h1 : E1 ta δ μ (D K (.str s)) μ1) (h2 : E1 tb δ μ1 (D K (.tuple (ss.map .str))) μ2) : E1 (tOp (rIn K false) ta tb) δ μ (D K (.bool (decide (s ∈ ss)))) μ2 :=
  e_op h1 h2 fun G H F M x y m mm p1 p2 Q q => by
    have p1 : Dp K G x (.str s) := p1
    have p2 : Dp K G y (.tuple (ss.map .str)) := p2
    obtain rfl := dp_str p1
    obtain ⟨a, xs, rfl, h3, h4⟩ := dp_tup p2
    rw [dpa_strs h4] at h3
    exact ⟨a, _, rfl, .inr (ex_t m.ex h3), rfl, flat_strs ss, q _ G M H (Ex.refl _) m (show Dp K G (.bl (if false = true then !inV (.str s) (ss.map V.str) else inV (.str s) (ss.map V.str))) _ from by rw [if_neg Bool.false_ne_true, in_strs]; exact .bl _) mm⟩
end SY
set_option Elab.async false
set_option linter.all false
set_option maxRecDepth 100000
namespace SY
open PySem PySem.Spec L2 SX
/-- the law's own figures that are taken -/
def lawTaken (b : Int) (cs : List (List Int)) (i : Nat) : Deed → List Int
  | .read j d => (cs.getD i []).set j.toNat (((cs.getD i []).getD j.toNat 0 + d) % b)
  | .copy j => (cs.getD i []).set j.toNat ((cs.getD (i - 1) []).getD j.toNat 0)
  | _ => cs.getD i []
theorem sum_set : ∀ (l : List Int) (j : Nat) (v : Int), j < l.length → (l.set j v).sum = l.sum - l.getD j 0 + v
  | [], j, v, h => by simp at h
  | x :: l, 0, v, _ => by simp; omega
  | x :: l, j + 1, v, h => by
    have ih := sum_set l j v (by simpa using h)
    simp only [List.set_cons_succ, List.sum_cons, ih, List.getD_cons_succ]
    omega
theorem lawTaken_sum {b : Int} {cs : List (List Int)} {i : Nat} {x : Deed} (h : RowOk (cs.getD i []).length (some x)) : (lawTaken b cs i x).sum = sumTaken b (cs.getD i []) (copiedV cs i x) (some x) := by
  cases x <;> first | rfl | (obtain ⟨h1, h2⟩ := h; exact sum_set _ _ _ (by omega))
/-- the law's own doing of column i -/
def lawStep (b : Int) (cs : List (List Int)) (i : Nat) (x : Deed) (c : Int) : Option (List Int × Int) :=
  if isCopy x = true ∧ i = 0 ∨ x = .swap ∧ i + 1 = cs.length then none
  else doSum b (sumTaken b (cs.getD i []) (copiedV cs i x) (some x)) c (some x)
/-- a deed of the sheet, or none -/
def DeedOk (b r : Int) (x : Deed) : Prop := x = .right ∨ x ∈ allDeeds b r
theorem rowOk_ok {b r : Int} {x : Deed} {n : Nat} (h : DeedOk b r x) (hn : r ≤ n) : RowOk n (some x) := by
  rcases h with rfl | h
  · trivial
  · exact rowOk_all h hn
theorem _root_.SX.GoodSh.row {b r : Int} {cs : List (List Int)} (g : GoodSh b r cs) {n : Nat} (hn : n < cs.length) : GoodCol b r (cs.getD n []) := by
  have : cs.getD n [] = cs[n] := by simp [List.getD, List.getElem?_eq_getElem hn]
  rw [this]
  exact g.col _ (List.getElem_mem hn)
theorem sum_nn : ∀ {l : List Int}, (∀ x ∈ l, 0 ≤ x) → 0 ≤ l.sum
  | [], _ => by simp
  | x :: l, h => by
    have := sum_nn (l := l) fun y hy => h y (List.mem_cons_of_mem _ hy)
    have := h x List.mem_cons_self
    simp
    omega
theorem lawTaken_nn {b r : Int} {cs : List (List Int)} (g : GoodSh b r cs) {i : Nat} {x : Deed} (hi : i < cs.length) (hc : isCopy x = true → 0 < i) (hx : DeedOk b r x) : 0 ≤ (lawTaken b cs i x).sum := by
  refine sum_nn fun y hy => ?_
  have h1 := g.row hi
  cases x with
  | read j d =>
    rcases List.mem_or_eq_of_mem_set hy with h | rfl
    · exact (h1.2 _ h).1
    · exact Int.emod_nonneg _ (by have := g.b2; omega)
  | copy j =>
    rcases List.mem_or_eq_of_mem_set hy with h | rfl
    · exact (h1.2 _ h).1
    · have h2 := g.row (n := i - 1) (by omega)
      have hj : j.toNat < (cs.getD (i - 1) []).length := by
        have hr := rowOk_ok (n := (cs.getD (i - 1) []).length) hx (by rw [h2.1]; exact Int.le_refl _)
        have hr : 0 ≤ j ∧ j < ((cs.getD (i - 1) []).length : Int) := hr
        omega
      generalize cs.getD (i - 1) [] = q at h2 hj ⊢
      have : q.getD j.toNat 0 ∈ q := by
        simp [List.getD, List.getElem?_eq_getElem hj]
      exact (h2.2 _ this).1
  | _ => exact (h1.2 _ hy).1
end SY
namespace SY
open PySem PySem.Spec L2 SX
def deedAt (w d j : Int) : Deed := if w = 0 then .off d else if w = 1 then .read j d else if w = 2 then .copy j else [Deed.forget, .again, .swap, .out, .twice].getD (w - 3).toNat .forget
def deedV (D : Deck) (b r : Int) : Deed := deedAt (dv D 8) (1 + dv (dn D 8) (b - 1)) (dv (dn (dn D 8) (b - 1)) r)
def deedDk (D : Deck) (b r : Int) : Deck := dn (dn (dn D 8) (b - 1)) r
theorem deedAt_mem {w d j b r : Int} (hw : 0 ≤ w ∧ w < 8) (hd : 1 ≤ d ∧ d < b) (hj : 0 ≤ j ∧ j < r) : deedAt w d j ∈ allDeeds b r := by
  have : w = 0 ∨ w = 1 ∨ w = 2 ∨ w = 3 ∨ w = 4 ∨ w = 5 ∨ w = 6 ∨ w = 7 := by omega
  rw [mem_all]
  rcases this with rfl | rfl | rfl | rfl | rfl | rfl | rfl | rfl
  · exact .inr (.inr (.inl ⟨d, rfl, hd⟩))
  · exact .inr (.inr (.inr (.inl ⟨j, d, rfl, hj.1, hj.2, hd.1, hd.2⟩)))
  · exact .inr (.inr (.inr (.inr (.inl ⟨j, rfl, hj⟩))))
  · exact .inl rfl
  · exact .inr (.inl rfl)
  · exact .inr (.inr (.inr (.inr (.inr (.inl rfl)))))
  · exact .inr (.inr (.inr (.inr (.inr (.inr (.inl rfl))))))
  · exact .inr (.inr (.inr (.inr (.inr (.inr (.inr rfl))))))
theorem deedV_mem {D : Deck} {b r : Int} (hb : 2 ≤ b) (hr : 1 ≤ r) : deedV D b r ∈ allDeeds b r :=
  deedAt_mem ⟨dv_lo (by decide), dv_hi (by decide)⟩ (by
    have h1 : 0 ≤ dv (dn D 8) (b - 1) := dv_lo (by omega)
    have h2 : dv (dn D 8) (b - 1) < b - 1 := dv_hi (by omega)
    omega) ⟨dv_lo (by omega), dv_hi (by omega)⟩
end SY
namespace SY
open PySem PySem.Spec L2 SX
theorem Le.trans {a b c : En} (h1 : Le a b) (h2 : Le b c) : Le a c := ⟨h1.1.trans h2.1, fun k P h => by
  obtain ⟨P1, h3, h4⟩ := h2.2 k P h
  obtain ⟨P0, h5, h6⟩ := h1.2 k P1 h3
  exact ⟨P0, h5, fun G v z => h4 G v (h6 G v z)⟩⟩
def planQ (n : Int) (D : Deck) (i : Nat) (ds : List Deed) : Bool := decide (dv D n = 0) && (decide ((i : Int) = 0) || !decide ((ds.getD ((i : Int) - 1).toNat .right).word = "swap"))
def planX (b r n : Int) (D : Deck) (i : Nat) (ds : List Deed) : Deed := if planQ n D i ds = true then deedV (dn D n) b r else .right
def planD (b r n : Int) (D : Deck) (i : Nat) (ds : List Deed) : Deck := if planQ n D i ds = true then deedDk (dn D n) b r else dn D n
def planY (b : Int) (cs : List (List Int)) (i : Nat) (x : Deed) (c : Int) : Deed := if lawStep b cs i x c = none then .right else x
def planS (b r n : Int) (cs : List (List Int)) (D : Deck) : Nat → List Deed × Int × Deck
  | 0 => ([], 0, D)
  | i + 1 =>
    let s := planS b r n cs D i
    let y := planY b cs i (planX b r n s.2.2 i s.1) s.2.1
    (s.1 ++ [y], ((lawStep b cs i y s.2.1).getD ([], 0)).2, planD b r n s.2.2 i s.1)
theorem planX_ok {b r n : Int} {D : Deck} {i : Nat} {ds : List Deed} (hb : 2 ≤ b) (hr : 1 ≤ r) : DeedOk b r (planX b r n D i ds) := by
  unfold planX
  split
  · exact .inr (deedV_mem hb hr)
  · exact .inl rfl
theorem planY_ok {b r c : Int} {cs : List (List Int)} {i : Nat} {x : Deed} (h : DeedOk b r x) : DeedOk b r (planY b cs i x c) := by
  unfold planY
  split
  · exact .inl rfl
  · exact h
theorem step_right {b c : Int} {cs : List (List Int)} {i : Nat} : lawStep b cs i .right c = some ([((cs.getD i []).sum + c) % b], ((cs.getD i []).sum + c) / b) := rfl
theorem planY_some {b c : Int} {cs : List (List Int)} {i : Nat} {x : Deed} : ∃ w, lawStep b cs i (planY b cs i x c) c = some w := by
  unfold planY
  split
  · exact ⟨_, step_right⟩
  · rename_i h
    cases h2 : lawStep b cs i x c with
    | none => exact absurd h2 h
    | some w => exact ⟨w, rfl⟩
theorem step_nn {b r c : Int} {cs : List (List Int)} {i : Nat} {x : Deed} {w : List Int × Int} (g : GoodSh b r cs) (hi : i < cs.length) (hx : DeedOk b r x) (hc : 0 ≤ c) (h : lawStep b cs i x c = some w) : 0 ≤ w.2 := by
  have hg := g.row hi
  have hr := rowOk_ok (n := (cs.getD i []).length) hx (by rw [hg.1]; exact Int.le_refl _)
  have hb := g.b2
  unfold lawStep at h
  split at h
  · cases h
  · rename_i hno
    rw [← lawTaken_sum hr] at h
    have hcp : isCopy x = true → 0 < i := fun h1 => by
      by_cases h0 : i = 0
      · exact absurd (.inl ⟨h1, h0⟩) hno
      · omega
    have hnn := lawTaken_nn g hi hcp hx
    generalize (lawTaken b cs i x).sum = t at h hnn
    have h1 : 0 ≤ (t + c) / b := Int.ediv_nonneg (by omega) (by omega)
    have h2 : 0 ≤ (t + (t + c) / b) / b := Int.ediv_nonneg (by omega) (by omega)
    cases x <;> simp only [doSum] at h <;> first | (cases h; exact h1) | (cases h; exact h2) | (cases h; exact hc) | (cases h; show 0 ≤ _ + 1; omega) | (split at h <;> cases h; exact Int.le_refl _)
theorem planS_ok {b r n : Int} {cs : List (List Int)} {D : Deck} (g : GoodSh b r cs) : ∀ i, i ≤ cs.length → (planS b r n cs D i).1.length = i ∧ 0 ≤ (planS b r n cs D i).2.1 ∧ ∀ x ∈ (planS b r n cs D i).1, DeedOk b r x
  | 0, _ => ⟨rfl, Int.le_refl _, fun _ h => by cases h⟩
  | i + 1, hi => by
    obtain ⟨h1, h2, h3⟩ := planS_ok (n := n) (D := D) g i (by omega)
    have hx := planX_ok (n := n) (D := (planS b r n cs D i).2.2) (i := i) (ds := (planS b r n cs D i).1) g.b2 g.r1
    have hy := planY_ok (c := (planS b r n cs D i).2.1) (cs := cs) (i := i) hx
    refine ⟨by simp [planS, h1], ?_, ?_⟩
    · obtain ⟨w, hw⟩ := planY_some (b := b) (c := (planS b r n cs D i).2.1) (cs := cs) (i := i) (x := planX b r n (planS b r n cs D i).2.2 i (planS b r n cs D i).1)
      simp only [planS, hw, Option.getD_some]
      exact step_nn g (by omega) hy h2 hw
    · intro x hx
      simp only [planS, List.mem_append, List.mem_singleton] at hx
      rcases hx with hx | rfl
      · exact h3 x hx
      · exact hy
end SY
set_option Elab.async false
set_option linter.all false
set_option maxRecDepth 100000
namespace SY
open PySem PySem.Spec L2 SX
def dAt (ds : List Deed) (i : Nat) : Deed := ds.getD i .right
def slipsFrom (ds : List Deed) (k : Nat) : Nat → List (Int × Deed)
  | 0 => []
  | n + 1 => if dAt ds k = .right then slipsFrom ds (k + 1) n else ((k : Int), dAt ds k) :: slipsFrom ds (k + 1) n
def slipsOf (ds : List Deed) : List (Int × Deed) := ((List.range ds.length).filter fun i => !decide (dAt ds i = .right)).map fun (i : Nat) => ((i : Int), dAt ds i)
theorem slipsFrom_eq (ds : List Deed) : ∀ (n k : Nat), slipsFrom ds k n = ((List.range' k n).filter fun i => !decide (dAt ds i = .right)).map fun (i : Nat) => ((i : Int), dAt ds i)
  | 0, _ => rfl
  | n + 1, k => by
    rw [List.range'_succ, List.filter_cons]
    unfold slipsFrom
    by_cases h : dAt ds k = .right
    · rw [if_pos h, if_neg (by simp [h]), slipsFrom_eq ds n]
    · rw [if_neg h, if_pos (by simp [h]), slipsFrom_eq ds n]
      rfl
theorem slipsOf_eq (ds : List Deed) : slipsOf ds = slipsFrom ds 0 ds.length := by
  rw [slipsFrom_eq, ← List.range_eq_range']
  rfl
/-- figures, the carry, what waits behind i columns -/
def addS (b : Int) (cs : List (List Int)) (ds : List Deed) : Nat → Option (List Int × Int × List Int)
  | 0 => some ([], 0, [])
  | i + 1 => (addS b cs ds i).bind fun s => (lawStep b cs i (dAt ds i) s.2.1).map fun w =>
      if s.2.2 ≠ [] then (s.1 ++ w.1 ++ s.2.2, w.2, []) else if dAt ds i = .swap then (s.1, w.2, w.1) else (s.1 ++ w.1, w.2, [])
theorem addS_some {b : Int} {cs : List (List Int)} {ds : List Deed} {i : Nat} {s : List Int × Int × List Int} (h : addS b cs ds (i + 1) = some s) :
    ∃ F c W w, addS b cs ds i = some (F, c, W) ∧ lawStep b cs i (dAt ds i) c = some w ∧ s = if W ≠ [] then (F ++ w.1 ++ W, w.2, []) else if dAt ds i = .swap then (F, w.2, w.1) else (F ++ w.1, w.2, []) := by
  simp only [addS, Option.bind_eq_some_iff, Option.map_eq_some_iff] at h
  obtain ⟨⟨F, c, W⟩, h1, w, h2, h3⟩ := h
  exact ⟨F, c, W, w, h1, h2, h3.symm⟩
theorem addS_pre {b : Int} {cs : List (List Int)} {ds : List Deed} {n : Nat} {s : List Int × Int × List Int} (h : addS b cs ds n = some s) : ∀ i, i ≤ n → ∃ t, addS b cs ds i = some t := by
  induction n generalizing s with
  | zero =>
    intro i hi
    have : i = 0 := by omega
    subst this
    exact ⟨s, h⟩
  | succ n ih =>
    intro i hi
    by_cases h0 : i = n + 1
    · subst h0
      exact ⟨s, h⟩
    · obtain ⟨F, c, W, w, h1, _⟩ := addS_some h
      exact ih h1 i (by omega)
section
variable {b r : Int} {cs : List (List Int)} {ds : List Deed} {n : Nat}
theorem dropTake {α : Type} {xs : List α} {lo k : Nat} (hk : k < xs.length) (hlo : lo ≤ k) {d : α} : (xs.take (k + 1)).drop lo = (xs.take k).drop lo ++ [xs.getD k d] := by
  rw [List.take_add_one, List.getElem?_eq_getElem hk, Option.toList, List.drop_append_of_le_length (by rw [List.length_take]; omega)]
  simp [List.getD, List.getElem?_eq_getElem hk]
/-- columns done rightly -/
theorem addS_rights {F : List Int} {c : Int} {lo : Nat} (h0 : addS b cs ds lo = some (F, c, [])) : ∀ k, lo ≤ k → k ≤ cs.length → (∀ j, lo ≤ j → j < k → dAt ds j = .right) →
    addS b cs ds k = some (F ++ (doCols b ((cs.take k).drop lo) c).1, (doCols b ((cs.take k).drop lo) c).2, []) := by
  intro k hk hn hr
  induction k with
  | zero =>
    have : lo = 0 := by omega
    subst this
    rw [h0]
    simp [doCols]
  | succ k ih =>
    by_cases hl : lo = k + 1
    · subst hl
      rw [h0]
      have : (cs.take (k + 1)).drop (k + 1) = [] := List.drop_eq_nil_of_le (by rw [List.length_take]; omega)
      rw [this]
      simp [doCols]
    · have ih := ih (by omega) (by omega) fun j h1 h2 => hr j h1 (by omega)
      have hd := hr k (by omega) (by omega)
      rw [dropTake (by omega) (by omega) (d := []), doCols_snoc]
      simp only [addS, ih, Option.bind_some, hd, step_right, Option.map_some]
      simp
theorem slip_step {i : Nat} {x : Deed} {c : Int} (hx : x ≠ .swap) : doSlip b cs i c x = lawStep b cs i x c := by
  unfold doSlip lawStep
  rw [if_neg hx]
theorem add_go (hl : n = cs.length) (hd : ∀ i, i < n → dAt ds i = .right ∨ dAt ds i ∈ allDeeds b r) (hadj : ∀ i, i + 1 < n → dAt ds i = .swap → dAt ds (i + 1) = .right) {Fn : List Int} {cn : Int} {Wn : List Int} (h : addS b cs ds n = some (Fn, cn, Wn)) :
    ∀ (m k lo : Nat) (F : List Int) (c : Int), k + m = n → lo ≤ k → (∀ j, lo ≤ j → j < k → dAt ds j = .right) → addS b cs ds lo = some (F, c, []) → Wn = [] ∧ ∃ G, addV b r cs (slipsFrom ds k m) lo c = some (G, cn) ∧ F ++ G = Fn := by
  intro m
  induction m using Nat.strongRecOn with
  | ind m ih =>
  intro k lo F c hk hlo hr h0
  cases m with
  | zero =>
    have : k = n := by omega
    subst this
    have h1 := addS_rights h0 k hlo (by omega) hr
    rw [h] at h1
    rw [hl, List.take_length] at h1
    injection h1 with h1
    injection h1 with e1 e2
    injection e2 with e2 e3
    refine ⟨e3, (doCols b (cs.drop lo) c).1, ?_, e1.symm⟩
    rw [e2]
    rfl
  | succ m =>
    by_cases hk0 : dAt ds k = .right
    · unfold slipsFrom
      rw [if_pos hk0]
      refine ih m (by omega) (k + 1) lo F c (by omega) (by omega) (fun j h1 h2 => ?_) h0
      by_cases hj : j = k
      · rw [hj]; exact hk0
      · exact hr j h1 (by omega)
    · unfold slipsFrom
      rw [if_neg hk0]
      have hmem : dAt ds k ∈ allDeeds b r := (hd k (by omega)).resolve_left hk0
      have hk1 := addS_rights h0 k hlo (by omega) hr
      obtain ⟨t, ht⟩ := addS_pre h (k + 1) (by omega)
      obtain ⟨F', c', W', w, h2, h3, rfl⟩ := addS_some ht
      rw [hk1] at h2
      injection h2 with h2
      injection h2 with e1 e2
      injection e2 with e2 e3
      subst e1 e2 e3
      rw [if_neg (by simp)] at ht
      unfold addV
      rw [if_pos ⟨by omega, by omega, hmem⟩, Int.toNat_natCast]
      by_cases hs : dAt ds k = .swap
      · rw [if_pos hs] at ht
        rw [hs] at h3 ⊢
        have hne : ¬ (k + 1 = cs.length) := fun e => by
          unfold lawStep at h3
          rw [if_pos (.inr ⟨rfl, e⟩)] at h3
          cases h3
        have hr1 := hadj k (by omega) hs
        have h3' : w = ([((cs.getD k []).sum + (doCols b ((cs.take k).drop lo) c).2) % b], ((cs.getD k []).sum + (doCols b ((cs.take k).drop lo) c).2) / b) := by
          unfold lawStep at h3
          rw [if_neg (by rintro (⟨z, _⟩ | ⟨_, z⟩); · cases z
                         · exact hne z)] at h3
          exact (Option.some.inj h3).symm
        subst h3'
        have ht4 : addS b cs ds (k + 2) = some (F ++ (doCols b ((cs.take k).drop lo) c).1 ++ [((cs.getD (k + 1) []).sum + ((cs.getD k []).sum + (doCols b ((cs.take k).drop lo) c).2) / b) % b] ++ [((cs.getD k []).sum + (doCols b ((cs.take k).drop lo) c).2) % b], ((cs.getD (k + 1) []).sum + ((cs.getD k []).sum + (doCols b ((cs.take k).drop lo) c).2) / b) / b, []) := by
          rw [show k + 2 = k + 1 + 1 from rfl, addS, addS, hk1]
          simp only [Option.bind_some, hs, h3, Option.map_some]
          simp only [hr1, step_right]
          simp
        cases m with
        | zero => omega
        | succ m =>
        have hsl : slipsFrom ds (k + 1) (m + 1) = slipsFrom ds (k + 2) m := by
          conv => lhs; unfold slipsFrom
          rw [if_pos hr1]
        obtain ⟨hW, G, hG, hFG⟩ := ih m (by omega) (k + 2) (k + 2) _ _ (by omega) (Nat.le_refl _) (fun j h1 h2 => by omega) ht4
        refine ⟨hW, (doCols b ((cs.take k).drop lo) c).1 ++ [((cs.getD (k + 1) []).sum + ((cs.getD k []).sum + (doCols b ((cs.take k).drop lo) c).2) / b) % b, ((cs.getD k []).sum + (doCols b ((cs.take k).drop lo) c).2) % b] ++ G, ?_, ?_⟩
        · have hcut : (cs.take (k + 2)).drop k = [cs.getD k [], cs.getD (k + 1) []] := by
            rw [dropTake (by omega) (by omega) (d := []), dropTake (by omega) (by omega) (d := [])]
            have : (cs.take k).drop k = [] := List.drop_eq_nil_of_le (by rw [List.length_take]; omega)
            rw [this]
            rfl
          have hds : doSlip b cs k (doCols b ((cs.take k).drop lo) c).2 .swap = some ([((cs.getD (k + 1) []).sum + ((cs.getD k []).sum + (doCols b ((cs.take k).drop lo) c).2) / b) % b, ((cs.getD k []).sum + (doCols b ((cs.take k).drop lo) c).2) % b], ((cs.getD (k + 1) []).sum + ((cs.getD k []).sum + (doCols b ((cs.take k).drop lo) c).2) / b) / b) := by
            unfold doSlip
            rw [if_neg (by rintro (⟨z, _⟩ | ⟨_, z⟩); · cases z
                           · exact hne z), if_pos rfl, hcut]
            rfl
          rw [hds, Option.bind_some, if_pos rfl, hsl, hG]
          rfl
        · rw [← hFG]
          simp
      · rw [if_neg hs] at ht
        rw [slip_step hs, h3, Option.bind_some, if_neg hs]
        obtain ⟨hW, G, hG, hFG⟩ := ih m (by omega) (k + 1) (k + 1) _ _ (by omega) (Nat.le_refl _) (fun j h1 h2 => by omega) ht
        refine ⟨hW, _, by rw [hG]; rfl, ?_⟩
        rw [← hFG]
        simp
end
end SY
namespace SY
open PySem PySem.Spec L2 SX
section
variable {b r n : Int} {cs : List (List Int)} {D : Deck}
theorem planS_len : ∀ i, (planS b r n cs D i).1.length = i
  | 0 => rfl
  | i + 1 => by simp [planS, planS_len i]
theorem getD_app_r {α : Type} {xs : List α} {y d : α} {i : Nat} (h : xs.length = i) : (xs ++ [y]).getD i d = y := by
  subst h
  simp [List.getD]
theorem getD_app_l {α : Type} {xs ys : List α} {d : α} {i : Nat} (h : i < xs.length) : (xs ++ ys).getD i d = xs.getD i d := by
  simp [List.getD, List.getElem?_append_left h]
theorem planS_at : ∀ (m i : Nat), i < m → dAt (planS b r n cs D m).1 i = planY b cs i (planX b r n (planS b r n cs D i).2.2 i (planS b r n cs D i).1) (planS b r n cs D i).2.1
  | 0, _, h => absurd h (Nat.not_lt_zero _)
  | m + 1, i, h => by
    unfold dAt
    simp only [planS]
    by_cases hi : i = m
    · subst hi
      exact getD_app_r (planS_len i)
    · rw [getD_app_l (by rw [planS_len]; omega)]
      exact planS_at m i (by omega)
theorem planS_pre {m i : Nat} (h : i ≤ m) : ∀ j, j < i → dAt (planS b r n cs D m).1 j = dAt (planS b r n cs D i).1 j := fun j hj => by
  rw [planS_at m j (by omega), planS_at i j hj]
theorem planS_add : ∀ i, i ≤ cs.length → ∃ F W, addS b cs (planS b r n cs D cs.length).1 i = some (F, (planS b r n cs D i).2.1, W)
  | 0, _ => ⟨[], [], rfl⟩
  | i + 1, hi => by
    obtain ⟨F, W, h⟩ := planS_add i (by omega)
    obtain ⟨w, hw⟩ := planY_some (b := b) (c := (planS b r n cs D i).2.1) (cs := cs) (i := i) (x := planX b r n (planS b r n cs D i).2.2 i (planS b r n cs D i).1)
    have hc : (planS b r n cs D (i + 1)).2.1 = w.2 := by simp only [planS, hw, Option.getD_some]
    simp only [addS, h, Option.bind_some, planS_at _ i hi, hw, Option.map_some, hc]
    split
    · exact ⟨_, _, rfl⟩
    · split
      · exact ⟨_, _, rfl⟩
      · exact ⟨_, _, rfl⟩
theorem planS_adj (i : Nat) (hi : i + 1 < cs.length) (h : dAt (planS b r n cs D cs.length).1 i = .swap) : dAt (planS b r n cs D cs.length).1 (i + 1) = .right := by
  rw [planS_at _ (i + 1) hi]
  have hx : planX b r n (planS b r n cs D (i + 1)).2.2 (i + 1) (planS b r n cs D (i + 1)).1 = .right := by
    unfold planX
    rw [if_neg]
    unfold planQ
    rw [planS_pre (i := i + 1) (by omega) i (by omega)] at h
    have h2 : (((i + 1 : Nat) : Int) - 1).toNat = i := by omega
    rw [h2, show (planS b r n cs D (i + 1)).1.getD i .right = .swap from h, decide_eq_false (show ¬ ((i + 1 : Nat) : Int) = 0 by omega)]
    simp [Deed.word]
  rw [hx]
  unfold planY
  split <;> rfl
theorem dAt_mem {ds : List Deed} {i : Nat} (h : i < ds.length) : dAt ds i ∈ ds := by
  unfold dAt
  simp [List.getD, List.getElem?_eq_getElem h]
/-- planned slips: what the law adds is what the program writes -/
theorem plan_add (g : GoodSh b r cs) : ∃ F c, addS b cs (planS b r n cs D cs.length).1 cs.length = some (F, c, []) ∧ addV b r cs (slipsOf (planS b r n cs D cs.length).1) 0 0 = some (F, c) := by
  obtain ⟨F, W, h⟩ := planS_add (b := b) (r := r) (n := n) (D := D) cs.length (Nat.le_refl _)
  obtain ⟨h1, h2, h3⟩ := planS_ok (n := n) (D := D) g cs.length (Nat.le_refl _)
  obtain ⟨hW, G, hG, hF⟩ := add_go (r := r) rfl (fun i hi => h3 _ (dAt_mem (by rw [h1]; exact hi))) planS_adj h cs.length 0 0 [] 0 (by omega) (Nat.le_refl _) (fun j h1 h2 => by omega) rfl
  subst hW
  rw [List.nil_append] at hF
  subst hF
  refine ⟨G, _, h, ?_⟩
  rw [slipsOf_eq, h1]
  exact hG
end
end SY
namespace SY
open PySem PySem.Spec L2 SX
end SY
namespace SY
theorem slipsOf_len (ds : List Deed) : (slipsOf ds).length ≤ ds.length := by
  unfold slipsOf
  rw [List.length_map]
  exact Nat.le_trans (List.length_filter_le _ _) (by rw [List.length_range]; exact Nat.le_refl _)
end SY
set_option Elab.async false
set_option linter.all false
set_option maxRecDepth 100000
namespace SY
open PySem PySem.Spec L2 SX
end SY
namespace SY
open PySem PySem.Spec L2 SX
end SY
namespace SY
open PySem PySem.Spec L2 SX
end SY
set_option Elab.async false
set_option linter.all false
set_option maxRecDepth 100000
namespace SY
open PySem PySem.Spec L2 SX
structure Wr where
  figs : List Int
  wait : Option Int
  carry : Int
def deedOn (sl : List (Int × Deed)) (a : Int) : Deed := ((sl.find? fun s => decide (s.1 = a)).map fun s => s.2).getD .right
def lawW1 (b f c : Int) (x : Deed) (W : Wr) : Wr :=
  match W.wait with
  | some w => ⟨W.figs ++ [f, w], none, c⟩
  | none => match x with
    | .swap => ⟨W.figs, some f, c⟩
    | .off d => ⟨W.figs ++ [(f + d) % b], none, c⟩
    | _ => ⟨W.figs ++ [f], none, c⟩
def lawW (b t : Int) (x : Deed) (W : Wr) : Wr :=
  match x with
  | .out => W
  | .twice => let W1 := lawW1 b ((t + W.carry) % b) ((t + W.carry) / b) x W; ⟨W1.figs ++ [(t + (t + W.carry) / b) % b], W1.wait, (t + (t + W.carry) / b) / b⟩
  | .forget => let W1 := lawW1 b ((t + W.carry) % b) ((t + W.carry) / b) x W; ⟨W1.figs, W1.wait, 0⟩
  | .again => let W1 := lawW1 b ((t + W.carry) % b) ((t + W.carry) / b) x W; ⟨W1.figs, W1.wait, (t + W.carry) / b + 1⟩
  | x => lawW1 b ((t + W.carry) % b) ((t + W.carry) / b) x W
def wrL (b : Int) (cs : List (List Int)) (sl : List (Int × Deed)) : Nat → Wr
  | 0 => ⟨[], none, 0⟩
  | n + 1 => lawW b (lawTaken b cs n (deedOn sl n)).sum (deedOn sl n) (wrL b cs sl n)
/-- the law's own word on a deed, behind these columns -/
def posW (b m : Int) (cs : List (List Int)) (sl : List (Int × Deed)) (c : List Int) (x : Deed) : Bool :=
  if ((!isNon (oiD (wrL b cs sl cs.length).wait)) || decide ((sl.length : Int) ≥ m)) = true then false
  else match x with
    | .copy _ => decide ((cs.length : Int) > 0)
    | .forget => decide (c.sum + (wrL b cs sl cs.length).carry ≥ b)
    | _ => true
end SY
set_option Elab.async false
set_option linter.all false
set_option maxRecDepth 100000
namespace SY
open PySem PySem.Spec L2 SX
section
variable {K : PySem.W.Frag} {te : TE} {δ : En} {μ μa μb : Mp} {P : Pr} {ds : List PyData} {ad : Addr}
/-- what is owned stays just as it is -/
def E1s (te : TE) (δ : En) (μ : Mp) (P : Pr) : Prop := ∀ σ G M, Sl G σ δ → Mm G M μ → Ev te σ G M (fun G' v M' => P.p G' v ∧ M' = M)
theorem E1s.e (h : E1s te δ μ P) : E1 te δ μ P μ := fun σ G M s m G1 H F e m1 Q q => h σ G M s m G1 H F e m1 Q fun v G2 M2 H2 e2 m2 r => by
  obtain ⟨r1, rfl⟩ := r
  exact q v G2 M2 H2 e2 m2 ⟨r1, m.mono (e.trans e2)⟩
theorem E1s.of (h : E1 te δ [] P []) : E1s te δ μ P := fun σ G M s m G1 H F e m1 Q q => h σ G [] s trivial G1 H (M ++ F) e m1 Q fun v G2 M2 H2 e2 m2 r => by
  obtain ⟨r1, r2⟩ := r
  have := r2.nil
  subst this
  exact q v G2 M H2 e2 m2 ⟨r1, rfl⟩
end
/-- columns and slips that were played -/
inductive Play (b r m : Int) (ds : List Deed) : List (List Int) → List (Int × Deed) → Prop
  | nil : Play b r m ds [] []
  | right {cs : List (List Int)} {sl : List (Int × Deed)} {c : List Int} : Play b r m ds cs sl → ColOk b r c → Play b r m ds (cs ++ [c]) sl
  | deed {cs : List (List Int)} {sl : List (Int × Deed)} {c : List Int} {x : Deed} : Play b r m ds cs sl → ColOk b r c → x ∈ ds → posW b m cs sl c x = true → Play b r m ds (cs ++ [c]) (sl ++ [((cs.length : Int), x)])
section
variable {b r m : Int} {cp lot : List Int} {ds : List Deed} {cs : List (List Int)} {c : List Int} {sl : List (Int × Deed)} {x : Deed}
theorem Play.pos (h : Play b r m ds cs sl) : ∀ s ∈ sl, 0 ≤ s.1 ∧ s.1 < cs.length ∧ s.2 ∈ ds := by
  induction h with
  | nil => intro s hs; cases hs
  | right _ _ ih =>
    intro s hs
    have := ih s hs
    exact ⟨this.1, by simp; omega, this.2.2⟩
  | deed _ _ hx _ ih =>
    intro s hs
    rcases List.mem_append.mp hs with hs | hs
    · have := ih s hs
      exact ⟨this.1, by simp; omega, this.2.2⟩
    · rw [List.mem_singleton.mp hs]
      exact ⟨by show (0 : Int) ≤ _; omega, by show ((_ : Nat) : Int) < _; simp; omega, hx⟩
theorem Play.lt (h : Play b r m ds cs sl) : ∀ s ∈ sl, s.1 < cs.length := fun s hs => (h.pos s hs).2.1
theorem Play.len (h : Play b r m ds cs sl) : sl.length ≤ cs.length := by
  induction h with
  | nil => exact Nat.le_refl _
  | right _ _ ih => simp; omega
  | deed _ _ _ _ ih => simp; omega
theorem Play.cols (h : Play b r m ds cs sl) : ∀ c ∈ cs, ColOk b r c := by
  induction h with
  | nil => intro s hs; cases hs
  | right _ hc ih => intro s hs; rcases List.mem_append.mp hs with hs | hs; exact ih s hs; rw [List.mem_singleton.mp hs]; exact hc
  | deed _ hc _ _ ih => intro s hs; rcases List.mem_append.mp hs with hs | hs; exact ih s hs; rw [List.mem_singleton.mp hs]; exact hc
theorem Play.sh (h : Play b r m ds cs sl) (hb : 2 ≤ b ∧ b ≤ 12) (hr : 1 ≤ r ∧ r ≤ 4) (hl : cs.length ≤ 10000) : GoodSh b r cs := ⟨hb.1, hb.2, hr.1, hr.2, hl, fun c hc => ⟨(h.cols c hc).len, (h.cols c hc).fig⟩⟩
theorem Play.take (h : Play b r m ds cs sl) (n : Nat) : Play b r m ds (cs.take n) (sl.filter fun s => decide (s.1 < (n : Int))) := by
  induction h with
  | nil => rw [List.take_nil]; exact .nil
  | @right cs sl c hp hc ih =>
    by_cases hn : n ≤ cs.length
    · rw [List.take_append_of_le_length hn]
      exact ih
    · rw [List.take_of_length_le (by simp; omega), List.filter_eq_self.mpr (fun s hs => by have := hp.lt s hs; simp; omega)]
      exact .right hp hc
  | @deed cs sl c x hp hc hx hpos ih =>
    by_cases hn : n ≤ cs.length
    · rw [List.take_append_of_le_length hn, List.filter_append, List.filter_cons_of_neg (by simp; omega), List.filter_nil, List.append_nil]
      exact ih
    · rw [List.take_of_length_le (by simp; omega), List.filter_eq_self.mpr (fun s hs => ?_)]
      · exact .deed hp hc hx hpos
      · rcases List.mem_append.mp hs with hs | hs
        · have := hp.lt s hs; simp; omega
        · rw [List.mem_singleton.mp hs]; simp; omega
end
end SY
set_option Elab.async false
set_option linter.all false
set_option maxRecDepth 100000
namespace SY
open PySem PySem.Spec L2 SX
end SY
namespace SY
open PySem PySem.Spec L2 SX
section
variable {E : XK} {K : PySem.W.Frag} {te : TE} {tA : TA} {δ : En} {μ μ' μ1 μ2 : Mp} {Q : Pr} {P : PY} {g : TG} {u : TS} {R : Pr → Mp → Prop}
theorem E1.perm (h : E1 te δ μ Q μ1) (p : μ.Perm μ') (p1 : μ2.Perm μ1) : E1 te δ μ' Q μ2 := fun σ G M s mm G1 H F e m1 q z => by
  obtain ⟨M', h1, h2⟩ := Mm.perm p mm
  refine h σ G M' s h2 G1 H F e (m1.perm (h1.append_right F)) q fun v G2 M2 H2 e2 m2 r => ?_
  obtain ⟨M3, h3, h4⟩ := Mm.perm p1 r.2
  exact z v G2 M3 H2 e2 (m2.perm (h3.append_right F)) ⟨r.1, h4⟩
end
end SY
namespace SY
open PySem PySem.Spec L2 SX
end SY
set_option Elab.async false
set_option linter.all false
set_option maxRecDepth 100000
namespace SY
open PySem PySem.Spec L2 SX
section
variable {E : XK} {K : PySem.W.Frag} {te tb : TE} {δ : En} {μ μ1 μ2 : Mp} {hi : Int}
theorem EY.permR {R R' : Pr → Mp → Prop} (h : EY te δ μ R) (f : ∀ P μ', R P μ' → ∃ μ'' : Mp, R' P μ'' ∧ μ''.Perm μ') : EY te δ μ R' := fun σ G M s mm G1 H F e m1 q z => h σ G M s mm G1 H F e m1 q fun v G2 M2 H2 e2 m2 r => by
  obtain ⟨P, μ', r0, r1, r2⟩ := r
  obtain ⟨μ'', f1, f2⟩ := f P μ' r0
  obtain ⟨M3, h3, h4⟩ := Mm.perm f2 r2
  exact z v G2 M3 H2 e2 (m2.perm (h3.append_right F)) ⟨P, μ'', f1, r1, h4⟩
end
end SY
namespace SY
open PySem PySem.Spec L2 SX
def EAX (ta : TA) (δ : En) (μ : Mp) (X : List Pr → Mp → Prop) : Prop := ∀ σ G M, Sl G σ δ → Mm G M μ → ∀ G1 H F, Ex G G1 → Me G1 (M ++ F) H → ∀ Q : List V → Hp → Prop, (∀ vs G2 M2 H2 Ps μ2, Ex G1 G2 → Me G2 (M2 ++ F) H2 → X Ps μ2 → AP G2 Ps vs → Mm G2 M2 μ2 → Q vs H2) → ta σ H Q
end SY
set_option Elab.async false
set_option linter.all false
set_option maxRecDepth 100000
namespace SY
open PySem PySem.Spec L2 SX
end SY
namespace SY
open PySem PySem.Spec L2 SX
end SY
namespace SY
open PySem PySem.Spec L2 SX
end SY
namespace SY
open PySem PySem.Spec L2 SX
end SY
namespace SY
open PySem PySem.Spec L2 SX
end SY
namespace SY
open PySem PySem.Spec L2 SX
end SY
set_option Elab.async false
set_option linter.all false
set_option maxRecDepth 100000
namespace SY
open PySem PySem.Spec L2 SX
def shM (K : PySem.W.Frag) : List Addr → List (List (List Int)) → Mp
  | l :: ls, c :: css => (l, OL K (c.map colD)) :: shM K ls css
  | _, _ => []
section
variable {K : PySem.W.Frag}
theorem shM_get : ∀ {ls : List Addr} {css : List (List (List Int))} {i : Nat} {l : Addr} {c : List (List Int)}, ls[i]? = some l → css[i]? = some c → (shM K ls css)[i]? = some (l, OL K (c.map colD))
  | [], _, _, _, _, h, _ => by simp at h
  | _ :: _, [], _, _, _, _, h => by simp at h
  | a :: ls, b :: css, 0, l, c, h, h2 => by
    simp only [List.getElem?_cons_zero, Option.some.injEq] at h h2
    subst h h2
    rfl
  | a :: ls, b :: css, i + 1, l, c, h, h2 => shM_get (ls := ls) (css := css) (i := i) (by simpa using h) (by simpa using h2)
theorem shM_set : ∀ {ls : List Addr} {css : List (List (List Int))} {i : Nat} {l : Addr} {c : List (List Int)}, ls[i]? = some l → (shM K ls css).set i (l, OL K (c.map colD)) = shM K ls (css.set i c)
  | [], _, _, _, _, h => by simp at h
  | _ :: _, [], _, _, _, _ => by simp [shM]
  | a :: ls, b :: css, 0, l, c, h => by
    simp only [List.getElem?_cons_zero, Option.some.injEq] at h
    subst h
    rfl
  | a :: ls, b :: css, i + 1, l, c, h => by
    show (a, OL K (b.map colD)) :: (shM K ls css).set i (l, OL K (c.map colD)) = (a, OL K (b.map colD)) :: shM K ls (css.set i c)
    rw [shM_set (ls := ls) (css := css) (i := i) (by simpa using h)]
end
end SY
set_option Elab.async false
set_option linter.all false
set_option maxRecDepth 100000
namespace SY
abbrev CssT := List (List (List Int))
open PySem PySem.Spec L2 SX
def GoodCss (b r : Int) (ls : List Addr) (css : CssT) : Prop := ls.length = 3 ∧ List.length css = 3 ∧ ∀ cs ∈ css, GoodSh b r cs ∧ cs.length ≤ 60
theorem set_mem {α : Type} {l : List α} {i : Nat} {x y : α} (h : y ∈ l.set i x) : y = x ∨ y ∈ l := by
  rcases List.mem_or_eq_of_mem_set h with h | h
  · exact .inr h
  · exact .inl h
section
variable {K : PySem.W.Frag} {C dk sa ea : Addr} {b r : Int} {Dk : Deck} {ls : List Addr} {css : CssT} {a i : Nat} {c : List (List Int)} {l : Addr}
theorem GoodCss.set (g : GoodCss b r ls css) (l : Addr) (h : GoodSh b r c ∧ c.length ≤ 60) : GoodCss b r (ls.set a l) (css.set a c) := ⟨by rw [List.length_set]; exact g.1, by rw [List.length_set]; exact g.2.1, fun cs hc => by
  rcases set_mem hc with rfl | hc
  · exact h
  · exact g.2.2 cs hc⟩
theorem GoodCss.get (g : GoodCss b r ls css) (h : a < 3) : ∃ l c, ls[a]? = some l ∧ css[a]? = some c ∧ GoodSh b r c ∧ c.length ≤ 60 := by
  have h1 : a < ls.length := by rw [g.1]; exact h
  have h2 : a < List.length css := by rw [g.2.1]; exact h
  exact ⟨_, _, List.getElem?_eq_getElem h1, List.getElem?_eq_getElem h2, g.2.2 _ (List.getElem_mem h2)⟩
theorem GoodSh.set {cs : List (List Int)} {x : List Int} (g : GoodSh b r cs) (h : GoodCol b r x) : GoodSh b r (cs.set i x) := ⟨g.b2, g.b12, g.r1, g.r4, by rw [List.length_set]; exact g.len, fun c hc => by
  rcases set_mem hc with rfl | hc
  · exact h
  · exact g.col c hc⟩
end
end SY
set_option Elab.async false
set_option linter.all false
set_option maxRecDepth 100000
namespace SY
open PySem PySem.Spec L2 SX
theorem doSlip_app {b : Int} {cs ms : List (List Int)} {a : Nat} {c : Int} {x : Deed} {w : List Int × Int} (h : doSlip b cs a c x = some w) (ha : a < cs.length) : doSlip b (cs ++ ms) a c x = some w := by
  unfold doSlip at h ⊢
  split at h
  · cases h
  · rename_i hn
    have hn2 : ¬ (isCopy x = true ∧ a = 0 ∨ x = .swap ∧ a + 1 = (cs ++ ms).length) := by
      intro z
      rcases z with z | ⟨z1, z2⟩
      · exact hn (.inl z)
      · rw [List.length_append] at z2
        have : ¬ (a + 1 = cs.length) := fun e => hn (.inr ⟨z1, e⟩)
        omega
    rw [if_neg hn2]
    split at h
    · rename_i hx
      rw [if_pos hx]
      have : ¬ (a + 1 = cs.length) := fun e => hn (.inr ⟨hx, e⟩)
      rw [List.take_append_of_le_length (by omega)]
      exact h
    · rename_i hx
      rw [if_neg hx]
      have e1 : (cs ++ ms).getD a [] = cs.getD a [] := getD_app_l ha
      have e2 : copiedV (cs ++ ms) a x = copiedV cs a x := by
        cases x <;> try rfl
        simp only [copiedV]
        rw [getD_app_l (by omega)]
      rw [e1, e2]
      exact h
/-- more columns behind -/
theorem addV_app {b r : Int} {cs ms : List (List Int)} : ∀ {sl : List (Int × Deed)} {lo : Nat} {c : Int} {f : List Int × Int}, lo ≤ cs.length → addV b r cs sl lo c = some f → addV b r (cs ++ ms) sl lo c = some (f.1 ++ (doCols b ms f.2).1, (doCols b ms f.2).2)
  | [], lo, c, f, hl, h => by
    cases h
    simp only [addV]
    rw [List.drop_append_of_le_length hl, doCols_app]
  | (a, x) :: sl, lo, c, f, hl, h => by
    obtain ⟨⟨h1, h2, h3⟩, w, g, hw, hg, rfl⟩ := addV_cons h
    have hlo := addV_lo (r := r) ⟨h1, h2⟩ hw
    have ih := addV_app (ms := ms) hlo hg
    have hw2 := doSlip_app (ms := ms) hw (by omega)
    have et : (cs ++ ms).take a.toNat = cs.take a.toNat := List.take_append_of_le_length (by omega)
    unfold addV
    rw [if_pos ⟨h1, by rw [List.length_append]; omega, h3⟩, et, hw2]
    simp only [Option.bind_some, ih, Option.map_some, List.append_assoc]
/-- the first columns alone -/
theorem addV_ge {b r : Int} {cs : List (List Int)} : ∀ {sl : List (Int × Deed)} {lo : Nat} {c : Int} {f : List Int × Int}, addV b r cs sl lo c = some f → ∀ s ∈ sl, (lo : Int) ≤ s.1
  | [], _, _, _, _, s, hs => by cases hs
  | (a, x) :: sl, lo, c, f, h, s, hs => by
    obtain ⟨⟨h1, h2, h3⟩, w, g, hw, hg, rfl⟩ := addV_cons h
    rcases List.mem_cons.mp hs with rfl | hs
    · exact h1
    · have := addV_ge hg s hs
      split at this <;> omega
theorem doSlip_take {b : Int} {cs : List (List Int)} {a i : Nat} {c : Int} {x : Deed} {w : List Int × Int} (h : doSlip b cs a c x = some w) (hi : i ≤ cs.length) (ha : a < i) (hs : x = .swap → a + 2 ≤ i) : doSlip b (cs.take i) a c x = some w := by
  have hl : (cs.take i).length = i := by rw [List.length_take]; omega
  unfold doSlip at h ⊢
  split at h
  · cases h
  · rename_i hn
    have hn2 : ¬ (isCopy x = true ∧ a = 0 ∨ x = .swap ∧ a + 1 = (cs.take i).length) := by
      intro z
      rcases z with z | ⟨z1, z2⟩
      · exact hn (.inl z)
      · have := hs z1
        omega
    rw [if_neg hn2]
    have eg : ∀ n, n < i → (cs.take i).getD n [] = cs.getD n [] := fun n hn => by
      simp only [List.getD_eq_getElem?_getD]
      rw [List.getElem?_take_of_lt hn]
    split at h
    · rename_i hx
      rw [if_pos hx, List.take_take, Nat.min_eq_left (hs hx)]
      exact h
    · rename_i hx
      rw [if_neg hx]
      have e2 : copiedV (cs.take i) a x = copiedV cs a x := by
        cases x <;> try rfl
        simp only [copiedV]
        rw [eg _ (by omega)]
      rw [eg a ha, e2]
      exact h
theorem doCols_pre {b c : Int} (xs ys : List (List Int)) : (doCols b xs c).1 <+: (doCols b (xs ++ ys) c).1 := by
  rw [doCols_app]
  exact List.prefix_append _ _
theorem addV_take {b r : Int} {cs : List (List Int)} {i : Nat} (hi : i ≤ cs.length) : ∀ {sl : List (Int × Deed)} {lo : Nat} {c : Int} {f : List Int × Int}, lo ≤ i → addV b r cs sl lo c = some f → (∀ s ∈ sl, s.2 = .swap → s.1 + 1 ≠ (i : Int)) →
    ∃ p, addV b r (cs.take i) (sl.filter fun s => decide (s.1 < (i : Int))) lo c = some p ∧ p.1 <+: f.1
  | [], lo, c, f, hl, h, _ => by
    cases h
    refine ⟨_, rfl, ?_⟩
    have e : cs.drop lo = (cs.take i).drop lo ++ cs.drop i := by
      conv => lhs; rw [← List.take_append_drop i cs]
      rw [List.drop_append_of_le_length (by rw [List.length_take]; omega)]
    rw [e]
    exact doCols_pre _ _
  | (a, x) :: sl, lo, c, f, hl, h, hs => by
    obtain ⟨⟨h1, h2, h3⟩, w, g, hw, hg, rfl⟩ := addV_cons h
    by_cases hai : a < (i : Int)
    · have hsw : x = .swap → a.toNat + 2 ≤ i := fun z => by
        have := hs (a, x) (List.mem_cons_self ..) z
        have : a + 1 ≠ (i : Int) := this
        omega
      have hw2 := doSlip_take hw hi (by omega) hsw
      have hlo : (if x = .swap then a.toNat + 2 else a.toNat + 1) ≤ i := by
        split
        · exact hsw ‹_›
        · omega
      obtain ⟨p, hp1, hp2⟩ := addV_take hi hlo hg (fun s h => hs s (List.mem_cons_of_mem _ h))
      rw [List.filter_cons_of_pos (by simpa using hai)]
      refine ⟨((doCols b ((cs.take a.toNat).drop lo) c).1 ++ w.1 ++ p.1, p.2), ?_, ?_⟩
      · unfold addV
        rw [if_pos ⟨h1, by rw [List.length_take]; omega, h3⟩, List.take_take, Nat.min_eq_left (by omega), hw2]
        simp only [Option.bind_some, hp1, Option.map_some]
      · exact (List.prefix_append_right_inj _).mpr hp2
    · have hnil : ((a, x) :: sl).filter (fun s => decide (s.1 < (i : Int))) = [] := by
        rw [List.filter_eq_nil_iff]
        intro s hmem
        rcases List.mem_cons.mp hmem with rfl | hmem
        · simpa using hai
        · have := addV_ge hg s hmem
          have h4 : a.toNat + 1 ≤ (if x = .swap then a.toNat + 2 else a.toNat + 1) := by split <;> omega
          simp
          omega
      rw [hnil]
      refine ⟨_, rfl, ?_⟩
      have e : (cs.take a.toNat).drop lo = (cs.take i).drop lo ++ (cs.take a.toNat).drop i := by
        have : cs.take i = (cs.take a.toNat).take i := by rw [List.take_take, Nat.min_eq_left (by omega)]
        rw [this]
        conv => lhs; rw [← List.take_append_drop i (cs.take a.toNat)]
        rw [List.drop_append_of_le_length (by rw [List.length_take, List.length_take]; omega)]
      show (doCols b ((cs.take i).drop lo) c).1 <+: (doCols b ((cs.take a.toNat).drop lo) c).1 ++ w.1 ++ g.1
      rw [e, doCols_app, List.append_assoc, List.append_assoc]
      exact List.prefix_append _ _
/-- only the sums count, but for read and copy -/
theorem doCols_sums {b : Int} : ∀ {cs ds : List (List Int)} (c : Int), cs.map List.sum = ds.map List.sum → doCols b cs c = doCols b ds c
  | [], [], _, _ => rfl
  | [], _ :: _, _, h => by simp at h
  | _ :: _, [], _, h => by simp at h
  | x :: xs, y :: ys, c, h => by
    simp only [List.map_cons, List.cons.injEq] at h
    simp only [doCols]
    rw [h.1, doCols_sums _ h.2]
def noRow : Deed → Bool
  | .read _ _ => false
  | .copy _ => false
  | _ => true
theorem doSlip_sums {b : Int} {cs ds : List (List Int)} {a : Nat} {c : Int} {x : Deed} (h : cs.map List.sum = ds.map List.sum) (hx : noRow x = true) (ha : a < cs.length) : doSlip b cs a c x = doSlip b ds a c x := by
  have hl : cs.length = ds.length := by
    have := congrArg List.length h
    simpa using this
  have hg : (cs.getD a []).sum = (ds.getD a []).sum := by
    have := congrArg (fun l => l[a]?) h
    simp only [List.getElem?_map, List.getElem?_eq_getElem ha, List.getElem?_eq_getElem (show a < ds.length by omega), Option.map_some, Option.some.injEq] at this
    simpa [List.getD, List.getElem?_eq_getElem ha, List.getElem?_eq_getElem (show a < ds.length by omega)] using this
  have ht : ((cs.take (a + 2)).drop a).map List.sum = ((ds.take (a + 2)).drop a).map List.sum := by
    rw [List.map_drop, List.map_take, List.map_drop, List.map_take, h]
  unfold doSlip
  rw [hl, doCols_sums c ht]
  cases x <;> simp only [noRow, Bool.false_eq_true] at hx <;> simp only [sumTaken, hg]
theorem addV_sums {b r : Int} {cs ds : List (List Int)} (h : cs.map List.sum = ds.map List.sum) : ∀ (sl : List (Int × Deed)) (lo : Nat) (c : Int), (∀ s ∈ sl, noRow s.2 = true) → addV b r cs sl lo c = addV b r ds sl lo c
  | [], lo, c, _ => by
    simp only [addV]
    rw [doCols_sums (cs := cs.drop lo) (ds := ds.drop lo) c (by rw [List.map_drop, List.map_drop, h])]
  | (a, x) :: sl, lo, c, hs => by
    have hl : cs.length = ds.length := by
      have := congrArg List.length h
      simpa using this
    unfold addV
    rw [hl]
    split
    · rename_i hc
      have e1 : doCols b ((cs.take a.toNat).drop lo) c = doCols b ((ds.take a.toNat).drop lo) c := doCols_sums c (by rw [List.map_drop, List.map_take, List.map_drop, List.map_take, h])
      rw [e1, doSlip_sums h (hs (a, x) (List.mem_cons_self ..)) (by omega)]
      congr 1
      funext w
      rw [addV_sums h sl _ _ fun s h => hs s (List.mem_cons_of_mem _ h)]
    · rfl
/-- the values of what is written with more columns behind -/
theorem horner_app {b : Int} (F ys : List Int) (c : Int) : horner b (F ++ ys) c = horner b F (horner b ys c) := by
  unfold horner
  rw [List.foldr_append]
theorem behind_value {b : Int} (hb : 0 < b) (F : List Int) (c : Int) (ms : List (List Int)) : horner b (F ++ (doCols b ms c).1) (doCols b ms c).2 = horner b F c + b ^ F.length * valueOf b ms := by
  rw [horner_app, doCols_digs hb, horner_digs hb, horner_last b F, horner_last b F c, Int.mul_add]
  omega
def turnC (ord : List Int) (c : List Int) : List Int := ord.map fun j => c.getD j.toNat 0
def deedIn (ord : List Int) : Deed → Deed
  | .read j d => .read (ord.idxOf j : Nat) d
  | .copy j => .copy (ord.idxOf j : Nat)
  | x => x
def RowOrd (r : Int) (ord : List Int) : Prop := ord.Perm ((List.range r.toNat).map Int.ofNat)
theorem perm_sum {xs ys : List Int} (h : xs.Perm ys) : xs.sum = ys.sum := by
  induction h with
  | nil => rfl
  | cons x _ ih => rw [List.sum_cons, List.sum_cons, ih]
  | swap x y l => simp only [List.sum_cons]; omega
  | trans _ _ h1 h2 => rw [h1, h2]
theorem RowOrd.mem {r : Int} {ord : List Int} (h : RowOrd r ord) {j : Int} (h0 : 0 ≤ j) (h1 : j < r) : j ∈ ord := by
  refine (h.mem_iff).mpr (List.mem_map.mpr ⟨j.toNat, List.mem_range.mpr (by omega), ?_⟩)
  show ((j.toNat : Nat) : Int) = j
  omega
theorem RowOrd.len {r : Int} {ord : List Int} (h : RowOrd r ord) : ord.length = r.toNat := by
  rw [h.length_eq, List.length_map, List.length_range]
theorem turn_sum {r : Int} {ord c : List Int} (h : RowOrd r ord) (hc : (c.length : Int) = r) : (turnC ord c).sum = c.sum := by
  have h1 : (turnC ord c).Perm (((List.range r.toNat).map Int.ofNat).map fun j => c.getD j.toNat 0) := h.map _
  rw [perm_sum h1]
  have : (((List.range r.toNat).map Int.ofNat).map fun j => c.getD j.toNat 0) = c := by
    apply List.ext_getElem?
    intro i
    rw [List.map_map, List.getElem?_map]
    by_cases hi : i < c.length
    · rw [List.getElem?_range (by omega), List.getElem?_eq_getElem hi]
      simp [List.getD, List.getElem?_eq_getElem hi]
    · rw [List.getElem?_eq_none (by rw [List.length_range]; omega), List.getElem?_eq_none (by omega)]
      rfl
  rw [this]
theorem idx_lt {r : Int} {ord : List Int} (h : RowOrd r ord) {j : Int} (h0 : 0 ≤ j) (h1 : j < r) : ((ord.idxOf j : Nat) : Int) < r := by
  have := List.idxOf_lt_length_iff.mpr (h.mem h0 h1)
  have := h.len
  omega
theorem turn_at {r : Int} {ord c : List Int} (h : RowOrd r ord) {j : Int} (h0 : 0 ≤ j) (h1 : j < r) : (turnC ord c).getD (ord.idxOf j) 0 = c.getD j.toNat 0 := by
  have hl := List.idxOf_lt_length_iff.mpr (h.mem h0 h1)
  have : ord[ord.idxOf j]? = some j := by rw [List.getElem?_eq_getElem hl, List.getElem_idxOf]
  unfold turnC
  simp [List.getD, List.getElem?_map, this]
theorem deedIn_all {b r : Int} {ord : List Int} (h : RowOrd r ord) {x : Deed} (hx : x ∈ allDeeds b r) : deedIn ord x ∈ allDeeds b r := by
  rw [mem_all] at hx ⊢
  rcases hx with rfl | rfl | ⟨d, rfl, h1⟩ | ⟨j, d, rfl, h1, h2, h3⟩ | ⟨j, rfl, h1, h2⟩ | hx
  · exact .inl rfl
  · exact .inr (.inl rfl)
  · exact .inr (.inr (.inl ⟨d, rfl, h1⟩))
  · exact .inr (.inr (.inr (.inl ⟨_, d, rfl, by omega, idx_lt h h1 h2, h3⟩)))
  · exact .inr (.inr (.inr (.inr (.inl ⟨_, rfl, by omega, idx_lt h h1 h2⟩))))
  · rcases hx with rfl | rfl | rfl
    · exact .inr (.inr (.inr (.inr (.inr (.inl rfl)))))
    · exact .inr (.inr (.inr (.inr (.inr (.inr (.inl rfl))))))
    · exact .inr (.inr (.inr (.inr (.inr (.inr (.inr rfl))))))
theorem turn_good {b r : Int} {ord c : List Int} (h : RowOrd r ord) (g : GoodCol b r c) (hb : 0 < b) : GoodCol b r (turnC ord c) := by
  have hl := h.len
  have hc := g.1
  refine ⟨by rw [turnC, List.length_map]; omega, fun f hf => ?_⟩
  obtain ⟨j, _, rfl⟩ := List.mem_map.mp hf
  by_cases hj : j.toNat < c.length
  · simp only [List.getD, List.getElem?_eq_getElem hj, Option.getD_some]
    exact g.2 _ (List.getElem_mem hj)
  · simp only [List.getD, List.getElem?_eq_none (by omega : c.length ≤ j.toNat), Option.getD_none]
    omega
theorem turn_sums {b r : Int} {ord : List Int} (h : RowOrd r ord) {cs : List (List Int)} (g : ∀ c ∈ cs, GoodCol b r c) : (cs.map (turnC ord)).map List.sum = cs.map List.sum := by
  rw [List.map_map]
  refine List.map_congr_left fun c hc => turn_sum h (g c hc).1
theorem doSlip_turn {b r : Int} {ord : List Int} (h : RowOrd r ord) {cs : List (List Int)} (g : ∀ c ∈ cs, GoodCol b r c) {a : Nat} {c : Int} {x : Deed} (hx : x ∈ allDeeds b r) (ha : a < cs.length) : doSlip b (cs.map (turnC ord)) a c (deedIn ord x) = doSlip b cs a c x := by
  have hsum := turn_sums h g
  have hga : ∀ n, n < cs.length → (cs.map (turnC ord)).getD n [] = turnC ord (cs.getD n []) := fun n hn => by
    simp [List.getD, List.getElem?_map, List.getElem?_eq_getElem hn]
  have hgl : ∀ n, n < cs.length → ((cs.getD n []).length : Int) = r := fun n hn => by
    simp only [List.getD, List.getElem?_eq_getElem hn, Option.getD_some]
    exact (g _ (List.getElem_mem hn)).1
  by_cases hr : noRow x = true
  · have e : deedIn ord x = x := by cases x <;> first | rfl | (cases hr; done)
    rw [e]
    exact doSlip_sums hsum hr (by rw [List.length_map]; exact ha)
  · rw [mem_all] at hx
    rcases hx with rfl | rfl | ⟨d, rfl, h1⟩ | ⟨j, d, rfl, h1, h2, h3⟩ | ⟨j, rfl, h1, h2⟩ | hx
    · exact absurd rfl hr
    · exact absurd rfl hr
    · exact absurd rfl hr
    · simp only [doSlip, deedIn, isCopy, sumTaken, Bool.false_eq_true, false_and, false_or, reduceCtorEq, if_false, doSum, Int.toNat_natCast]
      rw [hga a ha, turn_sum h (hgl a ha), turn_at h h1 h2]
    · simp only [doSlip, deedIn, isCopy, sumTaken, true_and, reduceCtorEq, false_and, or_false, if_false, doSum, Int.toNat_natCast, copiedV]
      by_cases ha0 : a = 0
      · rw [if_pos ha0, if_pos ha0]
      · rw [if_neg ha0, if_neg ha0, hga a ha, hga (a - 1) (by omega), turn_sum h (hgl a ha), turn_at h h1 h2, turn_at h h1 h2]
    · rcases hx with rfl | rfl | rfl <;> exact absurd rfl hr
theorem deedIn_swap {ord : List Int} {x : Deed} : deedIn ord x = .swap ↔ x = .swap := by
  cases x <;> simp [deedIn]
theorem addV_turn {b r : Int} {ord : List Int} (h : RowOrd r ord) {cs : List (List Int)} (g : ∀ c ∈ cs, GoodCol b r c) : ∀ {sl : List (Int × Deed)} {lo : Nat} {c : Int} {f : List Int × Int}, addV b r cs sl lo c = some f → addV b r (cs.map (turnC ord)) (sl.map fun s => (s.1, deedIn ord s.2)) lo c = some f
  | [], lo, c, f, hf => by
    cases hf
    simp only [List.map_nil, addV]
    rw [doCols_sums (cs := (cs.map (turnC ord)).drop lo) (ds := cs.drop lo) c (by rw [List.map_drop, List.map_drop, turn_sums h g])]
  | (a, x) :: sl, lo, c, f, hf => by
    obtain ⟨⟨h1, h2, h3⟩, w, gg, hw, hg, rfl⟩ := addV_cons hf
    have ih := addV_turn h g hg
    simp only [List.map_cons]
    unfold addV
    have e1 : doCols b (((cs.map (turnC ord)).take a.toNat).drop lo) c = doCols b ((cs.take a.toNat).drop lo) c := doCols_sums c (by rw [List.map_drop, List.map_take, List.map_drop, List.map_take, turn_sums h g])
    rw [if_pos ⟨h1, by rw [List.length_map]; exact h2, deedIn_all h h3⟩, e1, doSlip_turn h g h3 (by omega), hw]
    simp only [Option.bind_some, deedIn_swap]
    rw [ih]
    rfl
theorem pow_wide12 {b : Int} {n : Nat} (h0 : 0 ≤ b) (h1 : b ≤ 12) : (b ^ n).natAbs < 2 ^ (4 * n + 1) := by
  rw [Int.natAbs_pow]
  have h : b.natAbs ^ n ≤ 16 ^ n := Nat.pow_le_pow_left (by omega) n
  have e : 2 ^ (4 * n + 1) = 16 ^ n * 2 := by
    rw [Nat.pow_succ, Nat.pow_mul]
  have : 0 < 16 ^ n := Nat.pow_pos (by omega)
  omega
def rngI (r : Int) : List Int := (List.range r.toNat).map Int.ofNat
/-- list(range(r)) -/
theorem o_listRg {K : PySem.W.Frag} {ta : TE} {δ : En} {μ μ1 : Mp} {i : Int} (h : E1 ta δ μ (D K (.int i)) μ1) (hi : 0 ≤ i ∧ i ≤ 1000) : EO K (tLstRg (tRg1 ta)) δ μ ((rngI i).map .int) μ1 := fun σ G M s m G1 H F e m1 Q q =>
  h σ G M s m G1 H F e m1 _ fun v G2 M2 H2 e2 m2 r2 => by
    rw [dp_int r2.1]
    refine ⟨i, rfl, RgOk.of_le (by omega) (by omega) (by omega) (by omega), fun l hl => q _ G2 _ _ e2 (m2.newMid hl) ⟨l, rgV 0 i, M2, rfl, rfl, ?_, r2.2⟩⟩
    unfold rgV rngI
    rw [List.map_map, Int.sub_zero]
    have : ∀ ns : List Nat, DpAll K G2 (ns.map fun (i : Nat) => V.int (0 + (i : Int))) (ns.map (PyData.int ∘ Int.ofNat)) := by
      intro ns
      induction ns with
      | nil => exact .nil
      | cons n ns ih =>
        refine .cons ?_ ih
        show Dp K G2 (V.int (0 + (n : Int))) (.int (n : Int))
        rw [Int.zero_add]
        exact .int _
    exact this _
/-- [e for ..] where each turn is only known to have some value, by an invariant of what is done -/
theorem y_lcE {K : PySem.W.Frag} {te : TE} {δ : En} {μ μ1 kp : Mp} {wi : TI} {g : TG} {vs : List Nat} {n : Nat} {X : Nat → Pr} (Inv : Nat → List PyData → Mp → Prop) (hw : IY wi δ μ n X μ1 kp) (hn : n ≤ 100000) (h0 : Inv 0 [] μ1)
    (hb : ∀ i ds μx, i < n → Inv i ds μx → ∃ δ'', G1 g (X i) (wipeY δ vs) δ'' vs ∧ EY te δ'' μx (fun Q μy => ∃ d, Q = SY.D K d ∧ Inv (i + 1) (ds ++ [d]) μy))
    (hk : ∀ i ds μx, Inv i ds μx → kp.Sublist μx) (hl : ∀ i ds μx, Inv i ds μx → ds.length = i) : EY (tLc wi g tYes te vs) δ μ (fun P μ2 => ∃ p ds μx, Inv n ds μx ∧ P = Av p ∧ μ2 = μx ++ [(p, OL K ds)]) := fun σ G M s m G1 H F e m1 Q q =>
  hw σ G M s m G1 H F e m1 _ fun J G2 M2 H2 e2 m2 r2 => by
    rintro ⟨⟨Gd, Y, W, hG, hY⟩⟩ D hD
    refine lc_it W (fun i H' => ∃ G' M' ws ds μx, Ex G2 G' ∧ Me G' (M' ++ (D, .lst ws) :: F) H' ∧ Mm G' M' μx ∧ DpAll K G' ws ds ∧ Inv i ds μx) ?_ ?_ ?_ ?_
    · exact ⟨G2, M2, [], [], μ1, Ex.refl _, by rw [mem_mid]; exact m2.newMid hD, r2, .nil, h0⟩
    · rintro i H' _ ⟨G', M', ws, ds, μx, e', m', r', _, hI⟩
      obtain ⟨Mk, h1, h2⟩ := r'.sub (hk _ _ _ hI)
      exact hG G' M' _ H' Mk e' m' h1 h2
    · rintro i x H' H4 hi ⟨G', M', ws, ds, μx, e', m', r', da, hI⟩ y
      obtain ⟨Mk, hk1, hk2⟩ := r'.sub (hk _ _ _ hI)
      obtain ⟨G4, e4, m4, px⟩ := hY i G' M' _ H' x H4 Mk hi e' m' hk1 hk2 y
      obtain ⟨δ'', hg, he⟩ := hb i ds μx hi hI
      have s4 : Sl G4 (wipe σ vs) (wipeY δ vs) := (s.mono (((e.trans e2).trans e').trans e4)).wipe vs
      refine hg _ G4 M' _ H4 x s4 px m4 _ fun σ5 s5 w5 => ⟨by rw [w5.wipe, wipe_wipe], t_yes (δ := δ'') (μ := μx) σ5 G4 M' s5 (r'.mono e4) G4 H4 _ (Ex.refl _) m4 _ fun G5 M5 H5 e5 m5 r5 => ?_⟩
      have hlw : ws.length ≤ i := by rw [dpa_len da, hl _ _ _ hI]; exact Nat.le_refl _
      rw [if_pos rfl]
      refine he σ5 G5 M5 (s5.mono e5) r5 G5 H5 _ (Ex.refl _) m5 _ fun y G6 M6 H6 e6 m6 r6 => ?_
      obtain ⟨P, μ2, ⟨d, rfl, hI2⟩, r6, r7⟩ := r6
      have hm : (M6 ++ (D, HO.lst ws) :: F)[M6.length]? = some (D, .lst ws) := by
        rw [List.getElem?_append_right (Nat.le_refl _), Nat.sub_self]
        rfl
      refine ⟨ws, m6.get hm, sz_ok (by omega), G6, M6, ws ++ [y], ds ++ [d], μ2, ((e'.trans e4).trans e5).trans e6, ?_, r7, ?_, hI2⟩
      · have := m6.put (o' := .lst (ws ++ [y])) hm
        rw [List.set_append_right _ _ (Nat.le_refl _), Nat.sub_self] at this
        exact this
      · exact dpa_app (dma da ((e4.trans e5).trans e6)) (.cons r6 .nil)
    · rintro H' ⟨G', M', ws, ds, μx, e', m', r', da, hI⟩
      rw [mem_mid] at m'
      exact q _ G' _ H' (e2.trans e') m' ⟨_, _, ⟨D, ds, μx, hI, rfl, rfl⟩, rfl, Mm.app r' ⟨⟨rfl, ws, rfl, da⟩, trivial⟩⟩
abbrev rrA (K : PySem.W.Frag) (C : Addr) (x : Addr × Deck × Addr × Int × Int × List (List Int) × List (Int × Deed) × (List Int × Int)) : List Pr := match x with | (dk, D0, l, b, r, cs, sl, ww) => [Av dk, ShI C b r l, D K (.list (cs.map colD)), D K (.list (sl.map slipD))]
abbrev rrM (K : PySem.W.Frag) (x : Addr × Deck × Addr × Int × Int × List (List Int) × List (Int × Deed) × (List Int × Int)) : Mp := match x with | (dk, D0, l, b, r, cs, sl, ww) => [(dk, DKo D0), (l, OL K (cs.map colD))]
abbrev rrPre (x : Addr × Deck × Addr × Int × Int × List (List Int) × List (Int × Deed) × (List Int × Int)) : Prop := match x with | (dk, D0, l, b, r, cs, sl, ww) => GoodSh b r cs ∧ cs.length ≤ 60 ∧ sl.length ≤ 10000 ∧ addV b r cs sl 0 0 = some ww ∧ (∀ s ∈ sl, s.2 ∈ allDeeds b r)
abbrev rrR (K : PySem.W.Frag) (x : Addr × Deck × Addr × Int × Int × List (List Int) × List (Int × Deed) × (List Int × Int)) (Q : Pr) (μ : Mp) : Prop := match x with | (dk, D0, l, b, r, cs, sl, ww) => ∃ D1, Q = D K (.bool true) ∧ μ = [(dk, DKo D1), (l, OL K (cs.map colD))]
abbrev TwT := Addr × Deck × Addr × Int × Int × List (List Int)
abbrev twA (K : PySem.W.Frag) (C : Addr) (x : TwT) : List Pr := match x with | (dk, D0, l, b, r, cs) => [Av dk, ShI C b r l, D K (.int b), D K (.int r), D K (.list (cs.map colD))]
abbrev twM0 (K : PySem.W.Frag) (x : TwT) : Mp := match x with | (dk, D0, l, b, r, cs) => [(dk, DKo D0), (l, OL K (cs.map colD))]
abbrev twPre (x : TwT) : Prop := match x with | (dk, D0, l, b, r, cs) => GoodSh b r cs ∧ cs.length ≤ 60
abbrev twR (K : PySem.W.Frag) (x : TwT) (Q : Pr) (μ : Mp) : Prop := match x with | (dk, D0, l, b, r, cs) => ∃ (D1 : Deck) (c1 : List (List Int)), Q = D K (.bool true) ∧ μ = [(dk, DKo D1), (l, OL K (c1.map colD))]
end SY
set_option Elab.async false
set_option linter.all false
set_option maxRecDepth 100000
namespace SY
open PySem PySem.Spec L2 SX
end SY
set_option Elab.async false
set_option linter.all false
set_option maxRecDepth 100000
namespace SY
open PySem PySem.Spec L2 SX
end SY
set_option Elab.async false
set_option linter.all false
set_option maxRecDepth 100000
namespace SY
open PySem PySem.Spec L2 SX
theorem ap_snoc {G : Hp} : ∀ {Ps : List Pr} {vs : List V} {P : Pr} {v : V}, AP G Ps vs → P.p G v → AP G (Ps ++ [P]) (vs ++ [v])
  | [], [], _, _, _, h => ⟨h, trivial⟩
  | _ :: _, _ :: _, _, _, a, h => ⟨a.1, ap_snoc a.2 h⟩
  | [], _ :: _, _, _, a, _ => a.elim
  | _ :: _, [], _, _, a, _ => a.elim
theorem y_lcX {te : TE} {δ : En} {μ μ1 kp : Mp} {wi : TI} {g : TG} {vs : List Nat} {n : Nat} {X : Nat → Pr} (Inv : Nat → List Pr → Mp → Prop) (hw : IY wi δ μ n X μ1 kp) (hn : n ≤ 100000) (h0 : Inv 0 [] μ1)
    (hb : ∀ i ds μx, i < n → Inv i ds μx → ∃ δ'', G1 g (X i) (wipeY δ vs) δ'' vs ∧ EY te δ'' μx (fun Q μy => Inv (i + 1) (ds ++ [Q]) μy))
    (hk : ∀ i ds μx, Inv i ds μx → kp.Sublist μx) (hl : ∀ i ds μx, Inv i ds μx → ds.length = i) : EY (tLc wi g tYes te vs) δ μ (fun P μ2 => ∃ p ds μx, Inv n ds μx ∧ P = Av p ∧ μ2 = μx ++ [(p, OLP ds)]) := fun σ G M s m G1 H F e m1 Q q =>
  hw σ G M s m G1 H F e m1 _ fun J G2 M2 H2 e2 m2 r2 => by
    rintro ⟨⟨Gd, Y, W, hG, hY⟩⟩ D hD
    refine lc_it W (fun i H' => ∃ G' M' ws ds μx, Ex G2 G' ∧ Me G' (M' ++ (D, .lst ws) :: F) H' ∧ Mm G' M' μx ∧ AP G' ds ws ∧ Inv i ds μx) ?_ ?_ ?_ ?_
    · exact ⟨G2, M2, [], [], μ1, Ex.refl _, by rw [mem_mid]; exact m2.newMid hD, r2, trivial, h0⟩
    · rintro i H' _ ⟨G', M', ws, ds, μx, e', m', r', _, hI⟩
      obtain ⟨Mk, h1, h2⟩ := r'.sub (hk _ _ _ hI)
      exact hG G' M' _ H' Mk e' m' h1 h2
    · rintro i x H' H4 hi ⟨G', M', ws, ds, μx, e', m', r', da, hI⟩ y
      obtain ⟨Mk, hk1, hk2⟩ := r'.sub (hk _ _ _ hI)
      obtain ⟨G4, e4, m4, px⟩ := hY i G' M' _ H' x H4 Mk hi e' m' hk1 hk2 y
      obtain ⟨δ'', hg, he⟩ := hb i ds μx hi hI
      have s4 : Sl G4 (wipe σ vs) (wipeY δ vs) := (s.mono (((e.trans e2).trans e').trans e4)).wipe vs
      refine hg _ G4 M' _ H4 x s4 px m4 _ fun σ5 s5 w5 => ⟨by rw [w5.wipe, wipe_wipe], t_yes (δ := δ'') (μ := μx) σ5 G4 M' s5 (r'.mono e4) G4 H4 _ (Ex.refl _) m4 _ fun G5 M5 H5 e5 m5 r5 => ?_⟩
      have hlw : ws.length ≤ i := by rw [AP.len da, hl _ _ _ hI]; exact Nat.le_refl _
      rw [if_pos rfl]
      refine he σ5 G5 M5 (s5.mono e5) r5 G5 H5 _ (Ex.refl _) m5 _ fun y G6 M6 H6 e6 m6 r6 => ?_
      obtain ⟨P, μ2, hI2, r6, r7⟩ := r6
      have hm : (M6 ++ (D, HO.lst ws) :: F)[M6.length]? = some (D, .lst ws) := by
        rw [List.getElem?_append_right (Nat.le_refl _), Nat.sub_self]
        rfl
      refine ⟨ws, m6.get hm, sz_ok (by omega), G6, M6, ws ++ [y], ds ++ [P], μ2, ((e'.trans e4).trans e5).trans e6, ?_, r7, ?_, hI2⟩
      · have := m6.put (o' := .lst (ws ++ [y])) hm
        rw [List.set_append_right _ _ (Nat.le_refl _), Nat.sub_self] at this
        exact this
      · exact ap_snoc (AP.mono da ((e4.trans e5).trans e6)) r6
    · rintro H' ⟨G', M', ws, ds, μx, e', m', r', da, hI⟩
      rw [mem_mid] at m'
      exact q _ G' _ H' (e2.trans e') m' ⟨_, _, ⟨D, ds, μx, hI, rfl, rfl⟩, rfl, Mm.app r' ⟨⟨rfl, ws, rfl, da⟩, trivial⟩⟩
section
variable {te : TE} {tr ta : TA} {δ : En} {μ μ1 : Mp} {R : Pr → Mp → Prop} {X : List Pr → Mp → Prop} {P : Pr}
theorem ax_nil (h : X [] μ) : EAX tNil δ μ X := fun σ G M s m G1 H F e m1 Q z => z [] G1 M H [] μ (Ex.refl _) m1 h trivial (m.mono e)
theorem ax_1 (h : E1 te δ μ P μ1) (h2 : EAX tr δ μ1 (fun Ps μ2 => X (P :: Ps) μ2)) : EAX (tCons te tr) δ μ X := fun σ G M s m G1 H F e m1 Q z =>
  h σ G M s m G1 H F e m1 _ fun v G2 M2 H2 e2 m2 r2 => h2 σ G2 M2 (s.mono (e.trans e2)) r2.2 G2 H2 F (Ex.refl _) m2 _ fun vs G3 M3 H3 Ps μ3 e3 m3 x3 a3 r3 => z _ G3 M3 H3 _ _ (e2.trans e3) m3 x3 ⟨P.m _ _ _ e3 r2.1, a3⟩ r3
theorem ax_Y (h : EY te δ μ R) (h2 : ∀ q μ', R q μ' → EAX tr δ μ' (fun Ps μ2 => X (q :: Ps) μ2)) : EAX (tCons te tr) δ μ X := fun σ G M s m G1 H F e m1 Q z =>
  h σ G M s m G1 H F e m1 _ fun v G2 M2 H2 e2 m2 r2 => by
    obtain ⟨q, μ', r0, r1, r4⟩ := r2
    exact h2 q μ' r0 σ G2 M2 (s.mono (e.trans e2)) r4 G2 H2 F (Ex.refl _) m2 _ fun vs G3 M3 H3 Ps μ3 e3 m3 x3 a3 r3 => z _ G3 M3 H3 _ _ (e2.trans e3) m3 x3 ⟨q.m _ _ _ e3 r1, a3⟩ r3
theorem y_lstX (h : EAX ta δ μ X) (hl : ∀ Ps μ2, X Ps μ2 → Ps.length ≤ sizeLine) : EY (tLst ta) δ μ (fun P μ2 => ∃ p Ps μx, X Ps μx ∧ P = Av p ∧ μ2 = μx ++ [(p, OLP Ps)]) := fun σ G M s m G1 H F e m1 Q z =>
  h σ G M s m G1 H F e m1 _ fun vs G2 M2 H2 Ps μ2 e2 m2 x2 a2 r2 => ⟨by rw [AP.len a2]; exact hl Ps μ2 x2, fun p hp => by
    have m3 := m2.newMid (o := .lst vs) hp
    exact z _ G2 _ _ e2 m3 ⟨_, _, ⟨p, Ps, μ2, x2, rfl, rfl⟩, rfl, Mm.app r2 ⟨⟨rfl, vs, rfl, a2⟩, trivial⟩⟩⟩
end
def twM (K : PySem.W.Frag) (dk : Addr) (D : Deck) (ls : List Addr) (css : CssT) (es : List Addr) (dss : CssT) : Mp := (dk, DKo D) :: (shM K ls css ++ shM K es dss)
section
variable {K : PySem.W.Frag} {dk l e : Addr} {D : Deck} {ls es : List Addr} {css dss : CssT} {a : Nat} {c : List (List Int)}
theorem shM_len : ∀ {ls : List Addr} {css : CssT}, ls.length = List.length css → (shM K ls css).length = ls.length
  | [], _, _ => rfl
  | _ :: _, [], h => by cases h
  | _ :: ls, _ :: css, h => by
    show (shM K ls css).length + 1 = ls.length + 1
    rw [shM_len (by simpa using h)]
theorem twM_l (hl : ls[a]? = some l) (hc : css[a]? = some c) : (twM K dk D ls css es dss)[a + 1]? = some (l, OL K (c.map colD)) := by
  show (shM K ls css ++ shM K es dss)[a]? = _
  have h := shM_get (K := K) hl hc
  rw [List.getElem?_append_left (List.getElem?_eq_some_iff.mp h).1]
  exact h
theorem twM_e (h3 : ls.length = 3) (h4 : List.length css = 3) (hl : es[a]? = some e) (hc : dss[a]? = some c) : (twM K dk D ls css es dss)[a + 4]? = some (e, OL K (c.map colD)) := by
  show (shM K ls css ++ shM K es dss)[a + 3]? = _
  have h5 := shM_len (K := K) (h3.trans h4.symm)
  rw [List.getElem?_append_right (by omega), h5, h3, Nat.add_sub_cancel]
  exact shM_get hl hc
theorem twM_setl (h3 : ls.length = 3) (h4 : List.length css = 3) (hl : ls[a]? = some l) : (twM K dk D ls css es dss).set (a + 1) (l, OL K (c.map colD)) = twM K dk D ls (css.set a c) es dss := by
  have h5 := shM_len (K := K) (h3.trans h4.symm)
  have h6 := (List.getElem?_eq_some_iff.mp hl).1
  show (dk, DKo D) :: ((shM K ls css ++ shM K es dss).set a _) = _
  rw [List.set_append_left _ _ (by omega), shM_set hl]
  rfl
theorem twM_sete (h3 : ls.length = 3) (h4 : List.length css = 3) (hl : es[a]? = some e) : (twM K dk D ls css es dss).set (a + 4) (e, OL K (c.map colD)) = twM K dk D ls css es (dss.set a c) := by
  have h5 := shM_len (K := K) (h3.trans h4.symm)
  show (dk, DKo D) :: ((shM K ls css ++ shM K es dss).set (a + 3) _) = _
  rw [List.set_append_right _ _ (by omega), h5, h3, Nat.add_sub_cancel, shM_set hl]
  rfl
end
theorem right_less {b r : Int} {cs : List (List Int)} (g : GoodSh b r cs) : horner b (doCols b cs 0).1 (doCols b cs 0).2 - valueOf b cs = 0 := by
  have hb := g.b2
  rw [doCols_digs (by omega), Int.add_zero, horner_digs (by omega)]
  omega
def TY (tt : TT) (δ : En) (μ : Mp) (N : Bool → Mp → Prop) : Prop := ∀ σ G M, Sl G σ δ → Mm G M μ → ∀ G1 H F, Ex G G1 → Me G1 (M ++ F) H → ∀ Q : Bool → Hp → Prop, (∀ b μ' G2 M2 H2, N b μ' → Ex G1 G2 → Me G2 (M2 ++ F) H2 → Mm G2 M2 μ' → Q b H2) → tt σ H Q
section
variable {E : XK} {K : PySem.W.Frag} {te : TE} {tt tu : TT} {δ : En} {μ μ1 : Mp} {R : Pr → Mp → Prop} {N N1 : Bool → Mp → Prop} {a : Bool} {t u r : TS} {P : PY}
theorem ty_1 (h : T1 tt δ μ a μ1) (hN : N a μ1) : TY tt δ μ N := fun σ G M s m G1 H F e m1 Q q => h σ G M s m G1 H F e m1 Q fun G2 M2 H2 e2 m2 r2 => q a μ1 G2 M2 H2 hN e2 m2 r2
theorem ty_B (h : EY te δ μ R) (hR : ∀ q μ', R q μ' → ∃ b, q = D K (.bool b) ∧ N b μ') : TY (tB te) δ μ N := fun σ G M s m G1 H F e m1 Q q => h σ G M s m G1 H F e m1 _ fun x G2 M2 H2 e2 m2 r2 => by
  obtain ⟨p, μ', r0, r1, r3⟩ := r2
  obtain ⟨b, rfl, hN⟩ := hR p μ' r0
  rw [dp_bl r1]
  exact ⟨b, rfl, q b μ' G2 M2 H2 hN e2 m2 r3⟩
theorem ty_not (h : TY tt δ μ (fun b μ' => N (!b) μ')) : TY (tNot tt) δ μ N := fun σ G M s m G1 H F e m1 Q q => h σ G M s m G1 H F e m1 _ fun b μ' G2 M2 H2 hN e2 m2 r2 => q (!b) μ' G2 M2 H2 hN e2 m2 r2
theorem ty_or (h1 : TY tt δ μ N1) (h2 : ∀ μ1, N1 false μ1 → TY tu δ μ1 N) (h3 : ∀ μ1, N1 true μ1 → N true μ1) : TY (tOr tt tu) δ μ N := fun σ G M s m G1 H F e m1 Q q => h1 σ G M s m G1 H F e m1 _ fun b μ' G2 M2 H2 hN e2 m2 r2 => by
  cases b with
  | true =>
    show (if true = true then _ else _)
    rw [if_pos rfl]
    exact q true μ' G2 M2 H2 (h3 μ' hN) e2 m2 r2
  | false =>
    show (if false = true then _ else _)
    rw [if_neg Bool.false_ne_true]
    exact h2 μ' hN σ G2 M2 (s.mono (e.trans e2)) r2 G2 H2 F (Ex.refl _) m2 Q fun b μ2 G3 M3 H3 hN3 e3 m3 r3 => q b μ2 G3 M3 H3 hN3 (e2.trans e3) m3 r3
theorem sY_if (h : TY tt δ μ N) (k1 : ∀ μ', N true μ' → S1 E t δ μ' P) (k2 : ∀ μ', N false μ' → S1 E u δ μ' P) : S1 E (tIfS tt t u) δ μ P := fun σ G M s m G1 H F D e m1 hd =>
  h σ G M s m G1 H F e m1 _ fun b μ' G2 M2 H2 hN e2 m2 r2 => by
    cases b with
    | true =>
      show (if true = true then _ else _)
      rw [if_pos rfl]
      exact k1 μ' hN σ G2 M2 (s.mono (e.trans e2)) r2 G2 H2 F D (Ex.refl _) m2 (hd.up e2)
    | false =>
      show (if false = true then _ else _)
      rw [if_neg Bool.false_ne_true]
      exact k2 μ' hN σ G2 M2 (s.mono (e.trans e2)) r2 G2 H2 F D (Ex.refl _) m2 (hd.up e2)
theorem sY_ifr (h : TY tt δ μ N) (k1 : ∀ μ', N true μ' → S1 E t δ μ' { P with nx := fun δ' μ' => S1 E r δ' μ' P }) (k2 : ∀ μ', N false μ' → S1 E r δ μ' P) : S1 E (tSeq (tIfS tt t tNext) r) δ μ P :=
  s_seq (N := fun δ' μ' => S1 E r δ' μ' P) (sY_if h k1 fun μ' z => s_next (k2 μ' z)) fun _ _ z => z
end
end SY
set_option maxRecDepth 100000
set_option maxHeartbeats 4000000
namespace LW
open PySem L2 SX SY
local macro_rules | `(tactic| walk_at "ex") => `(tactic| first | exact Ex.refl _ | assumption | (refine Ex.trans ?_ (by assumption); walk_at "ex"))
local macro_rules | `(tactic| walk_at "dp") => `(tactic| first | assumption | exact ints_dpAll _ | (refine dm (by assumption) ?_; walk_at "ex") | (refine dma (by assumption) ?_; walk_at "ex"))
local macro_rules | `(tactic| walk_at "da") => `(tactic| first | assumption | (refine Da.of ?_; walk_at "dp") | (refine Da.ex (by assumption) ?_; walk_at "ex"))
local macro_rules | `(tactic| walk_at "at") => `(tactic| first | assumption | (refine At.ex (by assumption) ?_; walk_at "ex") | (refine AtL.ex (by assumption) ?_; walk_at "ex"))
local macro_rules | `(tactic| walk_at "sd") => `(tactic| first | assumption | rfl | decide | omega)
local macro_rules | `(tactic| walk_at "ln") => `(tactic| first | (simp only [List.length_cons, List.length_nil, List.length_map, List.length_append, List.length_replicate]; omega) | decide | (simp; done) | (simp; omega))
local macro_rules | `(tactic| walk_at "sd") => `(tactic| first | assumption | exact cdiv_small (by omega) (by omega) | omega | decide | rfl | (constructor <;> omega) | exact .inr ⟨by omega, by omega⟩ | exact .inl ⟨by omega, by omega⟩ | (refine ⟨?_, ?_⟩ <;> (simp only [List.length_map, List.length_range] at *; omega)) | (simp only [List.length_map, List.length_append, List.length_cons, List.length_nil, List.length_range] at *; omega) | exact ⟨by omega, by decide⟩)
local macro_rules | `(tactic| walk_at "sh") => `(tactic| first | assumption | exact shd_slips _ | exact shd_deeds _ | exact (sh_ints (n := 0) _).ok | exact (sh_col (n := 0) _).ok | exact (sh_cols (n := 0) _).ok | exact (sh_deed (n := 0) _).ok | exact (sh_slip (n := 0) _).ok | exact (sh_int (n := 0) _).ok | exact (sh_non (n := 0)).ok | decide | rfl)
local macro_rules | `(tactic| walk_at "qv") => `(tactic| first | assumption | (with_reducible refine eqv_same ?_; walk_at "sh") | exact eqv_lst _ _ | exact eqv_col _ _ | exact eqv_cols _ _ | rfl)
local macro_rules | `(tactic| walk_at "lr") => `(tactic| first | exact lr_D | exact lr_H | exact lr_O 0 rfl | exact lr_O 1 rfl | exact lr_O 2 rfl | exact lr_O 3 rfl | exact lr_O 4 rfl | with_reducible assumption | (refine lr_cons ?_; walk_at "lr"))
local macro_rules | `(tactic| walk_at "dr") => `(tactic| first | exact dr_D | ((with_reducible apply dr_L); walk_at "lr"))
local macro_rules | `(tactic| walk_at "hyp") => `(tactic| (intro hh; (try simp only [decide_eq_true_eq, decide_eq_false_iff_not, Bool.not_eq_true', Bool.not_eq_false', Bool.and_eq_true, Bool.or_eq_false_iff] at hh)))
local macro_rules | `(tactic| walk_at "ev") => `(tactic| first
  | with_reducible assumption
  | ((with_reducible apply e_var); rfl)
  | with_reducible exact e_cI (K := $(Lean.mkIdent `K))
  | with_reducible exact e_cS (K := $(Lean.mkIdent `K))
  | with_reducible exact e_cN (K := $(Lean.mkIdent `K))
  | with_reducible exact e_cB (K := $(Lean.mkIdent `K))
  | ((with_reducible apply e_cst); (· (intro; first | exact Dp.non | exact Dp.int _ | exact Dp.str _ | exact Dp.bl _)))
  | ((with_reducible apply e_ixS0 (K := $(Lean.mkIdent `K))); (· walk_at "ev"))
  | ((with_reducible apply e_ixS1 (K := $(Lean.mkIdent `K))); (· walk_at "ev"))
  | ((with_reducible apply e_word (K := $(Lean.mkIdent `K))); (· walk_at "ev"))
  | walk_at "call"
  | walk_at "ev2")
local macro_rules | `(tactic| walk_at "ev2") => `(tactic| first
  | ((with_reducible apply e_add (K := $(Lean.mkIdent `K))); (· walk_at "ev"); (· walk_at "ev"))
  | ((with_reducible apply e_sub (K := $(Lean.mkIdent `K))); (· walk_at "ev"); (· walk_at "ev"))
  | ((with_reducible apply e_mul (K := $(Lean.mkIdent `K))); (· walk_at "ev"); (· walk_at "ev"); (· walk_at "sd"))
  | ((with_reducible apply e_mod (K := $(Lean.mkIdent `K))); (· walk_at "ev"); (· walk_at "ev"); (· walk_at "sd"))
  | ((with_reducible apply e_div (K := $(Lean.mkIdent `K))); (· walk_at "ev"); (· walk_at "ev"); (· walk_at "sd"))
  | ((with_reducible apply e_pow (K := $(Lean.mkIdent `K))); (· walk_at "ev"); (· walk_at "ev"); (· walk_at "sd"))
  | ((with_reducible apply e_lt (K := $(Lean.mkIdent `K))); (· walk_at "ev"); (· walk_at "ev"))
  | ((with_reducible apply e_le (K := $(Lean.mkIdent `K))); (· walk_at "ev"); (· walk_at "ev"))
  | ((with_reducible apply e_gt (K := $(Lean.mkIdent `K))); (· walk_at "ev"); (· walk_at "ev"))
  | ((with_reducible apply e_ge (K := $(Lean.mkIdent `K))); (· walk_at "ev"); (· walk_at "ev"))
  | ((with_reducible apply e_eqI (K := $(Lean.mkIdent `K))); (· walk_at "ev"); (· walk_at "ev"))
  | ((with_reducible apply e_eqS (K := $(Lean.mkIdent `K))); (· walk_at "ev"); (· walk_at "ev"))
  | ((with_reducible apply e_neI (K := $(Lean.mkIdent `K))); (· walk_at "ev"); (· walk_at "ev"))
  | ((with_reducible apply e_neS (K := $(Lean.mkIdent `K))); (· walk_at "ev"); (· walk_at "ev"))
  | ((with_reducible apply e_eqNS (K := $(Lean.mkIdent `K))); (· walk_at "ev"); (· walk_at "ev"))
  | ((with_reducible apply e_eqIS (K := $(Lean.mkIdent `K))); (· walk_at "ev"); (· walk_at "ev"))
  | ((with_reducible apply e_eqB (K := $(Lean.mkIdent `K))); (· walk_at "ev"); (· walk_at "ev"))
  | ((with_reducible apply e_eqNil (K := $(Lean.mkIdent `K))); (· walk_at "ev"); (· walk_at "lr"); (· walk_at "sh"))
  | ((with_reducible apply e_neNil (K := $(Lean.mkIdent `K))); (· walk_at "ev"); (· walk_at "lr"); (· walk_at "sh"))
  | ((with_reducible apply e_eqD (K := $(Lean.mkIdent `K))); (· walk_at "ev"); (· walk_at "ev"); (· walk_at "dr"); (· walk_at "dr"); (· walk_at "sh"); (· walk_at "sh"); (· walk_at "qv"))
  | ((with_reducible apply e_neD (K := $(Lean.mkIdent `K))); (· walk_at "ev"); (· walk_at "ev"); (· walk_at "dr"); (· walk_at "dr"); (· walk_at "sh"); (· walk_at "sh"); (· walk_at "qv"))
  | ((with_reducible apply e_inD (K := $(Lean.mkIdent `K))); (· walk_at "ev"); (· walk_at "ev"); (· walk_at "dr"); (· walk_at "dr"); (· walk_at "sh"); (· walk_at "sh"); (· walk_at "qv"))
  | ((with_reducible apply e_ninD (K := $(Lean.mkIdent `K))); (· walk_at "ev"); (· walk_at "ev"); (· walk_at "dr"); (· walk_at "dr"); (· walk_at "sh"); (· walk_at "sh"); (· walk_at "qv"))
  | ((with_reducible apply e_neg (K := $(Lean.mkIdent `K))); (· walk_at "ev"))
  | ((with_reducible apply e_isN (K := $(Lean.mkIdent `K))); (· walk_at "ev"))
  | ((with_reducible apply e_notN (K := $(Lean.mkIdent `K))); (· walk_at "ev"))
  | walk_at "ev3")
local macro_rules | `(tactic| walk_at "ev3") => `(tactic| first
  | ((with_reducible apply e_and (K := $(Lean.mkIdent `K))); (· walk_at "ev"); (· walk_at "hyp"; walk_at "ev"))
  | ((with_reducible apply e_or (K := $(Lean.mkIdent `K))); (· walk_at "ev"); (· walk_at "hyp"; walk_at "ev"))
  | ((with_reducible apply e_not (K := $(Lean.mkIdent `K))); (· walk_at "ev"))
  | ((with_reducible apply e_ifTr); (· walk_at "tv"); (· rfl); (· walk_at "ev"))
  | ((with_reducible apply e_ifFa); (· walk_at "tv"); (· rfl); (· walk_at "ev"))
  | ((with_reducible apply e_ifI (K := $(Lean.mkIdent `K))); (· walk_at "tv"); (· walk_at "hyp"; walk_at "ev"); (· walk_at "hyp"; walk_at "ev"))
  | ((with_reducible apply e_ifD (K := $(Lean.mkIdent `K))); (· walk_at "tv"); (· walk_at "hyp"; walk_at "ev"); (· walk_at "hyp"; walk_at "ev"))
  | ((with_reducible apply e_chLeLe (K := $(Lean.mkIdent `K))); (· walk_at "ev"); (· walk_at "ev"); (· walk_at "ev"))
  | ((with_reducible apply e_chLeLt (K := $(Lean.mkIdent `K))); (· walk_at "ev"); (· walk_at "ev"); (· walk_at "ev"))
  | ((with_reducible apply e_ixT (K := $(Lean.mkIdent `K))); (· walk_at "ev"); (· walk_at "ev"); (· rfl))
  | ((with_reducible apply e_ixCI (K := $(Lean.mkIdent `K))); (· walk_at "ev"); (· walk_at "ev"); (· walk_at "sd"))
  | ((with_reducible apply e_ixTI (K := $(Lean.mkIdent `K))); (· walk_at "ev"); (· walk_at "ev"); (· walk_at "sd"))
  | ((with_reducible apply e_ixTp (K := $(Lean.mkIdent `K))); (· walk_at "ev"); (· walk_at "ev"); (· rfl))
  | ((with_reducible apply e_ixL (K := $(Lean.mkIdent `K))); (· walk_at "ev"); (· walk_at "ev"); (· walk_at "lr"); (· rfl))
  | ((with_reducible apply e_ixLI (K := $(Lean.mkIdent `K))); (· walk_at "ev"); (· walk_at "ev"); (· walk_at "lr"); (· walk_at "sd"))
  | ((with_reducible apply e_ixLC (K := $(Lean.mkIdent `K))); (· walk_at "ev"); (· walk_at "ev"); (· walk_at "lr"); (· walk_at "sd"))
  | ((with_reducible apply e_ixLD (K := $(Lean.mkIdent `K))); (· walk_at "ev"); (· walk_at "ev"); (· walk_at "lr"); (· walk_at "sd"))
  | ((with_reducible apply e_ixLp (K := $(Lean.mkIdent `K))); (· walk_at "ev"); (· walk_at "ev"); (· rfl))
  | ((with_reducible apply e_tup (K := $(Lean.mkIdent `K))); (· walk_at "ed"); (· walk_at "ln"))
  | ((with_reducible apply e_isi (K := $(Lean.mkIdent `K))); (· walk_at "ev"); (· (first | exact .inl rfl | exact .inr (.inl rfl) | exact .inr (.inr (.inl rfl)) | exact .inr (.inr (.inr (.inl rfl))) | exact .inr (.inr (.inr (.inr rfl))))))
  | ((with_reducible apply e_len (K := $(Lean.mkIdent `K))); (· walk_at "ev"); (· walk_at "lr"))
  | ((with_reducible apply e_lenT (K := $(Lean.mkIdent `K))); (· walk_at "ev"))
  | ((with_reducible apply e_tupL (K := $(Lean.mkIdent `K))); (· walk_at "ev"); (· walk_at "lr"))
  | ((with_reducible apply e_tupT (K := $(Lean.mkIdent `K))); (· walk_at "ev"))
  | ((with_reducible apply e_int (K := $(Lean.mkIdent `K))); (· walk_at "ev"))
  | ((with_reducible apply e_intB (K := $(Lean.mkIdent `K))); (· walk_at "ev"))
  | ((with_reducible apply e_allO (K := $(Lean.mkIdent `K))); (· walk_at "eo"))
  | ((with_reducible apply e_anyO (K := $(Lean.mkIdent `K))); (· walk_at "eo"))
  | ((with_reducible apply e_sumO (K := $(Lean.mkIdent `K))); (· walk_at "eo"))
  | ((with_reducible apply e_sum (K := $(Lean.mkIdent `K))); (· walk_at "ev"); (· walk_at "lr"))
  | ((with_reducible apply e_sumC (K := $(Lean.mkIdent `K))); (· walk_at "ev"))
  | ((with_reducible apply e_lenC (K := $(Lean.mkIdent `K))); (· walk_at "ev"))
  | ((with_reducible apply e_sumT (K := $(Lean.mkIdent `K))); (· walk_at "ev"))
  | ((with_reducible apply e_catT (K := $(Lean.mkIdent `K))); (· walk_at "ev"); (· walk_at "ev"); (· walk_at "sd"))
  | ((with_reducible apply e_slT (K := $(Lean.mkIdent `K))); (· walk_at "ev"); (· walk_at "oy"); (· walk_at "oy"))
  | ((with_reducible apply EO.frz (K := $(Lean.mkIdent `K))); (· walk_at "eo")))
local macro_rules | `(tactic| walk_at "eo") => `(tactic| first
  | with_reducible assumption
  | walk_at "ocall"
  | ((with_reducible apply o_lst (K := $(Lean.mkIdent `K))); (· walk_at "ed"); (· walk_at "ln"))
  | ((with_reducible apply o_listC (K := $(Lean.mkIdent `K))); (· walk_at "ev"))
  | ((with_reducible apply o_list (K := $(Lean.mkIdent `K))); (· walk_at "ev"); (· walk_at "lr"))
  | ((with_reducible apply o_listT (K := $(Lean.mkIdent `K))); (· walk_at "ev"))
  | ((with_reducible apply o_catM (K := $(Lean.mkIdent `K))); (· walk_at "ev"); (· walk_at "ev"); (· walk_at "lr"); (· walk_at "lr"); (· walk_at "sd"))
  | ((with_reducible apply o_cat (K := $(Lean.mkIdent `K))); (· walk_at "ev"); (· walk_at "ev"); (· walk_at "lr"); (· walk_at "lr"); (· walk_at "sd"))
  | ((with_reducible apply o_cut2 (K := $(Lean.mkIdent `K))); (· walk_at "ev"); (· walk_at "ev"); (· walk_at "ev"); (· walk_at "lr"); (· walk_at "sd"); (· walk_at "sd"))
  | ((with_reducible apply o_cutL (K := $(Lean.mkIdent `K))); (· walk_at "ev"); (· walk_at "ev"); (· walk_at "lr"); (· walk_at "sd"))
  | ((with_reducible apply o_cutH (K := $(Lean.mkIdent `K))); (· walk_at "ev"); (· walk_at "ev"); (· walk_at "lr"); (· walk_at "sd"))
  | ((with_reducible apply o_slM (K := $(Lean.mkIdent `K))); (· walk_at "ev"); (· walk_at "oy"); (· walk_at "oy"); (· walk_at "lr"))
  | ((with_reducible apply o_sl (K := $(Lean.mkIdent `K))); (· walk_at "ev"); (· walk_at "oy"); (· walk_at "oy"); (· walk_at "lr"))
  | ((with_reducible apply o_revM (K := $(Lean.mkIdent `K))); (· walk_at "ev"); (· walk_at "lr"))
  | ((with_reducible apply o_rev (K := $(Lean.mkIdent `K))); (· walk_at "ev"); (· walk_at "lr"))
  | ((with_reducible apply o_mapL (K := $(Lean.mkIdent `K))); (· walk_at "ev"); (· walk_at "sd"); (· intro x hx; walk_at "ev"); (· decide))
  | ((with_reducible apply o_mapT (K := $(Lean.mkIdent `K))); (· walk_at "ev"); (· walk_at "sd"); (· intro x hx; walk_at "ev"); (· decide))
  | ((with_reducible apply o_mapR (K := $(Lean.mkIdent `K))); (· walk_at "ev"); (· walk_at "sd"); (· intro x hx; walk_at "ev"); (· decide))
  | ((with_reducible apply o_mapR2 (K := $(Lean.mkIdent `K))); (· walk_at "ev"); (· walk_at "ev"); (· walk_at "sd"); (· intro x hx hy; walk_at "ev"); (· decide))
  | ((with_reducible apply o_filtL (K := $(Lean.mkIdent `K))); (· walk_at "ev"); (· walk_at "sd"); (· intro x hx; walk_at "tv"); (· intro x hx hy; walk_at "ev"); (· decide))
  | ((with_reducible apply o_filtR (K := $(Lean.mkIdent `K))); (· walk_at "ev"); (· walk_at "sd"); (· intro x hx; walk_at "tv"); (· intro x hx hy; walk_at "ev"); (· decide)))
local macro_rules | `(tactic| walk_at "tv") => `(tactic| first
  | with_reducible assumption
  | with_reducible exact t_yes
  | ((with_reducible apply t_not); (· walk_at "tv"))
  | ((with_reducible apply t_and); (· walk_at "tv"); (· walk_at "hyp"; walk_at "tv"))
  | ((with_reducible apply t_or); (· walk_at "tv"); (· walk_at "hyp"; walk_at "tv"))
  | ((with_reducible apply t_B (K := $(Lean.mkIdent `K))); (· walk_at "ev"))
  | ((with_reducible apply t_test (K := $(Lean.mkIdent `K))); (· walk_at "ev")))
local macro_rules | `(tactic| walk_at "oy") => `(tactic| first | with_reducible exact y_none | ((with_reducible apply y_some (K := $(Lean.mkIdent `K))); (· walk_at "ev")))
local macro_rules | `(tactic| walk_at "ea") => `(tactic| first | with_reducible exact a_nil | ((with_reducible apply a_cons); (· walk_at "ev"); (· walk_at "ea")))
local macro_rules | `(tactic| walk_at "ed") => `(tactic| first | with_reducible exact d_nil (K := $(Lean.mkIdent `K)) | ((with_reducible apply d_cons (K := $(Lean.mkIdent `K))); (· walk_at "ev"); (· walk_at "ed")) | ((with_reducible apply d_star (K := $(Lean.mkIdent `K))); (· walk_at "ev"); (· walk_at "lr"); (· walk_at "ed"); (· rfl)))
local macro_rules | `(tactic| walk_at "yle1") => `(tactic| first | with_reducible exact Le.refl _ | ((with_reducible refine Le.same ?_); walk_at "yle1") | ((with_reducible refine Le.drop ?_); walk_at "yle1") | (refine Le.same ?_; walk_at "yle1") | (refine Le.drop ?_; walk_at "yle1"))
local macro_rules | `(tactic| walk_at "le") => `(tactic| ((try dsimp only [List.set]); walk_at "yle1"))
local macro_rules | `(tactic| walk_at "let") => `(tactic| refine s_let (by walk_at "ev") ?_)
local macro_rules | `(tactic| walk_at "do") => `(tactic| refine s_do (by walk_at "ev") ?_)
local macro_rules | `(tactic| walk_at "ret") => `(tactic| refine s_ret (by walk_at "ev") ?_)
local macro_rules | `(tactic| walk_at "retD") => `(tactic| (refine s_ret (by walk_at "ev") ?_; refine back_D (imp_D ?_)))
local macro_rules | `(tactic| walk_at "ret=") => `(tactic| (refine s_ret (by walk_at "ev") ?_; refine back_D (imp_D ?_); rfl))
local macro_rules | `(tactic| walk_at "retK") => `(tactic| (refine s_ret (by walk_at "ev") ?_; refine back_K (imp_D ?_) ?_ <;> rfl))
local macro_rules | `(tactic| walk_at "no") => `(tactic| refine s_ifr (by walk_at "tv") (fun h => by cases h) (fun _ => ?_))
local macro_rules | `(tactic| walk_at "unp2") => `(tactic| refine s_unp2 (K := $(Lean.mkIdent `K)) (by walk_at "ev") ?_)
local macro_rules | `(tactic| walk_at "sr") => `(tactic| first | exact sr_F | with_reducible assumption | exact sr_O 0 rfl | exact sr_O 1 rfl | exact sr_O 2 rfl | exact sr_O 3 rfl | exact sr_O 4 rfl | (refine sr_cons ?_; walk_at "sr"))
local macro_rules | `(tactic| walk_at "call") => `(tactic| first
  | ((with_reducible apply e_draw); (· walk_at "ea"); (· walk_at "sd"))
  | ((with_reducible apply e_shBase); (· walk_at "ev"); (· walk_at "sr"))
  | ((with_reducible apply e_shRows); (· walk_at "ev"); (· walk_at "sr"))
  | ((with_reducible apply e_shVal); (· walk_at "ev"); (· walk_at "sr"); (· walk_at "sd"))
  | ((with_reducible apply e_shLen); (· walk_at "ev"); (· walk_at "sr"); (· walk_at "sd"))
  | ((with_reducible apply e_shIx); (· walk_at "ev"); (· walk_at "ev"); (· walk_at "sr"); (· walk_at "sd"))
  | ((with_reducible apply e_wrBase); (· walk_at "ev"))
  | ((with_reducible apply e_wrLast); (· walk_at "ev"))
  | ((with_reducible apply e_wrVal); (· walk_at "ev"); (· walk_at "sd"))
  | ((with_reducible apply e_wrRest); (· walk_at "ev"); (· walk_at "ev"); (· walk_at "sd"); (· walk_at "sd"))
  | ((with_reducible apply e_wrSub); (· walk_at "ev"); (· walk_at "ev"); (· walk_at "sr"); (· walk_at "sd"); (· walk_at "sd"); (· walk_at "sd"))
  | ((with_reducible apply e_wrEq); (· walk_at "ev"); (· walk_at "ev"))
  | ((with_reducible apply e_mkWr); (· walk_at "ev"); (· walk_at "ev"); (· walk_at "ev"); (· walk_at "lr"))
  | ((with_reducible apply e_shCmp); (· walk_at "ev"); (· walk_at "ev"); (· walk_at "sr"); (· walk_at "sr"))
  | ((with_reducible apply e_whole); (· walk_at "ea"))
  | ((with_reducible apply e_d1); (· walk_at "ea"))
  | ((with_reducible apply e_place); (· walk_at "ea"); (· walk_at "sd"))
  | ((with_reducible apply e_power); (· walk_at "ea"); (· walk_at "sd"); (· walk_at "sd"))
  | ((with_reducible apply e_lcol); (· walk_at "ea"); (· walk_at "sd"); (· walk_at "sd"))
  | ((with_reducible apply e_isiT2); (· walk_at "ev")))
local macro_rules | `(tactic| walk_at "ocall") => `(tactic| first
  | ((with_reducible apply o_shCols); (· walk_at "ev"); (· walk_at "sr"))
  | ((with_reducible apply o_wrFigs); (· walk_at "ev"))
  | ((with_reducible apply o_lcols); (· walk_at "ea"); (· walk_at "sd"); (· walk_at "sd"); (· walk_at "sd")))
local macro_rules | `(tactic| walk_at "bk") => `(tactic| (apply backY_mk; (· exact ⟨rfl, rfl⟩); (case hs => first | exact List.Sublist.refl _ | exact List.nil_sublist _ | exact List.sublist_cons_self _ _ | exact List.sublist_append_left _ _); refine imp_D ?_))
local macro_rules | `(tactic| walk_at "retR") => `(tactic| (refine s_ret (by walk_at "ev") ?_; walk_at "bk"))
local macro_rules | `(tactic| walk_at "retR=") => `(tactic| (walk_at "retR"; rfl))
local macro_rules | `(tactic| walk_at "call") => `(tactic| ((with_reducible apply e_lv); (· walk_at "ea"); (· walk_at "lr"); (· walk_at "sd"); (· walk_at "sd")))
local macro_rules | `(tactic| walk_at "Ret") => `(tactic| ((with_reducible apply s_ret); (· walk_at "ev")))
local macro_rules | `(tactic| walk_at "Let") => `(tactic| ((with_reducible apply s_let); (· walk_at "ev")))
local macro_rules | `(tactic| walk_at "Do") => `(tactic| ((with_reducible apply s_do); (· walk_at "ev")))
local macro_rules | `(tactic| walk_at "Own") => `(tactic| ((with_reducible apply s_own); (· walk_at "eo"); intro; (try simp only [List.nil_append, List.cons_append])))
local macro_rules | `(tactic| walk_at "Ifr") => `(tactic| ((with_reducible apply s_ifr); (· walk_at "tv")))
local macro_rules | `(tactic| walk_at "Ifs") => `(tactic| ((with_reducible apply s_ifs); (· walk_at "tv")))
local macro_rules | `(tactic| walk_at "If") => `(tactic| ((with_reducible apply s_if); (· walk_at "tv")))
local macro_rules | `(tactic| walk_at "No") => `(tactic| (walk_at "Ifr"; (· (intro hh; exfalso; revert hh; first | simp; done | (simp; omega))); intro _))
local macro_rules | `(tactic| walk_at "Unp") => `(tactic| first | ((with_reducible apply s_unp2); (· walk_at "ev")) | ((with_reducible apply s_unp3); (· walk_at "ev")) | ((with_reducible apply s_unp2P); (· walk_at "ev")))
local macro_rules | `(tactic| walk_at "go") => `(tactic| repeat (first | walk_at "Let" | walk_at "Do" | walk_at "Unp"))
local macro_rules | `(tactic| walk_at "Ff") => `(tactic| (walk_at "Ifr"; (· (intro hh; cases hh)); intro _))
local macro_rules | `(tactic| walk_at "Set") => `(tactic| ((with_reducible apply s_set); (· walk_at "ev")))
local macro_rules | `(tactic| walk_at "RetD") => `(tactic| (walk_at "Ret"; refine back_D (imp_D ?_)))
local macro_rules | `(tactic| walk_at "Tt") => `(tactic| (walk_at "Ifr"; rotate_left; (· (intro hh; cases hh)); intro _))
local macro_rules | `(tactic| walk_at "RetR") => `(tactic| (walk_at "Ret"; walk_at "bk"))
local macro_rules | `(tactic| walk_at "call") => `(tactic| ((with_reducible apply e_isiO (ic := ($(Lean.mkIdent `T)).ic_Written) (cl := ($(Lean.mkIdent `T)).cl_Written) (hk := ($(Lean.mkIdent `T)).io_Written)); (· walk_at "ev"); (· exact ins_wr)))
local macro_rules | `(tactic| walk_at "call") => `(tactic| ((with_reducible apply e_isiO (ic := ($(Lean.mkIdent `T)).ic_Sheet) (cl := ($(Lean.mkIdent `T)).cl_Sheet) (hk := ($(Lean.mkIdent `T)).io_Sheet)); (· walk_at "ev"); (· (apply ins_sh; walk_at "sr"))))
local macro_rules | `(tactic| walk_at "call") => `(tactic| first
  | (refine e_eqW .right rfl ?_; walk_at "ev")
  | (refine e_eqW .twice rfl ?_; walk_at "ev")
  | (refine e_eqW .out rfl ?_; walk_at "ev")
  | (refine e_eqW .swap rfl ?_; walk_at "ev")
  | (refine e_eqW .forget rfl ?_; walk_at "ev")
  | (refine e_eqW .again rfl ?_; walk_at "ev")
  | (refine e_neW .right rfl ?_; walk_at "ev")
  | (refine e_neW .twice rfl ?_; walk_at "ev")
  | (refine e_neW .out rfl ?_; walk_at "ev")
  | (refine e_neW .swap rfl ?_; walk_at "ev")
  | (refine e_neW .forget rfl ?_; walk_at "ev"))
local macro_rules | `(tactic| walk_at "rd") => `(tactic| first | exact rd_D | assumption | (refine rd_L ?_; walk_at "lr"))
local macro_rules | `(tactic| walk_at "call") => `(tactic| first
  | ((with_reducible apply e_fldP); (· walk_at "ev"); (· exact ($(Lean.mkIdent `T)).cl_Kind); (· first | exact ($(Lean.mkIdent `T)).na_Kind__base | exact ($(Lean.mkIdent `T)).na_Kind__rows | exact ($(Lean.mkIdent `T)).na_Kind__deeds | exact ($(Lean.mkIdent `T)).na_Kind__most); (· rfl))
  | ((with_reducible apply e_isiO (ic := ($(Lean.mkIdent `T)).ic_Kind) (cl := ($(Lean.mkIdent `T)).cl_Kind) (hk := ($(Lean.mkIdent `T)).io_Kind)); (· walk_at "ev"); (· exact ins_ob)))
def topS (i : Nat) : Stmt := PySem.Challenge.pw_sumslips_k13_whole_rows_and_columns_behi.main.body.getD i (.Pass ⟨0, 0, 0, 0⟩)
abbrev s_is_whole : Stmt := topS 19
abbrev s_is_column : Stmt := topS 26
abbrev s__are_columns : Stmt := topS 27
abbrev s_is_base : Stmt := topS 20
abbrev s_is_rows : Stmt := topS 21
abbrev s_Sheet___init__ : Stmt := inClass (topS 28) 0
abbrev s_Sheet_base : Stmt := inClass (topS 28) 1
abbrev s_Sheet_rows : Stmt := inClass (topS 28) 2
abbrev s_check_alike : Stmt := topS 24
abbrev s_Sheet___add__ : Stmt := inClass (topS 28) 10
abbrev s_Sheet___len__ : Stmt := inClass (topS 28) 5
abbrev s_place_value : Stmt := topS 22
abbrev s_Sheet_value : Stmt := inClass (topS 28) 4
abbrev s_Written_value : Stmt := inClass (topS 30) 4
abbrev s_Written___sub__ : Stmt := inClass (topS 30) 6
abbrev s_Written_figures : Stmt := inClass (topS 30) 2
abbrev s__law_power : Stmt := topS 35
abbrev s_Sheet_columns : Stmt := inClass (topS 28) 3
abbrev s_Written___init__ : Stmt := inClass (topS 30) 0
abbrev s_do_sum : Stmt := topS 7
abbrev s_do_columns : Stmt := topS 8
abbrev s_sum_taken : Stmt := topS 6
abbrev s_do_slip : Stmt := topS 9
abbrev s__is_plain : Stmt := topS 3
abbrev s_deeds_of : Stmt := topS 2
abbrev s_is_deed : Stmt := topS 4
abbrev s_is_slip : Stmt := topS 31
abbrev s_add_with : Stmt := topS 32
abbrev s__law_behind_right : Stmt := topS 46
abbrev s__law_cells : Stmt := topS 36
abbrev s__law_draw : Stmt := topS 38
abbrev s__law_column : Stmt := topS 39
abbrev s__law_columns : Stmt := topS 40
abbrev s__law_deck : Stmt := topS 37
abbrev s_Sheet_cut : Stmt := inClass (topS 28) 9
abbrev s__law_parts_right : Stmt := topS 52
abbrev s__law_deed : Stmt := topS 43
abbrev s__law_taken : Stmt := topS 41
abbrev s__law_step : Stmt := topS 42
abbrev s__law_plan : Stmt := topS 44
abbrev s_Written___eq__ : Stmt := inClass (topS 30) 7
abbrev s__law_deed_in : Stmt := topS 48
abbrev s__law_rows_order : Stmt := topS 47
abbrev s__law_rows_right : Stmt := topS 49
abbrev s__law_slips : Stmt := topS 45
abbrev s__law_moved : Stmt := topS 50
abbrev s__law_sums_right : Stmt := topS 51
abbrev s_Sheet___setitem__ : Stmt := inClass (topS 28) 7
abbrev s_add_right : Stmt := topS 33
abbrev s__law_twins_right : Stmt := topS 53
abbrev s_law : Stmt := topS 54
theorem sc_is_whole : FnScope ["value", "low", "high"] ["value", "low", "high"] (defScope s_is_whole) := ⟨rfl, rfl, rfl, by decide +kernel, rfl, by decide +kernel, by decide +kernel⟩
theorem sc_is_column : FnScope ["base", "rows", "value", "figure"] ["base", "rows", "value"] (defScope s_is_column) := ⟨rfl, rfl, rfl, by decide +kernel, rfl, by decide +kernel, by decide +kernel⟩
theorem sc__are_columns : FnScope ["base", "rows", "value", "column"] ["base", "rows", "value"] (defScope s__are_columns) := ⟨rfl, rfl, rfl, by decide +kernel, rfl, by decide +kernel, by decide +kernel⟩
theorem sc_is_base : FnScope ["value"] ["value"] (defScope s_is_base) := ⟨rfl, rfl, rfl, by decide +kernel, rfl, by decide +kernel, by decide +kernel⟩
theorem sc_is_rows : FnScope ["value"] ["value"] (defScope s_is_rows) := ⟨rfl, rfl, rfl, by decide +kernel, rfl, by decide +kernel, by decide +kernel⟩
theorem sc_Sheet___init__ : FnScope ["self", "base", "rows", "columns", "column"] ["self", "base", "rows", "columns"] (defScope s_Sheet___init__) := ⟨rfl, rfl, rfl, by decide +kernel, rfl, by decide +kernel, by decide +kernel⟩
theorem sc_Sheet_base : FnScope ["self"] ["self"] (defScope s_Sheet_base) := ⟨rfl, rfl, rfl, by decide +kernel, rfl, by decide +kernel, by decide +kernel⟩
theorem sc_Sheet_rows : FnScope ["self"] ["self"] (defScope s_Sheet_rows) := ⟨rfl, rfl, rfl, by decide +kernel, rfl, by decide +kernel, by decide +kernel⟩
theorem sc_check_alike : FnScope ["one", "other"] ["one", "other"] (defScope s_check_alike) := ⟨rfl, rfl, rfl, by decide +kernel, rfl, by decide +kernel, by decide +kernel⟩
theorem sc_Sheet___add__ : FnScope ["self", "other"] ["self", "other"] (defScope s_Sheet___add__) := ⟨rfl, rfl, rfl, by decide +kernel, rfl, by decide +kernel, by decide +kernel⟩
theorem sc_Sheet___len__ : FnScope ["self"] ["self"] (defScope s_Sheet___len__) := ⟨rfl, rfl, rfl, by decide +kernel, rfl, by decide +kernel, by decide +kernel⟩
theorem sc_place_value : FnScope ["base", "figures", "last", "value", "figure"] ["base", "figures", "last"] (defScope s_place_value) := ⟨rfl, rfl, rfl, by decide +kernel, rfl, by decide +kernel, by decide +kernel⟩
theorem sc_Sheet_value : FnScope ["self", "column"] ["self"] (defScope s_Sheet_value) := ⟨rfl, rfl, rfl, by decide +kernel, rfl, by decide +kernel, by decide +kernel⟩
theorem sc_Written_value : FnScope ["self"] ["self"] (defScope s_Written_value) := ⟨rfl, rfl, rfl, by decide +kernel, rfl, by decide +kernel, by decide +kernel⟩
theorem sc_Written___sub__ : FnScope ["self", "other"] ["self", "other"] (defScope s_Written___sub__) := ⟨rfl, rfl, rfl, by decide +kernel, rfl, by decide +kernel, by decide +kernel⟩
theorem sc_Written_figures : FnScope ["self"] ["self"] (defScope s_Written_figures) := ⟨rfl, rfl, rfl, by decide +kernel, rfl, by decide +kernel, by decide +kernel⟩
theorem sc__law_power : FnScope ["base", "many", "scale", "k"] ["base", "many"] (defScope s__law_power) := ⟨rfl, rfl, rfl, by decide +kernel, rfl, by decide +kernel, by decide +kernel⟩
theorem sc_Sheet_columns : FnScope ["self"] ["self"] (defScope s_Sheet_columns) := ⟨rfl, rfl, rfl, by decide +kernel, rfl, by decide +kernel, by decide +kernel⟩
theorem sc_Written___init__ : FnScope ["self", "base", "figures", "last"] ["self", "base", "figures", "last"] (defScope s_Written___init__) := ⟨rfl, rfl, rfl, by decide +kernel, rfl, by decide +kernel, by decide +kernel⟩
theorem sc_do_sum : FnScope ["base", "taken", "carry", "deed", "word", "total", "figure"] ["base", "taken", "carry", "deed"] (defScope s_do_sum) := ⟨rfl, rfl, rfl, by decide +kernel, rfl, by decide +kernel, by decide +kernel⟩
theorem sc_do_columns : FnScope ["base", "columns", "carry", "figures", "column", "right"] ["base", "columns", "carry"] (defScope s_do_columns) := ⟨rfl, rfl, rfl, by decide +kernel, rfl, by decide +kernel, by decide +kernel⟩
theorem sc_sum_taken : FnScope ["base", "column", "deed", "copied", "total", "figure"] ["base", "column", "deed", "copied"] (defScope s_sum_taken) := ⟨rfl, rfl, rfl, by decide +kernel, rfl, by decide +kernel, by decide +kernel⟩
theorem sc_do_slip : FnScope ["base", "columns", "at", "carry", "deed", "word", "copied", "done", "figures"] ["base", "columns", "at", "carry", "deed"] (defScope s_do_slip) := ⟨rfl, rfl, rfl, by decide +kernel, rfl, by decide +kernel, by decide +kernel⟩
theorem sc__is_plain : FnScope ["value", "item"] ["value"] (defScope s__is_plain) := ⟨rfl, rfl, rfl, by decide +kernel, rfl, by decide +kernel, by decide +kernel⟩
theorem sc_deeds_of : FnScope ["base", "rows", "offs", "reads", "copies", "by", "row"] ["base", "rows"] (defScope s_deeds_of) := ⟨rfl, rfl, rfl, by decide +kernel, rfl, by decide +kernel, by decide +kernel⟩
theorem sc_is_deed : FnScope ["base", "rows", "value"] ["base", "rows", "value"] (defScope s_is_deed) := ⟨rfl, rfl, rfl, by decide +kernel, rfl, by decide +kernel, by decide +kernel⟩
theorem sc_is_slip : FnScope ["sheet", "low", "value"] ["sheet", "low", "value"] (defScope s_is_slip) := ⟨rfl, rfl, rfl, by decide +kernel, rfl, by decide +kernel, by decide +kernel⟩
theorem sc_add_with : FnScope ["sheet", "slips", "base", "columns", "figures", "carry", "low", "index", "item", "right", "at", "deed", "done", "wrong"] ["sheet", "slips"] (defScope s_add_with) := ⟨rfl, rfl, rfl, by decide +kernel, rfl, by decide +kernel, by decide +kernel⟩
theorem sc__law_behind_right : FnScope ["sheet", "slips", "more", "base", "short", "long", "many"] ["sheet", "slips", "more", "base"] (defScope s__law_behind_right) := ⟨rfl, rfl, rfl, by decide +kernel, rfl, by decide +kernel, by decide +kernel⟩
theorem sc__law_cells : FnScope ["script"] ["script"] (defScope s__law_cells) := ⟨rfl, rfl, rfl, by decide +kernel, rfl, by decide +kernel, by decide +kernel⟩
theorem sc__law_draw : FnScope ["deck", "many", "stir", "drawn"] ["deck", "many"] (defScope s__law_draw) := ⟨rfl, rfl, rfl, by decide +kernel, rfl, by decide +kernel, by decide +kernel⟩
theorem sc__law_column : FnScope ["deck", "base", "rows", "way", "figures", "j"] ["deck", "base", "rows"] (defScope s__law_column) := ⟨rfl, rfl, rfl, by decide +kernel, rfl, by decide +kernel, by decide +kernel⟩
theorem sc__law_columns : FnScope ["deck", "base", "rows", "most", "many", "i"] ["deck", "base", "rows", "most"] (defScope s__law_columns) := ⟨rfl, rfl, rfl, by decide +kernel, rfl, by decide +kernel, by decide +kernel⟩
theorem sc__law_deck : FnScope ["cell"] ["cell"] (defScope s__law_deck) := ⟨rfl, rfl, rfl, by decide +kernel, rfl, by decide +kernel, by decide +kernel⟩
theorem sc_Sheet_cut : FnScope ["self", "low", "high"] ["self", "low", "high"] (defScope s_Sheet_cut) := ⟨rfl, rfl, rfl, by decide +kernel, rfl, by decide +kernel, by decide +kernel⟩
theorem sc__law_parts_right : FnScope ["sheet", "deeds", "slips", "figures", "i", "ahead", "part", "slip"] ["sheet", "deeds", "slips"] (defScope s__law_parts_right) := ⟨rfl, rfl, rfl, by decide +kernel, rfl, by decide +kernel, by decide +kernel⟩
theorem sc__law_deed : FnScope ["deck", "base", "rows", "way", "d", "j"] ["deck", "base", "rows"] (defScope s__law_deed) := ⟨rfl, rfl, rfl, by decide +kernel, rfl, by decide +kernel, by decide +kernel⟩
theorem sc__law_taken : FnScope ["base", "columns", "i", "deed", "figures"] ["base", "columns", "i", "deed"] (defScope s__law_taken) := ⟨rfl, rfl, rfl, by decide +kernel, rfl, by decide +kernel, by decide +kernel⟩
theorem sc__law_step : FnScope ["base", "columns", "i", "deed", "carry", "word", "total", "figure", "after"] ["base", "columns", "i", "deed", "carry"] (defScope s__law_step) := ⟨rfl, rfl, rfl, by decide +kernel, rfl, by decide +kernel, by decide +kernel⟩
theorem sc__law_plan : FnScope ["deck", "base", "rows", "columns", "often", "deeds", "carry", "i", "deed", "found"] ["deck", "base", "rows", "columns", "often"] (defScope s__law_plan) := ⟨rfl, rfl, rfl, by decide +kernel, rfl, by decide +kernel, by decide +kernel⟩
theorem sc_Written___eq__ : FnScope ["self", "other"] ["self", "other"] (defScope s_Written___eq__) := ⟨rfl, rfl, rfl, by decide +kernel, rfl, by decide +kernel, by decide +kernel⟩
theorem sc__law_deed_in : FnScope ["order", "deed"] ["order", "deed"] (defScope s__law_deed_in) := ⟨rfl, rfl, rfl, by decide +kernel, rfl, by decide +kernel, by decide +kernel⟩
theorem sc__law_rows_order : FnScope ["deck", "rows", "left", "order", "k"] ["deck", "rows"] (defScope s__law_rows_order) := ⟨rfl, rfl, rfl, by decide +kernel, rfl, by decide +kernel, by decide +kernel⟩
theorem sc__law_rows_right : FnScope ["deck", "sheet", "columns", "slips", "order", "turned", "others", "column", "i", "deed", "j"] ["deck", "sheet", "columns", "slips"] (defScope s__law_rows_right) := ⟨rfl, rfl, rfl, by decide +kernel, rfl, by decide +kernel, by decide +kernel⟩
theorem sc__law_slips : FnScope ["deeds", "i"] ["deeds"] (defScope s__law_slips) := ⟨rfl, rfl, rfl, by decide +kernel, rfl, by decide +kernel, by decide +kernel⟩
theorem sc__law_moved : FnScope ["deck", "column", "base", "figures", "one", "other", "part"] ["deck", "column", "base"] (defScope s__law_moved) := ⟨rfl, rfl, rfl, by decide +kernel, rfl, by decide +kernel, by decide +kernel⟩
theorem sc__law_sums_right : FnScope ["deck", "sheet", "columns", "slips", "others", "column", "slip"] ["deck", "sheet", "columns", "slips"] (defScope s__law_sums_right) := ⟨rfl, rfl, rfl, by decide +kernel, rfl, by decide +kernel, by decide +kernel⟩
theorem sc_Sheet___setitem__ : FnScope ["self", "at", "worth"] ["self", "at", "worth"] (defScope s_Sheet___setitem__) := ⟨rfl, rfl, rfl, by decide +kernel, rfl, by decide +kernel, by decide +kernel⟩
theorem sc_add_right : FnScope ["sheet"] ["sheet"] (defScope s_add_right) := ⟨rfl, rfl, rfl, by decide +kernel, rfl, by decide +kernel, by decide +kernel⟩
theorem sc__law_twins_right : FnScope ["deck", "sheet", "base", "rows", "columns", "split", "twins", "every", "turn", "which", "start", "k", "at", "column", "twin", "fresh"] ["deck", "sheet", "base", "rows", "columns"] (defScope s__law_twins_right) := ⟨rfl, rfl, rfl, by decide +kernel, rfl, by decide +kernel, by decide +kernel⟩
theorem sc_law : FnScope ["script", "cell", "deck", "often", "base", "rows", "columns", "more", "deeds", "slips", "sheet"] ["script"] (defScope s_law) := ⟨rfl, rfl, rfl, by decide +kernel, rfl, by decide +kernel, by decide +kernel⟩
structure Txt (K : PySem.W.Frag) (mg : Str → Option Value) where
  c_Sheet : Addr
  m_Sheet : mg "Sheet" = some (.ref c_Sheet)
  c_Written : Addr
  m_Written : mg "Written" = some (.ref c_Written)
  c_InvalidSheet : Addr
  m_InvalidSheet : mg "InvalidSheet" = some (.ref c_InvalidSheet)
  c_InvalidColumn : Addr
  m_InvalidColumn : mg "InvalidColumn" = some (.ref c_InvalidColumn)
  c_NotAlike : Addr
  m_NotAlike : mg "NotAlike" = some (.ref c_NotAlike)
  a_is_whole : Addr
  fd_is_whole : FuncData
  F_is_whole : Fun K "is_whole" "is_whole" s_is_whole a_is_whole fd_is_whole
  b_is_whole : Binds K fd_is_whole ["value", "low", "high"] []
  m_is_whole : mg "is_whole" = some (.ref a_is_whole)
  a_is_column : Addr
  fd_is_column : FuncData
  F_is_column : Fun K "is_column" "is_column" s_is_column a_is_column fd_is_column
  b_is_column : Binds K fd_is_column ["base", "rows", "value"] []
  m_is_column : mg "is_column" = some (.ref a_is_column)
  a__are_columns : Addr
  fd__are_columns : FuncData
  F__are_columns : Fun K "_are_columns" "_are_columns" s__are_columns a__are_columns fd__are_columns
  b__are_columns : Binds K fd__are_columns ["base", "rows", "value"] []
  m__are_columns : mg "_are_columns" = some (.ref a__are_columns)
  a_is_base : Addr
  fd_is_base : FuncData
  F_is_base : Fun K "is_base" "is_base" s_is_base a_is_base fd_is_base
  b_is_base : Binds K fd_is_base ["value"] []
  m_is_base : mg "is_base" = some (.ref a_is_base)
  a_is_rows : Addr
  fd_is_rows : FuncData
  F_is_rows : Fun K "is_rows" "is_rows" s_is_rows a_is_rows fd_is_rows
  b_is_rows : Binds K fd_is_rows ["value"] []
  m_is_rows : mg "is_rows" = some (.ref a_is_rows)
  a_Sheet___init__ : Addr
  fd_Sheet___init__ : FuncData
  F_Sheet___init__ : Fun K "__init__" "Sheet.__init__" s_Sheet___init__ a_Sheet___init__ fd_Sheet___init__
  b_Sheet___init__ : Binds K fd_Sheet___init__ ["self", "base", "rows", "columns"] []
  me_Sheet___init__ : Meth K c_Sheet "__init__" a_Sheet___init__
  a_Sheet_base : Addr
  fd_Sheet_base : FuncData
  F_Sheet_base : Fun K "base" "Sheet.base" s_Sheet_base a_Sheet_base fd_Sheet_base
  b_Sheet_base : Binds K fd_Sheet_base ["self"] []
  pa_Sheet_base : Addr
  p_Sheet_base : PropOf K c_Sheet "base" pa_Sheet_base a_Sheet_base
  a_Sheet_rows : Addr
  fd_Sheet_rows : FuncData
  F_Sheet_rows : Fun K "rows" "Sheet.rows" s_Sheet_rows a_Sheet_rows fd_Sheet_rows
  b_Sheet_rows : Binds K fd_Sheet_rows ["self"] []
  pa_Sheet_rows : Addr
  p_Sheet_rows : PropOf K c_Sheet "rows" pa_Sheet_rows a_Sheet_rows
  a_check_alike : Addr
  fd_check_alike : FuncData
  F_check_alike : Fun K "check_alike" "check_alike" s_check_alike a_check_alike fd_check_alike
  b_check_alike : Binds K fd_check_alike ["one", "other"] []
  m_check_alike : mg "check_alike" = some (.ref a_check_alike)
  a_Sheet___add__ : Addr
  fd_Sheet___add__ : FuncData
  F_Sheet___add__ : Fun K "__add__" "Sheet.__add__" s_Sheet___add__ a_Sheet___add__ fd_Sheet___add__
  b_Sheet___add__ : Binds K fd_Sheet___add__ ["self", "other"] []
  me_Sheet___add__ : Meth K c_Sheet "__add__" a_Sheet___add__
  a_Sheet___len__ : Addr
  fd_Sheet___len__ : FuncData
  F_Sheet___len__ : Fun K "__len__" "Sheet.__len__" s_Sheet___len__ a_Sheet___len__ fd_Sheet___len__
  b_Sheet___len__ : Binds K fd_Sheet___len__ ["self"] []
  me_Sheet___len__ : Meth K c_Sheet "__len__" a_Sheet___len__
  a_place_value : Addr
  fd_place_value : FuncData
  F_place_value : Fun K "place_value" "place_value" s_place_value a_place_value fd_place_value
  b_place_value : Binds K fd_place_value ["base", "figures", "last"] []
  m_place_value : mg "place_value" = some (.ref a_place_value)
  a_Sheet_value : Addr
  fd_Sheet_value : FuncData
  F_Sheet_value : Fun K "value" "Sheet.value" s_Sheet_value a_Sheet_value fd_Sheet_value
  b_Sheet_value : Binds K fd_Sheet_value ["self"] []
  pa_Sheet_value : Addr
  p_Sheet_value : PropOf K c_Sheet "value" pa_Sheet_value a_Sheet_value
  a_Written_value : Addr
  fd_Written_value : FuncData
  F_Written_value : Fun K "value" "Written.value" s_Written_value a_Written_value fd_Written_value
  b_Written_value : Binds K fd_Written_value ["self"] []
  pa_Written_value : Addr
  p_Written_value : PropOf K c_Written "value" pa_Written_value a_Written_value
  a_Written___sub__ : Addr
  fd_Written___sub__ : FuncData
  F_Written___sub__ : Fun K "__sub__" "Written.__sub__" s_Written___sub__ a_Written___sub__ fd_Written___sub__
  b_Written___sub__ : Binds K fd_Written___sub__ ["self", "other"] []
  me_Written___sub__ : Meth K c_Written "__sub__" a_Written___sub__
  a_Written_figures : Addr
  fd_Written_figures : FuncData
  F_Written_figures : Fun K "figures" "Written.figures" s_Written_figures a_Written_figures fd_Written_figures
  b_Written_figures : Binds K fd_Written_figures ["self"] []
  pa_Written_figures : Addr
  p_Written_figures : PropOf K c_Written "figures" pa_Written_figures a_Written_figures
  a__law_power : Addr
  fd__law_power : FuncData
  F__law_power : Fun K "_law_power" "_law_power" s__law_power a__law_power fd__law_power
  b__law_power : Binds K fd__law_power ["base", "many"] []
  m__law_power : mg "_law_power" = some (.ref a__law_power)
  a_Sheet_columns : Addr
  fd_Sheet_columns : FuncData
  F_Sheet_columns : Fun K "columns" "Sheet.columns" s_Sheet_columns a_Sheet_columns fd_Sheet_columns
  b_Sheet_columns : Binds K fd_Sheet_columns ["self"] []
  pa_Sheet_columns : Addr
  p_Sheet_columns : PropOf K c_Sheet "columns" pa_Sheet_columns a_Sheet_columns
  a_Written___init__ : Addr
  fd_Written___init__ : FuncData
  F_Written___init__ : Fun K "__init__" "Written.__init__" s_Written___init__ a_Written___init__ fd_Written___init__
  b_Written___init__ : Binds K fd_Written___init__ ["self", "base", "figures", "last"] []
  me_Written___init__ : Meth K c_Written "__init__" a_Written___init__
  a_do_sum : Addr
  fd_do_sum : FuncData
  F_do_sum : Fun K "do_sum" "do_sum" s_do_sum a_do_sum fd_do_sum
  b_do_sum : Binds K fd_do_sum ["base", "taken", "carry", "deed"] []
  m_do_sum : mg "do_sum" = some (.ref a_do_sum)
  a_do_columns : Addr
  fd_do_columns : FuncData
  F_do_columns : Fun K "do_columns" "do_columns" s_do_columns a_do_columns fd_do_columns
  b_do_columns : Binds K fd_do_columns ["base", "columns", "carry"] []
  m_do_columns : mg "do_columns" = some (.ref a_do_columns)
  a_sum_taken : Addr
  fd_sum_taken : FuncData
  F_sum_taken : Fun K "sum_taken" "sum_taken" s_sum_taken a_sum_taken fd_sum_taken
  b_sum_taken : Binds K fd_sum_taken ["base", "column", "deed", "copied"] []
  m_sum_taken : mg "sum_taken" = some (.ref a_sum_taken)
  a_do_slip : Addr
  fd_do_slip : FuncData
  F_do_slip : Fun K "do_slip" "do_slip" s_do_slip a_do_slip fd_do_slip
  b_do_slip : Binds K fd_do_slip ["base", "columns", "at", "carry", "deed"] []
  m_do_slip : mg "do_slip" = some (.ref a_do_slip)
  a__is_plain : Addr
  fd__is_plain : FuncData
  F__is_plain : Fun K "_is_plain" "_is_plain" s__is_plain a__is_plain fd__is_plain
  b__is_plain : Binds K fd__is_plain ["value"] []
  m__is_plain : mg "_is_plain" = some (.ref a__is_plain)
  a_deeds_of : Addr
  fd_deeds_of : FuncData
  F_deeds_of : Fun K "deeds_of" "deeds_of" s_deeds_of a_deeds_of fd_deeds_of
  b_deeds_of : Binds K fd_deeds_of ["base", "rows"] []
  m_deeds_of : mg "deeds_of" = some (.ref a_deeds_of)
  a_is_deed : Addr
  fd_is_deed : FuncData
  F_is_deed : Fun K "is_deed" "is_deed" s_is_deed a_is_deed fd_is_deed
  b_is_deed : Binds K fd_is_deed ["base", "rows", "value"] []
  m_is_deed : mg "is_deed" = some (.ref a_is_deed)
  a_is_slip : Addr
  fd_is_slip : FuncData
  F_is_slip : Fun K "is_slip" "is_slip" s_is_slip a_is_slip fd_is_slip
  b_is_slip : Binds K fd_is_slip ["sheet", "low", "value"] []
  m_is_slip : mg "is_slip" = some (.ref a_is_slip)
  a_add_with : Addr
  fd_add_with : FuncData
  F_add_with : Fun K "add_with" "add_with" s_add_with a_add_with fd_add_with
  b_add_with : Binds K fd_add_with ["sheet", "slips"] []
  m_add_with : mg "add_with" = some (.ref a_add_with)
  a__law_behind_right : Addr
  fd__law_behind_right : FuncData
  F__law_behind_right : Fun K "_law_behind_right" "_law_behind_right" s__law_behind_right a__law_behind_right fd__law_behind_right
  b__law_behind_right : Binds K fd__law_behind_right ["sheet", "slips", "more", "base"] []
  m__law_behind_right : mg "_law_behind_right" = some (.ref a__law_behind_right)
  a__law_cells : Addr
  fd__law_cells : FuncData
  F__law_cells : Fun K "_law_cells" "_law_cells" s__law_cells a__law_cells fd__law_cells
  b__law_cells : Binds K fd__law_cells ["script"] []
  m__law_cells : mg "_law_cells" = some (.ref a__law_cells)
  a__law_draw : Addr
  fd__law_draw : FuncData
  F__law_draw : Fun K "_law_draw" "_law_draw" s__law_draw a__law_draw fd__law_draw
  b__law_draw : Binds K fd__law_draw ["deck", "many"] []
  m__law_draw : mg "_law_draw" = some (.ref a__law_draw)
  a__law_column : Addr
  fd__law_column : FuncData
  F__law_column : Fun K "_law_column" "_law_column" s__law_column a__law_column fd__law_column
  b__law_column : Binds K fd__law_column ["deck", "base", "rows"] []
  m__law_column : mg "_law_column" = some (.ref a__law_column)
  a__law_columns : Addr
  fd__law_columns : FuncData
  F__law_columns : Fun K "_law_columns" "_law_columns" s__law_columns a__law_columns fd__law_columns
  b__law_columns : Binds K fd__law_columns ["deck", "base", "rows", "most"] []
  m__law_columns : mg "_law_columns" = some (.ref a__law_columns)
  a__law_deck : Addr
  fd__law_deck : FuncData
  F__law_deck : Fun K "_law_deck" "_law_deck" s__law_deck a__law_deck fd__law_deck
  b__law_deck : Binds K fd__law_deck ["cell"] []
  m__law_deck : mg "_law_deck" = some (.ref a__law_deck)
  a_Sheet_cut : Addr
  fd_Sheet_cut : FuncData
  F_Sheet_cut : Fun K "cut" "Sheet.cut" s_Sheet_cut a_Sheet_cut fd_Sheet_cut
  b_Sheet_cut : Binds K fd_Sheet_cut ["self", "low", "high"] []
  me_Sheet_cut : Meth K c_Sheet "cut" a_Sheet_cut
  a__law_parts_right : Addr
  fd__law_parts_right : FuncData
  F__law_parts_right : Fun K "_law_parts_right" "_law_parts_right" s__law_parts_right a__law_parts_right fd__law_parts_right
  b__law_parts_right : Binds K fd__law_parts_right ["sheet", "deeds", "slips"] []
  m__law_parts_right : mg "_law_parts_right" = some (.ref a__law_parts_right)
  a__law_deed : Addr
  fd__law_deed : FuncData
  F__law_deed : Fun K "_law_deed" "_law_deed" s__law_deed a__law_deed fd__law_deed
  b__law_deed : Binds K fd__law_deed ["deck", "base", "rows"] []
  m__law_deed : mg "_law_deed" = some (.ref a__law_deed)
  a__law_taken : Addr
  fd__law_taken : FuncData
  F__law_taken : Fun K "_law_taken" "_law_taken" s__law_taken a__law_taken fd__law_taken
  b__law_taken : Binds K fd__law_taken ["base", "columns", "i", "deed"] []
  m__law_taken : mg "_law_taken" = some (.ref a__law_taken)
  a__law_step : Addr
  fd__law_step : FuncData
  F__law_step : Fun K "_law_step" "_law_step" s__law_step a__law_step fd__law_step
  b__law_step : Binds K fd__law_step ["base", "columns", "i", "deed", "carry"] []
  m__law_step : mg "_law_step" = some (.ref a__law_step)
  a__law_plan : Addr
  fd__law_plan : FuncData
  F__law_plan : Fun K "_law_plan" "_law_plan" s__law_plan a__law_plan fd__law_plan
  b__law_plan : Binds K fd__law_plan ["deck", "base", "rows", "columns", "often"] []
  m__law_plan : mg "_law_plan" = some (.ref a__law_plan)
  a_Written___eq__ : Addr
  fd_Written___eq__ : FuncData
  F_Written___eq__ : Fun K "__eq__" "Written.__eq__" s_Written___eq__ a_Written___eq__ fd_Written___eq__
  b_Written___eq__ : Binds K fd_Written___eq__ ["self", "other"] []
  me_Written___eq__ : Meth K c_Written "__eq__" a_Written___eq__
  a__law_deed_in : Addr
  fd__law_deed_in : FuncData
  F__law_deed_in : Fun K "_law_deed_in" "_law_deed_in" s__law_deed_in a__law_deed_in fd__law_deed_in
  b__law_deed_in : Binds K fd__law_deed_in ["order", "deed"] []
  m__law_deed_in : mg "_law_deed_in" = some (.ref a__law_deed_in)
  a__law_rows_order : Addr
  fd__law_rows_order : FuncData
  F__law_rows_order : Fun K "_law_rows_order" "_law_rows_order" s__law_rows_order a__law_rows_order fd__law_rows_order
  b__law_rows_order : Binds K fd__law_rows_order ["deck", "rows"] []
  m__law_rows_order : mg "_law_rows_order" = some (.ref a__law_rows_order)
  a__law_rows_right : Addr
  fd__law_rows_right : FuncData
  F__law_rows_right : Fun K "_law_rows_right" "_law_rows_right" s__law_rows_right a__law_rows_right fd__law_rows_right
  b__law_rows_right : Binds K fd__law_rows_right ["deck", "sheet", "columns", "slips"] []
  m__law_rows_right : mg "_law_rows_right" = some (.ref a__law_rows_right)
  a__law_slips : Addr
  fd__law_slips : FuncData
  F__law_slips : Fun K "_law_slips" "_law_slips" s__law_slips a__law_slips fd__law_slips
  b__law_slips : Binds K fd__law_slips ["deeds"] []
  m__law_slips : mg "_law_slips" = some (.ref a__law_slips)
  a__law_moved : Addr
  fd__law_moved : FuncData
  F__law_moved : Fun K "_law_moved" "_law_moved" s__law_moved a__law_moved fd__law_moved
  b__law_moved : Binds K fd__law_moved ["deck", "column", "base"] []
  m__law_moved : mg "_law_moved" = some (.ref a__law_moved)
  a__law_sums_right : Addr
  fd__law_sums_right : FuncData
  F__law_sums_right : Fun K "_law_sums_right" "_law_sums_right" s__law_sums_right a__law_sums_right fd__law_sums_right
  b__law_sums_right : Binds K fd__law_sums_right ["deck", "sheet", "columns", "slips"] []
  m__law_sums_right : mg "_law_sums_right" = some (.ref a__law_sums_right)
  a_Sheet___setitem__ : Addr
  fd_Sheet___setitem__ : FuncData
  F_Sheet___setitem__ : Fun K "__setitem__" "Sheet.__setitem__" s_Sheet___setitem__ a_Sheet___setitem__ fd_Sheet___setitem__
  b_Sheet___setitem__ : Binds K fd_Sheet___setitem__ ["self", "at", "worth"] []
  me_Sheet___setitem__ : Meth K c_Sheet "__setitem__" a_Sheet___setitem__
  a_add_right : Addr
  fd_add_right : FuncData
  F_add_right : Fun K "add_right" "add_right" s_add_right a_add_right fd_add_right
  b_add_right : Binds K fd_add_right ["sheet"] []
  m_add_right : mg "add_right" = some (.ref a_add_right)
  a__law_twins_right : Addr
  fd__law_twins_right : FuncData
  F__law_twins_right : Fun K "_law_twins_right" "_law_twins_right" s__law_twins_right a__law_twins_right fd__law_twins_right
  b__law_twins_right : Binds K fd__law_twins_right ["deck", "sheet", "base", "rows", "columns"] []
  m__law_twins_right : mg "_law_twins_right" = some (.ref a__law_twins_right)
  a_law : Addr
  fd_law : FuncData
  F_law : Fun K "law" "law" s_law a_law fd_law
  b_law : Binds K fd_law ["script"] []
  m_law : mg "law" = some (.ref a_law)
  cl_Sheet : Cls K c_Sheet
  k_Sheet : Mk K c_Sheet a_Sheet___init__
  na_Sheet__base : NoAttr K c_Sheet "_base"
  na_Sheet__columns : NoAttr K c_Sheet "_columns"
  na_Sheet__rows : NoAttr K c_Sheet "_rows"
  ns_Sheet : PySem.W.noSeq K c_Sheet = true
  sf_Sheet : PySem.W.selfFirst K c_Sheet = true
  cl_Written : Cls K c_Written
  k_Written : Mk K c_Written a_Written___init__
  na_Written__base : NoAttr K c_Written "_base"
  na_Written__figures : NoAttr K c_Written "_figures"
  na_Written__last : NoAttr K c_Written "_last"
  sf_Written : PySem.W.selfFirst K c_Written = true
  ic_Sheet : IsCls K c_Sheet
  io_Sheet : PySem.W.kitOne K (.ref c_Sheet) (.ref c_Sheet) = some true
  ic_Written : IsCls K c_Written
  io_Written : PySem.W.kitOne K (.ref c_Written) (.ref c_Written) = some true
  nop_Sheet_sub : NoOp K c_Sheet "sub"
  ne_Written_Sheet : c_Written ≠ c_Sheet
  do_Written : DataOut K c_Written
  x_InvalidColumn : PySem.W.excIn K c_InvalidColumn [.type "ValueError", .type "Exception", .type "BaseException", .type "object"] "ValueError.__new__" = true
  xk_InvalidColumn : PySem.W.keepIn K (.ref c_InvalidColumn) = true
  xb_InvalidColumn : PySem.W.subIn K (.ref c_InvalidColumn) (.type "BaseException") = some true
  xt_InvalidColumn : PySem.W.typeIn K (.ref c_InvalidColumn) = some (.type "type")
  x_InvalidSheet : PySem.W.excIn K c_InvalidSheet [.type "ValueError", .type "Exception", .type "BaseException", .type "object"] "ValueError.__new__" = true
  xk_InvalidSheet : PySem.W.keepIn K (.ref c_InvalidSheet) = true
  xb_InvalidSheet : PySem.W.subIn K (.ref c_InvalidSheet) (.type "BaseException") = some true
  xt_InvalidSheet : PySem.W.typeIn K (.ref c_InvalidSheet) = some (.type "type")
  x_NotAlike : PySem.W.excIn K c_NotAlike [.type "ValueError", .type "Exception", .type "BaseException", .type "object"] "ValueError.__new__" = true
  xk_NotAlike : PySem.W.keepIn K (.ref c_NotAlike) = true
  xb_NotAlike : PySem.W.subIn K (.ref c_NotAlike) (.type "BaseException") = some true
  xt_NotAlike : PySem.W.typeIn K (.ref c_NotAlike) = some (.type "type")
  n_all : mg "all" = none
  n_bool : mg "bool" = none
  n_enumerate : mg "enumerate" = none
  n_int : mg "int" = none
  n_isinstance : mg "isinstance" = none
  n_len : mg "len" = none
  n_list : mg "list" = none
  n_min : mg "min" = none
  n_range : mg "range" = none
  n_str : mg "str" = none
  n_sum : mg "sum" = none
  n_tuple : mg "tuple" = none
  tk_MOST_BASE : Tok
  m_MOST_BASE : mg "MOST_BASE" = some (.int 12 tk_MOST_BASE)
  tk_MOST_ROWS : Tok
  m_MOST_ROWS : mg "MOST_ROWS" = some (.int 4 tk_MOST_ROWS)
section
variable {P : Program} {w : World} {K : PySem.W.Frag} {mg : Str → Option Value} {base : Heap}
theorem ok_is_whole (T : Txt K mg) : FnOk P w K mg base CX0 1 T.a_is_whole T.fd_is_whole ["value", "low", "high"] (spec (wholePre K) wholePost) := by
  refine fn_sv T.F_is_whole sc_is_whole (fun x G M vs h => by obtain ⟨v, rfl, _⟩ := h; rfl) fun cdv A outer s H E hr => ⟨_, (pss_one (ps_ret (pe_and (pe_callB (k_isi (K := K) rfl) (by rfl) T.n_isinstance (by decide +kernel) (pa_cons (pv 0) (pa_cons (pe_bltn (v := .ty "int") (by rfl) T.n_int (by decide +kernel) rfl) pa_nil))) (pe_and (pe_not (pe_callB (k_isi (K := K) rfl) (by rfl) T.n_isinstance (by decide +kernel) (pa_cons (pv 0) (pa_cons (pe_bltn (v := .ty "bool") (by rfl) T.n_bool (by decide +kernel) rfl) pa_nil)))) (pe_one (pe_chain op_le op_le (pv 1) (pv 0) (pv 2))))))), ?_⟩
  rintro ⟨d, lo, hi⟩ G M vs ⟨v, rfl, (dv : Dp K G v d)⟩
  refine sv_ret (ev_andV (ev_isi (.inl rfl) (ev_varP rfl dv)) fun h1 => ev_andV (b := decide (lo ≤ intOf d) && decide (intOf d ≤ hi)) (ev_notV (ev_isi (.inr (.inl rfl)) (ev_varP rfl dv))) fun h2 => ?_) fun v' G' M' e r => ?_
  · have hd := isInt_of h1 (by simpa using h2)
    refine ev_chainI (i := lo) (j := intOf d) (k := hi) (P := fun i j => decide (i ≤ j)) (P' := fun i j => decide (i ≤ j)) (ev_var rfl) (ev_dI (K := K) (ev_varP rfl (by rw [hd] at dv; exact dv))) (ev_var rfl) (fun _ _ q => ⟨_, _, rfl, rfl, q⟩) (fun _ _ q => ⟨_, _, rfl, rfl, q⟩)
  · obtain ⟨rfl, rfl⟩ := r
    refine ⟨?_, rfl⟩
    show V.bl (isTy d "int" && (!isTy d "bool" && _)) = V.bl (isInt d && _)
    rw [← isInt_ty, Bool.and_assoc]
theorem ok_is_column (T : Txt K mg) : FnOk P w K mg base CX0 2 T.a_is_column T.fd_is_column ["base", "rows", "value"] (spec (colPre K) (colPost isCol)) := by
  refine fn_sv T.F_is_column sc_is_column (fun x G M vs h => by obtain ⟨v, rfl, _⟩ := h; rfl) fun cdv A outer s H E hr => ⟨_, (pss_cons (ps_if (PW.pt (pw_or (pt_not (pt_val (pe_callB (k_isi (K := K) rfl) (by rfl) T.n_isinstance (by decide +kernel) (pa_cons (pv 2) (pa_cons (pe_bltn (v := .ty "tuple") (by rfl) T.n_tuple (by decide +kernel) rfl) pa_nil))))) (pw_or1 (pt_cmpR op_ne (pe_callB (k_len (K := K) rfl) (by rfl) T.n_len (by decide +kernel) (pa_cons (pv 2) pa_nil)) (pv 1) (nomark _))))) (pss_one (ps_ret (pe_bl))) (pss_nil)) (pss_one (ps_ret (pe_callB (k_all (K := K) rfl rfl) (by rfl) T.n_all (by decide +kernel) (pa_cons (pe_lc (own := [("figure", 3)]) (g := gName 3) (tt := tYes) rfl sc_is_column.nd (pi_tup (pv 2)) (blkOk_by (N := ["base", "rows", "value", "figure"]) (sc := defScope s_is_column) (by decide +kernel)) (fun _ _ _ _ _ => pg_name (i := 3) sc_is_column.nd rfl (Or.inl rfl)) (fun _ _ _ _ _ => pts_nil) (fun _ _ _ _ _ => pe_call (ok_is_whole T) (hr.mono (by decide)) (by rfl) T.m_is_whole T.F_is_whole.kp T.b_is_whole .nil pass0 (pa_cons (pv 3) (pa_cons (pe_int) (pa_cons (pe_op op_sub (pv 0) (pe_int)) pa_nil))))) pa_nil))))), ?_⟩
  rintro ⟨b, r, d⟩ G M vs ⟨v, rfl, (dv : Dp K G v d), (hz : dlen d ≤ 100000)⟩
  refine sv_ifs (et_or (b := !decide ((dlen d : Int) = r)) (et_not (et_B (ev_isi (.inr (.inr (.inl rfl))) (ev_varP rfl dv)))) ?_) ?_ ?_
  · intro h
    obtain ⟨ds, rfl⟩ := tup_of (by simpa using h)
    exact et_test (ev_neI (ev_lenT (K := K) (ev_varP rfl dv)) (ev_var rfl))
  · intro G1 e1 hb
    refine sv_ret ev_c fun v' G' M' e r => ?_
    obtain ⟨rfl, rfl⟩ := r
    refine ⟨?_, rfl⟩
    show V.bl false = V.bl (isCol b r d)
    cases d with
    | tuple ds =>
      rw [isTy_tup] at hb
      have : ¬ ((ds.length : Int) = r) := fun z => by simp [dlen, z] at hb
      simp [isCol, this]
    | _ => rfl
  · intro G1 e1 hb
    refine sv_next fun G2 e2 => ?_
    have hb' : isTy d "tuple" = true ∧ (dlen d : Int) = r := by simpa using hb
    obtain ⟨ds, rfl⟩ := tup_of hb'.1
    have hl : (ds.length : Int) = r := hb'.2
    have e12 := e1.trans e2
    refine sv_ret (ev_allT (K := K) (f := fun d => isWhole d 0 (b - 1)) (ev_varP rfl (dm dv e12)) hz (fun i d x G' hd e dx => ?_) (fun _ => rfl)) fun v' G' M' e r' => ?_
    · exact ev_whole (ea_cons (ev_varP rfl dx) (ea_cons ev_c (ea_cons (ev_I0 (ev_var rfl) ev_c) ea_nil)))
    · obtain ⟨rfl, rfl⟩ := r'
      refine ⟨?_, rfl⟩
      show V.bl _ = V.bl (isCol b r (.tuple ds))
      simp [isCol, hl]
theorem ok__are_columns (T : Txt K mg) : FnOk P w K mg base CX0 3 T.a__are_columns T.fd__are_columns ["base", "rows", "value"] (spec (colsPre K) (colPost areCols)) := by
  refine fn_sv T.F__are_columns sc__are_columns (fun x G M vs h => by obtain ⟨v, rfl, _⟩ := h; rfl) fun cdv A outer s H E hr => ⟨_, (pss_cons (ps_if (pt_not (pt_val (pe_callB (k_isi (K := K) rfl) (by rfl) T.n_isinstance (by decide +kernel) (pa_cons (pv 2) (pa_cons (pe_bltn (v := .ty "list") (by rfl) T.n_list (by decide +kernel) rfl) pa_nil))))) (pss_one (ps_ret (pe_bl))) (pss_nil)) (pss_one (ps_ret (pe_callB (k_all (K := K) rfl rfl) (by rfl) T.n_all (by decide +kernel) (pa_cons (pe_lc (own := [("column", 3)]) (g := gName 3) (tt := tYes) rfl sc__are_columns.nd (pi_list (pv 2)) (blkOk_by (N := ["base", "rows", "value", "column"]) (sc := defScope s__are_columns) (by decide +kernel)) (fun _ _ _ _ _ => pg_name (i := 3) sc__are_columns.nd rfl (Or.inl rfl)) (fun _ _ _ _ _ => pts_nil) (fun _ _ _ _ _ => pe_call (ok_is_column T) (hr.mono (by decide)) (by rfl) T.m_is_column T.F_is_column.kp T.b_is_column .nil pass0 (pa_cons (pv 0) (pa_cons (pv 1) (pa_cons (pv 3) pa_nil))))) pa_nil))))), ?_⟩
  rintro ⟨b, r, d⟩ G M vs ⟨v, rfl, (dt : Dt K G M v d), (hz : dlen d ≤ 100000), (hy : ∀ ds, d = .list ds → ∀ c ∈ ds, dlen c ≤ 100000)⟩
  refine sv_ifs (et_not (et_B (ev_isiA (K := K) (.inr (.inr (.inr (.inl rfl)))) (ev_var rfl) dt.da))) ?_ ?_
  · intro G1 e1 hb
    refine sv_ret ev_c fun v' G' M' e r' => ?_
    obtain ⟨rfl, rfl⟩ := r'
    refine ⟨?_, rfl⟩
    show V.bl false = V.bl (areCols b r d)
    cases d with
    | list ds =>
      rw [isTy_lst] at hb
      cases hb
    | _ => rfl
  · intro G1 e1 hb
    refine sv_next fun G2 e2 => ?_
    have hb' : isTy d "list" = true := by simpa using hb
    obtain ⟨ds, rfl⟩ := lst_of hb'
    have e12 := e1.trans e2
    obtain ⟨a, xs, rfl, hA, hd⟩ := dt.lst
    refine sv_ret (ev_allA (K := K) (f := fun d => isCol b r d) (ev_var rfl) (hA.ex e12) (dma hd e12) hz (fun i d x G' hd e dx => ?_) (fun _ => rfl)) fun v' G' M' e r' => ?_
    · exact ev_col (f := isCol) (ea_cons (ev_var rfl) (ea_cons (ev_var rfl) (ea_cons (ev_varP rfl dx) ea_nil))) (hy ds rfl d (List.mem_of_getElem? hd))
    · obtain ⟨rfl, rfl⟩ := r'
      refine ⟨?_, rfl⟩
      show V.bl _ = V.bl (areCols b r (.list ds))
      rfl
theorem ok_is_base (T : Txt K mg) : FnOk P w K mg base CX0 2 T.a_is_base T.fd_is_base ["value"] (spec (d1Pre K) (b1Post fun d => isWhole d 2 12)) := by
  refine fn_sv T.F_is_base sc_is_base (fun x G M vs h => by obtain ⟨v, rfl, _⟩ := h; rfl) fun cdv A outer s H E hr => ⟨_, (pss_one (ps_ret (pe_call (ok_is_whole T) (hr.mono (by decide)) (by rfl) T.m_is_whole T.F_is_whole.kp T.b_is_whole .nil pass0 (pa_cons (pv 0) (pa_cons (pe_int) (pa_cons (pe_glob (v := .int 12) (by rfl) T.m_MOST_BASE ⟨_, rfl⟩) pa_nil)))))), ?_⟩
  rintro d G M vs ⟨v, rfl, dv⟩
  exact sv_ret (ev_whole (ea_cons (ev_varP rfl dv) (ea_cons ev_c (ea_cons ev_c ea_nil)))) fun v' G' M' e r => r
theorem ok_is_rows (T : Txt K mg) : FnOk P w K mg base CX0 2 T.a_is_rows T.fd_is_rows ["value"] (spec (d1Pre K) (b1Post fun d => isWhole d 1 4)) := by
  refine fn_sv T.F_is_rows sc_is_rows (fun x G M vs h => by obtain ⟨v, rfl, _⟩ := h; rfl) fun cdv A outer s H E hr => ⟨_, (pss_one (ps_ret (pe_call (ok_is_whole T) (hr.mono (by decide)) (by rfl) T.m_is_whole T.F_is_whole.kp T.b_is_whole .nil pass0 (pa_cons (pv 0) (pa_cons (pe_int) (pa_cons (pe_glob (v := .int 4) (by rfl) T.m_MOST_ROWS ⟨_, rfl⟩) pa_nil)))))), ?_⟩
  rintro d G M vs ⟨v, rfl, dv⟩
  exact sv_ret (ev_whole (ea_cons (ev_varP rfl dv) (ea_cons ev_c (ea_cons ev_c ea_nil)))) fun v' G' M' e r => r
theorem ok_Sheet___init__ (T : Txt K mg) : FnOk P w K mg base (L2.CX P w) 4 T.a_Sheet___init__ T.fd_Sheet___init__ ["self", "base", "rows", "columns"] (specX (initPre K T.c_Sheet) (initPost K T.c_Sheet) (initExc T.c_InvalidSheet)) := by
  refine fn_svX T.F_Sheet___init__ sc_Sheet___init__ (fun x G M vs h => by obtain ⟨rfl, _⟩ := h; rfl) fun cdv A outer s H E hr => ⟨_, (pss_cons (ps_if (pt_not (pt_val (pe_call (ok_is_base T) (hr.mono (by decide)) (by rfl) T.m_is_base T.F_is_base.kp T.b_is_base .nil pass0 (pa_cons (pv 1) pa_nil)))) (pss_one (ps_raise rfl (takes_of rfl rfl rfl rfl) (pmk_own PySem.F.excBase_ValueError T.x_InvalidSheet T.m_InvalidSheet T.xk_InvalidSheet (raises_own T.xb_InvalidSheet T.xt_InvalidSheet) rfl))) (pss_nil)) (pss_cons (ps_if (pt_not (pt_val (pe_call (ok_is_rows T) (hr.mono (by decide)) (by rfl) T.m_is_rows T.F_is_rows.kp T.b_is_rows .nil pass0 (pa_cons (pv 2) pa_nil)))) (pss_one (ps_raise rfl (takes_of rfl rfl rfl rfl) (pmk_own PySem.F.excBase_ValueError T.x_InvalidSheet T.m_InvalidSheet T.xk_InvalidSheet (raises_own T.xb_InvalidSheet T.xt_InvalidSheet) rfl))) (pss_nil)) (pss_cons (ps_if (pt_not (pt_val (pe_call (ok__are_columns T) (hr.mono (by decide)) (by rfl) T.m__are_columns T.F__are_columns.kp T.b__are_columns .nil pass0 (pa_cons (pv 1) (pa_cons (pv 2) (pa_cons (pv 3) pa_nil)))))) (pss_one (ps_raise rfl (takes_of rfl rfl rfl rfl) (pmk_own PySem.F.excBase_ValueError T.x_InvalidSheet T.m_InvalidSheet T.xk_InvalidSheet (raises_own T.xb_InvalidSheet T.xt_InvalidSheet) rfl))) (pss_nil)) (pss_cons (ps_fld (pv 0) (pv 1) rfl) (pss_cons (ps_fld (pv 0) (pv 2) rfl) (pss_one (ps_fld (pv 0) (pe_lc (own := [("column", 4)]) (g := gName 4) (tt := tYes) rfl sc_Sheet___init__.nd (pi_list (pv 3)) (blkOk_by (N := ["self", "base", "rows", "columns", "column"]) (sc := defScope s_Sheet___init__) (by decide +kernel)) (fun _ _ _ _ _ => pg_name (i := 4) sc_Sheet___init__.nd rfl (Or.inl rfl)) (fun _ _ _ _ _ => pts_nil) (fun _ _ _ _ _ => pe_callTy (k_tup (K := K) rfl) (by rfl) T.n_tuple (by decide +kernel) (pa_cons (pv 4) pa_nil))) rfl))))))), ?_⟩
  rintro ⟨p, dx, vb, vr, vc, db, dr, dc⟩ G M vs ⟨rfl, M0, rfl, (hdb : Dp K G vb db), (hdr : Dp K G vr dr), (hdc : Dt K G M0 vc dc), (hz : dlen dc ≤ 100000), (hy : ∀ ds, dc = .list ds → ∀ c ∈ ds, dlen c ≤ 100000)⟩
  refine sv_ifs (et_not (et_B (ev_d1 (K := K) (ev_varP rfl hdb)))) (fun G1 e1 hb => sv_raise fun G2 e2 => ?_) fun G1 e1 hb => sv_next fun G2 e2 => ?_
  · exact ⟨by show (_ && _) = false; rw [show isWhole db 2 12 = false by simpa using hb]; rfl, rfl, rfl, rfl⟩
  have hw1 : isWhole db 2 12 = true := by simpa using hb
  refine sv_ifs (et_not (et_B (ev_d1 (K := K) (ev_varP rfl (dm hdr (e1.trans e2)))))) (fun G1 e1 hb => sv_raise fun G2 e2 => ?_) fun G3 e3 hb => sv_next fun G4 e4 => ?_
  · exact ⟨by show (_ && (_ && _)) = false; rw [show isWhole dr 1 4 = false by simpa using hb]; simp, rfl, rfl, rfl⟩
  have hw2 : isWhole dr 1 4 = true := by simpa using hb
  obtain ⟨b, rfl, b2, b12⟩ := whole_int hw1
  obtain ⟨r, rfl, r1, r4⟩ := whole_int hw2
  obtain rfl := dp_int hdb
  obtain rfl := dp_int hdr
  have e14 := ((e1.trans e2).trans e3).trans e4
  have hdc' : Dt K G4 (M0 ++ [(p, HO.ins T.c_Sheet dx [])]) vc dc := by
    rcases hdc with h | ⟨a, xs, ds, h1, h2, h3, h4⟩
    · exact .inl (dm h e14)
    · exact .inr ⟨a, xs, ds, h1, h2, h3.more.ex e14, dma h4 e14⟩
  refine sv_ifs (et_not (et_B (ev_cols (K := K) (f := areCols) (ea_cons (ev_var rfl) (ea_cons (ev_var rfl) (ea_cons (ev_var rfl) ea_nil))) hdc' hz hy))) (fun G1 e1 hb => sv_raise fun G2 e2 => ?_) fun G5 e5 hb => sv_next fun G6 e6 => ?_
  · exact ⟨by show (_ && (_ && areCols b r dc)) = false; rw [show areCols b r dc = false by simpa using hb]; simp, rfl, rfl, rfl⟩
  have hac : areCols b r dc = true := by simpa using hb
  obtain ⟨ds, rfl⟩ : ∃ ds, dc = .list ds := by
    cases dc with
    | list ds => exact ⟨ds, rfl⟩
    | _ => cases hac
  obtain ⟨a, xs, rfl, hA, hd⟩ := hdc.lst
  have hall : ∀ d ∈ ds, isCol b r d = true := List.all_eq_true.mp hac
  have hok : okSh (.int b) (.int r) (.list ds) = true := by
    unfold okSh
    rw [hw1, hw2]
    exact hac
  have e16 := (e14.trans e5).trans e6
  have hn0 : (M0 ++ [(p, HO.ins T.c_Sheet dx [])])[M0.length]? = some (p, .ins T.c_Sheet dx []) := by simp
  refine sv_seq (N := fun G' σ' M' => σ' = [some (.ref p), some (.int b), some (.int r), some (.ref a), none] ∧ M' = M0 ++ [(p, .ins T.c_Sheet dx (putF "_base" (.int b) []))]) (sv_fld (p := p) (C := T.c_Sheet) (dx := dx) (fs := []) (n := M0.length) (ev_var rfl) (fun G1 v' M1 e hR => ?_) T.cl_Sheet T.na_Sheet__base (by decide) fun G1 G2 v' M1 e e' hR => ?_) ?_
  · obtain ⟨rfl, rfl⟩ := hR
    exact ⟨ev_var rfl, hn0⟩
  · obtain ⟨rfl, rfl⟩ := hR
    exact ⟨rfl, by simp [List.set_append]⟩
  rintro G7 σ7 M7 e7 ⟨rfl, rfl⟩
  refine sv_seq (N := fun G' σ' M' => σ' = [some (.ref p), some (.int b), some (.int r), some (.ref a), none] ∧ M' = M0 ++ [(p, .ins T.c_Sheet dx (putF "_rows" (.int r) (putF "_base" (.int b) [])))]) (sv_fld (p := p) (C := T.c_Sheet) (dx := dx) (fs := putF "_base" (.int b) []) (n := M0.length) (ev_var rfl) (fun G1 v' M1 e hR => ?_) T.cl_Sheet T.na_Sheet__rows (by show 1 < 1000; decide) fun G1 G2 v' M1 e e' hR => ?_) ?_
  · obtain ⟨rfl, rfl⟩ := hR
    exact ⟨ev_var rfl, by simp⟩
  · obtain ⟨rfl, rfl⟩ := hR
    exact ⟨rfl, by simp [List.set_append]⟩
  rintro G8 σ8 M8 e8 ⟨rfl, rfl⟩
  refine sv_fld (fs := putF "_rows" (.int r) (putF "_base" (.int b) [])) (n := M0.length) (R := own K ds (M0 ++ [(p, .ins T.c_Sheet dx (putF "_rows" (.int r) (putF "_base" (.int b) [])))])) (p := p) (C := T.c_Sheet) (dx := dx) ?_ (fun G1 v' M1 e hR => ?_) T.cl_Sheet T.na_Sheet__columns (by show 2 < 1000; decide) fun G1 G2 v' M1 e e' hR => ?_
  · refine ev_mapA (K := K) (own' := [4]) (p := a) (xs := xs) (ds := ds) (k := 4) (fun i => (ds[i]?).getD .none) (ev_var rfl) (hA.more.ex ((e16.trans e7).trans e8)) (dma hd ((e16.trans e7).trans e8)) hz (fun i d x G' hd e dx => ?_) (fun _ => rfl) (kept_ids _)
    rw [hd]
    obtain ⟨c, rfl, _⟩ := isCol_of (hall d (List.mem_of_getElem? hd))
    exact ev_tupT (ev_varP rfl dx)
  · obtain ⟨l, ys, rfl, rfl, hdy⟩ := hR
    exact ⟨ev_var rfl, by simp⟩
  · obtain ⟨l, ys, rfl, rfl, hdy⟩ := hR
    exact ⟨hok, rfl, l, ys, M0, ds, rfl, rfl, by simp [List.set_append, shF], dma hdy e'⟩
theorem okG_Sheet___init__ (T : Txt K mg) : FnOk P w K mg base (L2.CX P w) 4 T.a_Sheet___init__ T.fd_Sheet___init__ ["self", "base", "rows", "columns"] (spec (mkShPre K T.c_Sheet) (mkShPost K T.c_Sheet)) :=
  (ok_Sheet___init__ T).imp fun vs H Q E h => by
    obtain ⟨⟨p, dx, b, r, cs⟩, G, M, F, m, ⟨a, xs, M0, rfl, rfl, hA, hd, g⟩, q⟩ := h
    have g : GoodSh b r cs := g
    refine ⟨⟨p, dx, .int b, .int r, .ref a, .int b, .int r, .list (cs.map colD)⟩, G, _, F, m, ⟨rfl, M0, rfl, .int b, .int r, .inr ⟨a, xs, _, rfl, rfl, hA, hd⟩, ?_, ?_⟩, fun v G' M' H' e' m' r' => ?_, fun c d G' M' H' e' m' r' => ?_⟩
    · show (cs.map colD).length ≤ 100000
      have := g.len
      rw [List.length_map]
      omega
    · intro ds hds c hc
      cases hds
      obtain ⟨c', hc', rfl⟩ := List.mem_map.mp hc
      rw [dlen_colD]
      have := g.clen hc'
      omega
    · obtain ⟨_, rfl, l, ys, M0', ds, h1, h2, rfl, h4⟩ := r'
      cases h2
      exact q _ G' _ H' e' m' ⟨rfl, l, ys, M0', h1, rfl, h4⟩
    · have hz : okSh (.int b) (.int r) (.list (cs.map colD)) = false := r'.1
      rw [okSh_good g] at hz
      cases hz
theorem ok_Sheet_base (T : Txt K mg) : FnOk P w K mg base CX0 1 T.a_Sheet_base T.fd_Sheet_base ["self"] (spec (shPre K T.c_Sheet) fun x M => isV (.int x.2.1) M) := by
  refine fn_sv T.F_Sheet_base sc_Sheet_base (fun x G M vs h => by obtain ⟨rfl, _⟩ := h; rfl) fun cdv A outer s H E hr => ⟨_, (pss_one (ps_ret (k_fld (K := K) rfl (pv 0) rfl))), ?_⟩
  rintro ⟨p, b, r, cs⟩ G M vs ⟨rfl, dx, l, xs, h1, h2, h3⟩
  exact sv_ret (ev_fld (ev_var rfl) h1 T.cl_Sheet T.na_Sheet__base shF_b) fun v' G' M' e r => r
theorem ok_Sheet_rows (T : Txt K mg) : FnOk P w K mg base CX0 1 T.a_Sheet_rows T.fd_Sheet_rows ["self"] (spec (shPre K T.c_Sheet) fun x M => isV (.int x.2.2.1) M) := by
  refine fn_sv T.F_Sheet_rows sc_Sheet_rows (fun x G M vs h => by obtain ⟨rfl, _⟩ := h; rfl) fun cdv A outer s H E hr => ⟨_, (pss_one (ps_ret (k_fld (K := K) rfl (pv 0) rfl))), ?_⟩
  rintro ⟨p, b, r, cs⟩ G M vs ⟨rfl, dx, l, xs, h1, h2, h3⟩
  exact sv_ret (ev_fld (ev_var rfl) h1 T.cl_Sheet T.na_Sheet__rows shF_r) fun v' G' M' e r => r
abbrev alkPre (K : PySem.W.Frag) (C : Addr) : ((Addr × Int × Int × List (List Int)) × (Addr × Int × Int × List (List Int))) → Hp → Mem → List V → Prop := fun x G M vs => vs = [.ref x.1.1, .ref x.2.1] ∧ ShAt K C G M x.1.1 x.1.2.1 x.1.2.2.1 x.1.2.2.2 ∧ ShAt K C G M x.2.1 x.2.2.1 x.2.2.2.1 x.2.2.2.2
abbrev alkPost : ((Addr × Int × Int × List (List Int)) × (Addr × Int × Int × List (List Int))) → Mem → Post := fun x M G v M' => (x.1.2.1 = x.2.2.1 ∧ x.1.2.2.1 = x.2.2.2.1) ∧ M' = M
theorem sv_dropCS {α : Type} {pre : α → Hp → Mem → List V → Prop} {post : α → Mem → Post} {exc : α → Mem → Value → Option Addr → Hp → Mem → Prop} {E : XK} {EE : L2.St → XK} {tA : TA} {σ : L2.St} {G : Hp} {M M1 : Mem} {Ps : List (Hp → V → Prop)} {P : Po} (xx : α) (hE : EE σ = E) (h : EvA tA σ G M Ps M1) (hp : ∀ G1 vs, Ex G G1 → AllP G1 Ps vs → pre xx G1 M1 vs) (hq : ∀ G1 v M2, Ex G G1 → post xx M1 G1 v M2 → P.nx G1 σ M2) (hx : ∀ c d G1 M2, Ex G G1 → exc xx M1 c d G1 M2 → P.ex c d G1 M2) : Sv E (tDrop (tCallS (specX pre post exc) EE tA)) σ G M P := fun G1 H F D e m hd =>
  h G1 H F e m _ fun vs G2 H2 e2 m2 a => by
    refine ⟨xx, G2, M1, F, m2, hp G2 vs (e.trans e2) a, fun v G3 M3 H3 e3 m3 r => hd.nx σ G3 M3 H3 (e2.trans e3) m3 (hq G3 v M3 ((e.trans e2).trans e3) r), fun c d G3 M3 H3 e3 m3 r => ?_⟩
    rw [hE]
    exact hd.ex c d G3 M3 H3 (e2.trans e3) m3 (hx c d G3 M3 ((e.trans e2).trans e3) r)
theorem ok_check_alike (T : Txt K mg) : FnOk P w K mg base (L2.CX P w) 4 T.a_check_alike T.fd_check_alike ["one", "other"] (specX (alkPre K T.c_Sheet) alkPost (addExc T.c_NotAlike)) := by
  refine fn_svX T.F_check_alike sc_check_alike (fun x G M vs h => by obtain ⟨rfl, _⟩ := h; rfl) fun cdv A outer s H E hr => ⟨_, (pss_one (ps_if (PW.pt (pw_or (pt_cmpR op_ne (pe_prop (pv 0) T.cl_Sheet T.p_Sheet_base (ok_Sheet_base T) (hr.mono (by decide)) T.b_Sheet_base .nil pass0 rfl) (pe_prop (pv 1) T.cl_Sheet T.p_Sheet_base (ok_Sheet_base T) (hr.mono (by decide)) T.b_Sheet_base .nil pass0 rfl) (nomark _)) (pw_or1 (pt_cmpR op_ne (pe_prop (pv 0) T.cl_Sheet T.p_Sheet_rows (ok_Sheet_rows T) (hr.mono (by decide)) T.b_Sheet_rows .nil pass0 rfl) (pe_prop (pv 1) T.cl_Sheet T.p_Sheet_rows (ok_Sheet_rows T) (hr.mono (by decide)) T.b_Sheet_rows .nil pass0 rfl) (nomark _))))) (pss_one (ps_raise rfl (takes_of rfl rfl rfl rfl) (pmk_own PySem.F.excBase_ValueError T.x_NotAlike T.m_NotAlike T.xk_NotAlike (raises_own T.xb_NotAlike T.xt_NotAlike) rfl))) (pss_nil))), ?_⟩
  rintro ⟨⟨p, b, r, cs⟩, q, b', r', cs'⟩ G M vs ⟨rfl, (hS : ShAt K T.c_Sheet G M p b r cs), (hT : ShAt K T.c_Sheet G M q b' r' cs')⟩
  obtain ⟨dx, _, _, h1, _, _⟩ := id hS
  obtain ⟨dy, _, _, k1, _, _⟩ := id hT
  refine sv_ifs (et_or (a := !decide (b = b')) (b := !decide (r = r')) (et_test (ev_neI (ev_prop (pre := shPre K T.c_Sheet) (post := fun x M => isV (.int x.2.1) M) (p, b, r, cs) (ev_var rfl) h1 fun G1 e1 => ⟨rfl, hS.ex e1⟩) (ev_prop (pre := shPre K T.c_Sheet) (post := fun x M => isV (.int x.2.1) M) (q, b', r', cs') (ev_var rfl) k1 fun G1 e1 => ⟨rfl, hT.ex e1⟩))) fun _ => et_test (ev_neI (ev_prop (pre := shPre K T.c_Sheet) (post := fun x M => isV (.int x.2.2.1) M) (p, b, r, cs) (ev_var rfl) h1 fun G1 e1 => ⟨rfl, hS.ex e1⟩) (ev_prop (pre := shPre K T.c_Sheet) (post := fun x M => isV (.int x.2.2.1) M) (q, b', r', cs') (ev_var rfl) k1 fun G1 e1 => ⟨rfl, hT.ex e1⟩))) (fun G3 e3 hb => sv_raise fun G4 e4 => ?_) fun G3 e3 hb => sv_next fun G4 e4 => ?_
  · refine ⟨fun z => ?_, rfl, rfl, rfl⟩
    have z1 : b = b' := z.1
    have z2 : r = r' := z.2
    simp [z1, z2] at hb
  exact sv_next fun G5 e5 => ⟨by simpa using hb, rfl⟩
theorem ok_Sheet___add__ (T : Txt K mg) : FnOk P w K mg base (L2.CX P w) 7 T.a_Sheet___add__ T.fd_Sheet___add__ ["self", "other"] (specX (addPre K T.c_Sheet) (addPost K T.c_Sheet) (addExc T.c_NotAlike)) := by
  refine fn_svX T.F_Sheet___add__ sc_Sheet___add__ (fun x G M vs h => by obtain ⟨rfl, _⟩ := h; rfl) fun cdv A outer s H E hr => ⟨_, (pss_cons (ps_if (pt_not (pt_val (pe_callB (k_isi (K := K) rfl) (by rfl) T.n_isinstance (by decide +kernel) (pa_cons (pv 1) (pa_cons (pe_glob (v := .ref T.c_Sheet) (by rfl) T.m_Sheet rfl) pa_nil))))) (pss_one (ps_never)) (pss_nil)) (pss_cons (ps_expr (pe_callS (ok_check_alike T) (hr.mono (by decide)) (by rfl) T.m_check_alike T.F_check_alike.kp T.b_check_alike (fun σ => passAt (takes_of rfl rfl rfl rfl) σ) (pa_cons (pv 0) (pa_cons (pv 1) pa_nil)))) (pss_one (ps_ret (pe_make T.k_Sheet (okG_Sheet___init__ T) (hr.mono (by decide)) (by rfl) T.m_Sheet T.b_Sheet___init__ .nil passL (pa_cons (k_fld (K := K) rfl (pv 0) rfl) (pa_cons (k_fld (K := K) rfl (pv 0) rfl) (pa_cons (pe_op (k_cat (K := K) rfl) (k_fld (K := K) rfl (pv 0) rfl) (k_fld (K := K) rfl (pv 1) rfl)) pa_nil)))))))), ?_⟩
  rintro ⟨⟨p, b, r, cs⟩, q, b', r', cs'⟩ G M vs ⟨rfl, ⟨dx, l, xs, h1, h2, h3⟩, ⟨dy, l', ys, k1, k2, k3⟩, (g : GoodSh b r cs), (g' : GoodSh b' r' cs'), (hl : cs.length + cs'.length ≤ 10000)⟩
  refine sv_ifs (a := false) (et_not (a := true) (et_B (ev_isiO T.ic_Sheet T.cl_Sheet T.io_Sheet (ev_var rfl) k1))) (fun G1 e1 hb => by cases hb) fun G1 e1 _ => sv_next fun G2 e2 => ?_
  have e12 := e1.trans e2
  refine sv_seq (N := fun _ σ' M' => σ' = [some (.ref p), some (.ref q)] ∧ M' = M ∧ b = b' ∧ r = r') (sv_dropCS (E := E) (exc := addExc T.c_NotAlike) (pre := alkPre K T.c_Sheet) (post := alkPost) ((p, b, r, cs), q, b', r', cs') rfl (ea_cons (P := fun _ v => v = .ref p) (ev_var rfl) (ea_cons (P := fun _ v => v = .ref q) (ev_var rfl) ea_nil)) (fun G3 vs e3 a => ?_) (fun G3 v M3 e3 z => ⟨rfl, z.2, z.1⟩) (fun c d G3 M3 e3 z => z)) ?_
  · obtain ⟨v1, v2, rfl, z1, z2⟩ := allP2 a
    subst z1 z2
    exact ⟨rfl, ⟨dx, l, xs, h1.ex (e12.trans e3), h2.ex (e12.trans e3), dma h3 (e12.trans e3)⟩, ⟨dy, l', ys, k1.ex (e12.trans e3), k2.ex (e12.trans e3), dma k3 (e12.trans e3)⟩⟩
  rintro G4 _ _ e3 ⟨rfl, rfl, hbr⟩
  obtain ⟨rfl, rfl⟩ := hbr
  have e14 := e12.trans e3
  refine sv_ret (ev_mkSh3 (C := T.c_Sheet) (cs := cs ++ cs') (ev_fld (ev_var rfl) (h1.ex e14) T.cl_Sheet T.na_Sheet__base shF_b) (ev_fld (ev_var rfl) (h1.ex e14) T.cl_Sheet T.na_Sheet__rows shF_r) (Ev.frz ?_) ?_) fun v' G' M' e r => ⟨⟨rfl, rfl⟩, r⟩
  · rw [List.map_append]
    exact ev_catA (ev_fld (ev_var rfl) (h1.ex e14) T.cl_Sheet T.na_Sheet__columns shF_c) (ev_fld (ev_var rfl) (k1.ex e14) T.cl_Sheet T.na_Sheet__columns shF_c) (h2.ex e14) (k2.ex e14) (dma h3 e14) (dma k3 e14) (by rw [List.length_map, List.length_map]; omega)
  · exact ⟨g.b2, g.b12, g.r1, g.r4, by rw [List.length_append]; exact hl, fun c hc => (List.mem_append.mp hc).elim (g.col c) (g'.col c)⟩
theorem opO_Sheet___add__ (T : Txt K mg) {X : Cx} (hP : X.prog = P := by rfl) (hw : X.w = w := by rfl) (hK : X.K = K := by rfl) (hm : X.mg = mg := by rfl) (hr : Room 7 X.A) : OpR X (binaryOp .Add) (rBinO T.c_Sheet (spec (addGPre K T.c_Sheet) (addPost K T.c_Sheet)) E0) := by
  subst hP hw hK hm
  exact op_binO T.me_Sheet___add__.at_ T.me_Sheet___add__.fn T.sf_Sheet (FnOk.calm (ok_Sheet___add__ T) (fun x G M vs h => h.1) (fun x G M vs c d G' M' h z => z.1 ⟨h.2.1, h.2.2⟩)) hr T.b_Sheet___add__ passL
theorem ok_Sheet___len__ (T : Txt K mg) : FnOk P w K mg base CX0 1 T.a_Sheet___len__ T.fd_Sheet___len__ ["self"] (spec (shPre K T.c_Sheet) fun x M => isV (.int (x.2.2.2.length : Int)) M) := by
  refine fn_sv T.F_Sheet___len__ sc_Sheet___len__ (fun x G M vs h => by obtain ⟨rfl, _⟩ := h; rfl) fun cdv A outer s H E hr => ⟨_, (pss_one (ps_ret (pe_callB (k_len (K := K) rfl) (by rfl) T.n_len (by decide +kernel) (pa_cons (k_fld (K := K) rfl (pv 0) rfl) pa_nil)))), ?_⟩
  rintro ⟨p, b, r, cs⟩ G M vs ⟨rfl, dx, l, xs, h1, h2, h3⟩
  refine sv_ret (ev_lenA (ev_fld (ev_var rfl) h1 T.cl_Sheet T.na_Sheet__columns shF_c) h2) fun v' G' M' e r => ?_
  rw [dpa_len h3, List.length_map] at r
  exact r
theorem len_Sheet___len__ (T : Txt K mg) {X : Cx} (hP : X.prog = P := by rfl) (hw : X.w = w := by rfl) (hK : X.K = K := by rfl) (hm : X.mg = mg := by rfl) (hr : Room (1 + 1) X.A) : CallR X (.builtin "len") (rLenO T.c_Sheet (spec (shPre K T.c_Sheet) fun x M => isV (.int (x.2.2.2.length : Int)) M) E0) := by
  subst hP hw hK hm
  exact call_lenO T.me_Sheet___len__ (ok_Sheet___len__ T) hr T.b_Sheet___len__ pass0
theorem ok_place_value (T : Txt K mg) : FnOk P w K mg base CX0 1 T.a_place_value T.fd_place_value ["base", "figures", "last"] (spec (placePre K) placePost) := by
  refine fn_sv T.F_place_value sc_place_value (fun x G M vs h => by obtain ⟨v, rfl, _⟩ := h; rfl) fun cdv A outer s H E hr => ⟨_, (pss_cons (ps_set (i := 3) sc_place_value.nd rfl (Or.inl rfl) (pv 2)) (pss_cons (ps_for PassesOwn.never rfl (pi_list (pe_revL (pv 1))) (pg_name (i := 4) sc_place_value.nd rfl (Or.inl rfl)) (pss_one (ps_set (i := 3) sc_place_value.nd rfl (Or.inl rfl) (pe_op op_add (pe_op op_mul (pv 3) (pv 0)) (pv 4))))) (pss_one (ps_ret (pv 3))))), ?_⟩
  rintro ⟨b, figs, last⟩ G M vs ⟨v, rfl, (dv : Dp K G v (.list (figs.map PyData.int))), (hb : -(2 ^ 64) < b ∧ b < 2 ^ 64)⟩
  refine sv_let (ev_var rfl) ?_
  rintro _ G1 M1 e1 ⟨rfl, rfl⟩
  refine sv_seq (N := fun G2 σ2 M2 => M2 = M1 ∧ ∃ f, σ2 = [some (.int b), some v, some (.int last), some (.int (horner b figs last)), f]) ?_ ?_
  · refine sv_forD (K := K) (ds := (figs.map PyData.int).reverse) (M1 := M1) (fun i G2 σ2 M2 => M2 = M1 ∧ ∃ f, σ2 = [some (.int b), some v, some (.int last), some (.int (horner b (figs.reverse.take i).reverse last)), f]) (Ev.frz (ev_revL (ev_varP rfl (dm dv e1)))) ?_ ?_ ?_
    · exact fun G' _ => ⟨rfl, none, rfl⟩
    · rintro i d x G2 σ2 M2 e2 hd dx ⟨rfl, f, rfl⟩
      obtain ⟨n, hn, rfl⟩ : ∃ n, figs.reverse[i]? = some n ∧ d = .int n := by
        rw [← List.map_reverse, List.getElem?_map] at hd
        cases q : figs.reverse[i]? with
        | none => rw [q] at hd; cases hd
        | some n => rw [q] at hd; exact ⟨n, rfl, (Option.some.inj hd).symm⟩
      obtain rfl := dp_int dx
      refine sv_tgN (sv_set (ev_I0 (ev_I (ev_var rfl) (ev_var rfl) (.inr hb)) (ev_var rfl)) ?_)
      rintro _ G3 M3 e3 ⟨rfl, rfl⟩
      refine ⟨rfl, some (.int n), ?_⟩
      show _ = [some (.int b), some v, some (.int last), some (.int (horner b (figs.reverse.take (i + 1)).reverse last)), some (.int n)]
      rw [List.take_add_one, hn]
      simp [horner]
    · rintro G2 σ2 M2 e2 ⟨rfl, f, rfl⟩
      refine ⟨rfl, f, ?_⟩
      have hq : (figs.reverse.take figs.length).reverse = figs := by
        rw [List.take_of_length_le (by simp), List.reverse_reverse]
      simp only [List.length_reverse, List.length_map, hq]
  · rintro G2 σ2 M2 e2 ⟨rfl, f, rfl⟩
    exact sv_ret (ev_var rfl) fun v' G' M' e r => r
theorem ok_Sheet_value (T : Txt K mg) : FnOk P w K mg base CX0 2 T.a_Sheet_value T.fd_Sheet_value ["self"] (spec (shGPre K T.c_Sheet) fun x M => isV (.int (valueOf x.2.1 x.2.2.2)) M) := by
  refine fn_sv T.F_Sheet_value sc_Sheet_value (fun x G M vs h => by obtain ⟨⟨rfl, _⟩, _⟩ := h; rfl) fun cdv A outer s H E hr => ⟨_, (pss_one (ps_ret (pe_call (ok_place_value T) (hr.mono (by decide)) (by rfl) T.m_place_value T.F_place_value.kp T.b_place_value .nil pass0 (pa_cons (k_fld (K := K) rfl (pv 0) rfl) (pa_cons (pe_lc (own := [("column", 1)]) (g := gName 1) (tt := tYes) rfl sc_Sheet_value.nd (pi_list (k_fld (K := K) rfl (pv 0) rfl)) (blkOk_by (N := ["self", "column"]) (sc := defScope s_Sheet_value) (by decide +kernel)) (fun _ _ _ _ _ => pg_name (i := 1) sc_Sheet_value.nd rfl (Or.inl rfl)) (fun _ _ _ _ _ => pts_nil) (fun _ _ _ _ _ => pe_callB (k_sumT (K := K) rfl rfl) (by rfl) T.n_sum (by decide +kernel) (pa_cons (pv 1) pa_nil))) (pa_cons (pe_int) pa_nil)))))), ?_⟩
  rintro ⟨p, b, r, cs⟩ G M vs ⟨⟨rfl, dx, l, xs, h1, h2, h3⟩, hl, hb⟩
  refine sv_ret (ev_place (K := K) (b := b) (figs := cs.map List.sum) (last := 0) (ea_cons (ev_fld (ev_var rfl) h1 T.cl_Sheet T.na_Sheet__base shF_b) (ea_cons ?_ (ea_cons ev_c ea_nil))) hb) fun v' G' M' e r => r
  refine Ev.frz (ev_mapA (K := K) (own' := [1]) (p := l) (xs := xs) (ds := cs.map colD) (M1 := M) (fun i => .int (((cs[i]?).getD []).sum)) (ev_fld (ev_var rfl) h1 T.cl_Sheet T.na_Sheet__columns shF_c) h2 h3 (by rw [List.length_map]; exact hl) (fun i d x G' hd e dx => ?_) (fun _ => rfl) ?_)
  · rw [List.getElem?_map] at hd
    cases q : cs[i]? with
    | none => rw [q] at hd; cases hd
    | some c =>
      rw [q] at hd
      cases hd
      exact ev_iD (ev_sumT (K := K) (ns := c) (ev_varP rfl dx))
  · refine kept_ext (by simp) fun i d hd => ?_
    rw [List.map_map, List.getElem?_map] at hd
    cases q : cs[i]? with
    | none => rw [q] at hd; cases hd
    | some z => rw [q] at hd; cases hd; rfl
theorem ok_Written_value (T : Txt K mg) : FnOk P w K mg base CX0 2 T.a_Written_value T.fd_Written_value ["self"] (spec (wrGPre K T.c_Written) fun x M => isV (.int (horner x.2.1 x.2.2.1 x.2.2.2)) M) := by
  refine fn_sv T.F_Written_value sc_Written_value (fun x G M vs h => by obtain ⟨⟨rfl, _⟩, _⟩ := h; rfl) fun cdv A outer s H E hr => ⟨_, (pss_one (ps_ret (pe_call (ok_place_value T) (hr.mono (by decide)) (by rfl) T.m_place_value T.F_place_value.kp T.b_place_value .nil pass0 (pa_cons (k_fld (K := K) rfl (pv 0) rfl) (pa_cons (k_fld (K := K) rfl (pv 0) rfl) (pa_cons (k_fld (K := K) rfl (pv 0) rfl) pa_nil)))))), ?_⟩
  rintro ⟨p, b, figs, last⟩ G M vs ⟨⟨rfl, dx, l, xs, h1, h2, h3⟩, (hb : -(2 ^ 64) < b ∧ b < 2 ^ 64)⟩
  exact sv_ret (ev_place (K := K) (ea_cons (ev_fld (ev_var rfl) (.G h1) T.cl_Written T.na_Written__base wrF_b) (ea_cons (ev_fldD (ev_var rfl) (.G h1) T.cl_Written T.na_Written__figures wrF_f (.lst h2 h3)) (ea_cons (ev_fld (ev_var rfl) (.G h1) T.cl_Written T.na_Written__last wrF_l) ea_nil))) hb) fun v' G' M' e r => r
theorem ok_Written___sub__ (T : Txt K mg) : FnOk P w K mg base CX0 5 T.a_Written___sub__ T.fd_Written___sub__ ["self", "other"] (spec (wsubPre K T.c_Written T.c_Sheet) wsubPost) := by
  refine fn_sv T.F_Written___sub__ sc_Written___sub__ (fun x G M vs h => by obtain ⟨rfl, _⟩ := h; rfl) fun cdv A outer s H E hr => ⟨_, (pss_cons (ps_if (pt_not (pt_val (pe_callB (k_isi (K := K) rfl) (by rfl) T.n_isinstance (by decide +kernel) (pa_cons (pv 1) (pa_cons (pe_glob (v := .ref T.c_Sheet) (by rfl) T.m_Sheet rfl) pa_nil))))) (pss_one (ps_never)) (pss_nil)) (pss_one (ps_ret (pe_op op_sub (pe_prop (pv 0) T.cl_Written T.p_Written_value (ok_Written_value T) (hr.mono (by decide)) T.b_Written_value .nil pass0 rfl) (pe_prop (pv 1) T.cl_Sheet T.p_Sheet_value (ok_Sheet_value T) (hr.mono (by decide)) T.b_Sheet_value .nil pass0 rfl))))), ?_⟩
  rintro ⟨⟨p, b, figs, last⟩, q, b', r, cs⟩ G M vs ⟨rfl, (hW : WrG K T.c_Written p b figs last G), (hS : ShAt K T.c_Sheet G M q b' r cs), (hb : -(2 ^ 64) < b ∧ b < 2 ^ 64), (hb' : -(2 ^ 64) < b' ∧ b' < 2 ^ 64), (hl : cs.length ≤ 100000)⟩
  obtain ⟨dx, l, xs, h1, h2, h3⟩ := hW
  obtain ⟨dy, l', ys, k1, k2, k3⟩ := hS
  refine sv_ifs (a := false) (et_not (a := true) (et_B (ev_isiO T.ic_Sheet T.cl_Sheet T.io_Sheet (ev_var rfl) k1))) (fun G1 e1 hb => by cases hb) fun G1 e1 _ => sv_next fun G2 e2 => ?_
  have e12 := e1.trans e2
  exact sv_ret (ev_I0 (g := fun i j => V.int (i - j)) (ev_prop (pre := wrGPre K T.c_Written) (post := fun x M => isV (.int (horner x.2.1 x.2.2.1 x.2.2.2)) M) (p, b, figs, last) (ev_var rfl) (.G (e12 _ _ h1)) fun G1 e1 => ⟨⟨rfl, dx, l, xs, (e12.trans e1) _ _ h1, ex_l (e12.trans e1) h2, dma h3 (e12.trans e1)⟩, hb⟩) (ev_prop (pre := shGPre K T.c_Sheet) (post := fun x M => isV (.int (valueOf x.2.1 x.2.2.2)) M) (q, b', r, cs) (ev_var rfl) (k1.ex e12) fun G1 e1 => ⟨⟨rfl, dy, l', ys, k1.ex (e12.trans e1), k2.ex (e12.trans e1), dma k3 (e12.trans e1)⟩, hl, hb'⟩)) fun v' G' M' e r => r
theorem op2_Written___sub__ (T : Txt K mg) {X : Cx} (hP : X.prog = P := by rfl) (hw : X.w = w := by rfl) (hK : X.K = K := by rfl) (hm : X.mg = mg := by rfl) (hr : Room 5 X.A) : OpR X (binaryOp .Sub) (rBin2 T.c_Written T.c_Sheet (spec (wsubPre K T.c_Written T.c_Sheet) wsubPost) E0) := by
  subst hP hw hK hm
  exact op_bin2 T.ne_Written_Sheet T.nop_Sheet_sub T.me_Written___sub__.at_ T.me_Written___sub__.fn T.sf_Written (ok_Written___sub__ T) hr T.b_Written___sub__ pass0
theorem ok_Written_figures (T : Txt K mg) : FnOk P w K mg base CX0 1 T.a_Written_figures T.fd_Written_figures ["self"] (spec (wrPre K T.c_Written) fun x M => own K (x.2.2.1.map .int) M) := by
  refine fn_sv T.F_Written_figures sc_Written_figures (fun x G M vs h => by obtain ⟨rfl, _⟩ := h; rfl) fun cdv A outer s H E hr => ⟨_, (pss_one (ps_ret (pe_callTy (k_list (K := K) rfl) (by rfl) T.n_list (by decide +kernel) (pa_cons (k_fld (K := K) rfl (pv 0) rfl) pa_nil)))), ?_⟩
  rintro ⟨p, b, figs, last⟩ G M vs ⟨rfl, dx, l, xs, h1, h2, h3⟩
  exact sv_ret (ev_listA (K := K) (ev_fld (ev_var rfl) (.G h1) T.cl_Written T.na_Written__figures wrF_f) (.G h2) h3) fun v' G' M' e r => r
theorem ok__law_power (T : Txt K mg) : FnOk P w K mg base CX0 1 T.a__law_power T.fd__law_power ["base", "many"] (spec powPre powPost) := by
  refine fn_sv T.F__law_power sc__law_power (fun x G M vs h => by obtain ⟨rfl, _⟩ := h; rfl) fun cdv A outer s H E hr => ⟨_, (pss_cons (ps_set (i := 2) sc__law_power.nd rfl (Or.inl rfl) (pe_int)) (pss_cons (ps_for PassesOwn.never rfl (pi_range1 (by rfl) T.n_range (pa_cons (pv 1) pa_nil)) (pg_name (i := 3) sc__law_power.nd rfl (Or.inl rfl)) (pss_one (ps_set (i := 2) sc__law_power.nd rfl (Or.inl rfl) (pe_op op_mul (pv 2) (pv 0))))) (pss_one (ps_ret (pv 2))))), ?_⟩
  rintro ⟨b, n⟩ G M vs ⟨rfl, (hb : -(2 ^ 64) < b ∧ b < 2 ^ 64), (hn : n ≤ 100000)⟩
  refine sv_let ev_c ?_
  rintro _ G1 M1 e1 ⟨rfl, rfl⟩
  refine sv_seq (N := fun G' σ' M' => M' = M1 ∧ ∃ f, σ' = [some (.int b), some (.int n), some (.int (b ^ n)), f]) ?_ ?_
  · refine sv_forR (n := (n : Int)) (M1 := M1) (fun i G' σ' M' => M' = M1 ∧ ∃ f, σ' = [some (.int b), some (.int n), some (.int (b ^ i)), f]) (ea_cons (ev_var rfl) ea_nil) (fun G' e => ⟨rfl, none, by rw [Int.pow_zero]; rfl⟩) (by omega) ?_ ?_
    · rintro i G' σ' M' e hi ⟨rfl, f, rfl⟩
      refine sv_tgN (sv_set (ev_I (ev_var rfl) (ev_var rfl) (.inr hb)) ?_)
      rintro _ G4 M4 e4 ⟨rfl, rfl⟩
      exact ⟨rfl, _, by rw [Int.pow_succ]; rfl⟩
    · rintro G' σ' M' e ⟨rfl, f, rfl⟩
      exact ⟨rfl, f, by rw [Int.toNat_natCast]⟩
  · rintro G3 σ3 M3 e3 ⟨rfl, f, rfl⟩
    exact sv_ret (ev_var rfl) fun v' G' M' e r => r
theorem ok_Sheet_columns (T : Txt K mg) : FnOk P w K mg base CX0 1 T.a_Sheet_columns T.fd_Sheet_columns ["self"] (spec (shPre K T.c_Sheet) fun x M => own K (x.2.2.2.map colD) M) := by
  refine fn_sv T.F_Sheet_columns sc_Sheet_columns (fun x G M vs h => by obtain ⟨rfl, _⟩ := h; rfl) fun cdv A outer s H E hr => ⟨_, (pss_one (ps_ret (pe_callTy (k_list (K := K) rfl) (by rfl) T.n_list (by decide +kernel) (pa_cons (k_fld (K := K) rfl (pv 0) rfl) pa_nil)))), ?_⟩
  rintro ⟨p, b, r, cs⟩ G M vs ⟨rfl, dx, l, xs, h1, h2, h3⟩
  exact sv_ret (ev_listA (ev_fld (ev_var rfl) h1 T.cl_Sheet T.na_Sheet__columns shF_c) h2 h3) fun v' G' M' e r => r
theorem ok_Written___init__ (T : Txt K mg) : FnOk P w K mg base CX0 1 T.a_Written___init__ T.fd_Written___init__ ["self", "base", "figures", "last"] (spec (mkWrPre K T.c_Written) (mkWrPost K T.c_Written)) := by
  refine fn_sv T.F_Written___init__ sc_Written___init__ (fun x G M vs h => by obtain ⟨v, M0, rfl, _⟩ := h; rfl) fun cdv A outer s H E hr => ⟨_, (pss_cons (ps_fld (pv 0) (pv 1) rfl) (pss_cons (ps_fld (pv 0) (pe_callTy (k_list (K := K) rfl) (by rfl) T.n_list (by decide +kernel) (pa_cons (pv 2) pa_nil)) rfl) (pss_one (ps_fld (pv 0) (pv 3) rfl)))), ?_⟩
  rintro ⟨p, dx, b, figs, last⟩ G M vs ⟨v, M0, rfl, rfl, (hd : Dt K G M0 v (.list (figs.map .int)))⟩
  obtain ⟨a, xs, rfl, hA, hx⟩ := hd.lst
  refine sv_seq (N := fun G' σ' M' => σ' = [some (.ref p), some (.int b), some (.ref a), some (.int last)] ∧ M' = M0 ++ [(p, HO.ins T.c_Written dx (putF "_base" (.int b) []))]) (sv_fld (p := p) (C := T.c_Written) (dx := dx) (fs := []) (n := M0.length) (ev_var rfl) (fun G1 v' M1 e hR => ?_) T.cl_Written T.na_Written__base (by decide) fun G1 G2 v' M1 e e' hR => ?_) ?_
  · obtain ⟨rfl, rfl⟩ := hR
    exact ⟨ev_var rfl, by simp⟩
  · obtain ⟨rfl, rfl⟩ := hR
    exact ⟨rfl, by simp [List.set_append]⟩
  rintro G7 σ7 M7 e7 ⟨rfl, rfl⟩
  refine sv_seq (N := fun G' σ' M' => σ' = [some (.ref p), some (.int b), some (.ref a), some (.int last)] ∧ ∃ l ys, M' = M0 ++ [(p, HO.ins T.c_Written dx (putF "_figures" (.ref l) (putF "_base" (.int b) []))), (l, .lst ys)] ∧ DpAll K G' ys (figs.map .int)) (sv_fld (fs := putF "_base" (.int b) []) (n := M0.length) (R := own K (figs.map .int) (M0 ++ [(p, HO.ins T.c_Written dx (putF "_base" (.int b) []))])) (p := p) (C := T.c_Written) (dx := dx) (ev_listA (K := K) (ev_var rfl) ((hA.more).ex e7) (dma hx e7)) (fun G1 v' M1 e hR => ?_) T.cl_Written T.na_Written__figures (by show 1 < 1000; decide) fun G1 G2 v' M1 e e' hR => ?_) ?_
  · obtain ⟨l, ys, rfl, rfl, hdy⟩ := hR
    exact ⟨ev_var rfl, by simp⟩
  · obtain ⟨l, ys, rfl, rfl, hdy⟩ := hR
    exact ⟨rfl, l, ys, by simp [List.set_append], dma hdy e'⟩
  rintro G8 σ8 M8 e8 ⟨rfl, l, ys, rfl, hdy⟩
  refine sv_fld (p := p) (C := T.c_Written) (dx := dx) (fs := putF "_figures" (.ref l) (putF "_base" (.int b) [])) (n := M0.length) (ev_var rfl) (fun G1 v' M1 e hR => ?_) T.cl_Written T.na_Written__last (by show 2 < 1000; decide) fun G1 G2 v' M1 e e' hR => ?_
  · obtain ⟨rfl, rfl⟩ := hR
    exact ⟨ev_var rfl, by simp⟩
  · obtain ⟨rfl, rfl⟩ := hR
    exact ⟨rfl, l, ys, M0, rfl, by simp [List.set_append, wrF], dma hdy (e.trans e')⟩
def sp_do_sum (K : PySem.W.Frag)  : Sp := spD (α := (Int) × (Int) × (Int) × (Option Deed)) (fun (x : (Int) × (Int) × (Int) × (Option Deed)) => match x with | (b, t, c, od) => [D K (.int b), D K (.int t), D K (.int c), D K (odD od)]) (fun (x : (Int) × (Int) × (Int) × (Option Deed)) => match x with | (b, t, c, od) => 2 ≤ b ∧ b ≤ 12) (fun (x : (Int) × (Int) × (Int) × (Option Deed)) => match x with | (b, t, c, od) => (stepP K (doSum b t c od)))
theorem ok_do_sum (T : Txt K mg) : FnOk P w K mg base CX0 1 T.a_do_sum T.fd_do_sum ["base", "taken", "carry", "deed"] (sp_do_sum K ) := by
  refine fn_Y T.F_do_sum sc_do_sum (fun _ => rfl) fun cdv A outer s H E hr => ⟨_, (pss_cons (ps_set (i := 4) sc_do_sum.nd rfl (Or.inl rfl) (pe_ifExp (pt_cmp (pc_isN (pv 3)) rfl) (pe_non) (pe_ix (k_ixT (K := K) rfl) (pv 3) (pe_int) (fun _ _ => rfl)))) (pss_cons (ps_if (pt_cmpR op_eq (pv 4) (pe_str) (nomark _)) (pss_one (ps_ret (pe_tup (pa_cons (pe_lst pa_nil) (pa_cons (pv 2) pa_nil))))) (pss_nil)) (pss_cons (ps_set (i := 5) sc_do_sum.nd rfl (Or.inl rfl) (pe_op op_add (pv 1) (pv 2))) (pss_cons (ps_set (i := 6) sc_do_sum.nd rfl (Or.inl rfl) (pe_op op_mod (pv 5) (pv 0))) (pss_cons (ps_set (i := 2) sc_do_sum.nd rfl (Or.inl rfl) (pe_op op_fdivW (pv 5) (pv 0))) (pss_cons (ps_if (pt_cmpR op_eq (pv 4) (pe_str) (nomark _)) (pss_one (ps_ret (pe_ifExp (pt_cmpR op_gt (pv 2) (pe_int) (nomark _)) (pe_tup (pa_cons (pe_lst (pa_cons (pv 6) pa_nil)) (pa_cons (pe_int) pa_nil))) (pe_non)))) (pss_nil)) (pss_cons (ps_if (pt_cmpR op_eq (pv 4) (pe_str) (nomark _)) (pss_one (ps_ret (pe_tup (pa_cons (pe_lst (pa_cons (pv 6) pa_nil)) (pa_cons (pe_op op_add (pv 2) (pe_int)) pa_nil))))) (pss_nil)) (pss_cons (ps_if (pt_cmpR op_eq (pv 4) (pe_str) (nomark _)) (pss_one (ps_ret (pe_tup (pa_cons (pe_lst (pa_cons (pe_op op_mod (pe_op op_add (pv 6) (pe_ix (k_ixT (K := K) rfl) (pv 3) (pe_int) (fun _ _ => rfl))) (pv 0)) pa_nil)) (pa_cons (pv 2) pa_nil))))) (pss_nil)) (pss_cons (ps_if (pt_cmpR op_eq (pv 4) (pe_str) (nomark _)) (pss_cons (ps_set (i := 5) sc_do_sum.nd rfl (Or.inl rfl) (pe_op op_add (pv 1) (pv 2))) (pss_one (ps_ret (pe_tup (pa_cons (pe_lst (pa_cons (pv 6) (pa_cons (pe_op op_mod (pv 5) (pv 0)) pa_nil))) (pa_cons (pe_op op_fdivW (pv 5) (pv 0)) pa_nil)))))) (pss_nil)) (pss_one (ps_ret (pe_tup (pa_cons (pe_lst (pa_cons (pv 6) pa_nil)) (pa_cons (pv 2) pa_nil)))))))))))))), ?_⟩
  rintro ⟨b, t, c, od⟩ hp
  replace hp : 2 ≤ b ∧ b ≤ 12 := hp
  show S1 E _ [some (D K (.int b)), some (D K (.int t)), some (D K (.int c)), some (D K (odD od)), none, none, none] [] { nx := fun _ μ => BackY (fun x Q μ => Q = (fun (x : (Int) × (Int) × (Int) × (Option Deed)) => match x with | (b, t, c, od) => (stepP K (doSum b t c od))) x ∧ μ = []) (b, t, c, od) (D K .none) μ, rt := BackY (fun x Q μ => Q = (fun (x : (Int) × (Int) × (Int) × (Option Deed)) => match x with | (b, t, c, od) => (stepP K (doSum b t c od))) x ∧ μ = []) (b, t, c, od) }
  try simp only [cx_K, cx_KX]
  cases od with
  | none =>
    walk_at "let"
    walk_at "no"
    walk_at "let"
    walk_at "let"
    walk_at "let"
    walk_at "no"
    walk_at "no"
    walk_at "no"
    walk_at "no"
    refine s_ret (e_tupP (a_cons (EO.frzH (K := K) (by walk_at "eo")) (a_cons (by walk_at "ev") a_nil)) (by simp)) ?_
    exact back_D (Imp.refl _)
  | some x => 
    walk_at "let"
    refine s_ifr (by walk_at "tv") (fun h => ?_) (fun h0 => ?_)
    · cases w_out h
      refine s_ret (e_tupP (a_cons (EO.frzH (K := K) (by walk_at "eo")) (a_cons (by walk_at "ev") a_nil)) (by simp)) ?_
      exact back_D (Imp.refl _)
    walk_at "let"
    walk_at "let"
    walk_at "let"
    refine s_ifr (by walk_at "tv") (fun h => ?_) (fun h1 => ?_)
    · cases w_forget h
      refine s_ret (e_ifP (by walk_at "tv") (fun _ => e_tupP (a_cons (EO.frzH (K := K) (by walk_at "eo")) (a_cons (by walk_at "ev") a_nil)) (by simp)) (fun _ => e_cN (K := K))) (back_D ?_)
      show Imp _ (stepP K (if _ then _ else _))
      by_cases hz : (t + c) / b > 0
      · rw [if_pos (decide_eq_true hz), if_pos hz]
        exact Imp.refl _
      · rw [if_neg (by simpa using hz), if_neg hz]
        exact Imp.refl _
    refine s_ifr (by walk_at "tv") (fun h => ?_) (fun h2 => ?_)
    · cases w_again h
      refine s_ret (e_tupP (a_cons (EO.frzH (K := K) (by walk_at "eo")) (a_cons (by walk_at "ev") a_nil)) (by simp)) ?_
      exact back_D (Imp.refl _)
    refine s_ifr (by walk_at "tv") (fun h => ?_) (fun h3 => ?_)
    · obtain ⟨d, rfl⟩ := w_off h
      refine s_ret (e_tupP (a_cons (EO.frzH (K := K) (by walk_at "eo")) (a_cons (by walk_at "ev") a_nil)) (by simp)) ?_
      exact back_D (Imp.refl _)
    refine s_ifr (by walk_at "tv") (fun h => ?_) (fun h4 => ?_)
    · cases w_twice h
      walk_at "let"
      refine s_ret (e_tupP (a_cons (EO.frzH (K := K) (by walk_at "eo")) (a_cons (by walk_at "ev") a_nil)) (by simp)) ?_
      exact back_D (Imp.refl _)
    refine s_ret (e_tupP (a_cons (EO.frzH (K := K) (by walk_at "eo")) (a_cons (by walk_at "ev") a_nil)) (by simp)) (back_D ?_)
    cases x <;> first | exact Imp.refl _ | (exfalso; exact of_decide_eq_false h0 rfl) | (exfalso; exact of_decide_eq_false h1 rfl) | (exfalso; exact of_decide_eq_false h2 rfl) | (exfalso; exact of_decide_eq_false h3 rfl) | (exfalso; exact of_decide_eq_false h4 rfl)
theorem e_do_sum  {δ : En} {μ μ' : Mp} {E : XK} {b : Int} {t : Int} {c : Int} {od : Option Deed} {tA : TA} (h : EA tA δ μ [D K (.int b), D K (.int t), D K (.int c), D K (odD od)] μ') (hp : 2 ≤ b ∧ b ≤ 12) : E1 (tCall (sp_do_sum K ) [] E tA) δ μ ((stepP K (doSum b t c od))) μ' := e_callD (b, t, c, od) h hp
local macro_rules | `(tactic| walk_at "call") => `(tactic| ((with_reducible apply e_do_sum); (· walk_at "ea"); (· walk_at "sd")))
def sp_do_columns (K : PySem.W.Frag)  : Sp := spD (α := (Int) × (List (List Int)) × (Int)) (fun (x : (Int) × (List (List Int)) × (Int)) => match x with | (b, cs, c) => [D K (.int b), D K (.list (cs.map colD)), D K (.int c)]) (fun (x : (Int) × (List (List Int)) × (Int)) => match x with | (b, cs, c) => (2 ≤ b ∧ b ≤ 12) ∧ cs.length ≤ 10000) (fun (x : (Int) × (List (List Int)) × (Int)) => match x with | (b, cs, c) => D K (stepD (some (doCols b cs c))))
theorem ok_do_columns (T : Txt K mg) : FnOk P w K mg base CX0 2 T.a_do_columns T.fd_do_columns ["base", "columns", "carry"] (sp_do_columns K ) := by
  refine fn_Y T.F_do_columns sc_do_columns (fun _ => rfl) fun cdv A outer s H E hr => ⟨_, (pss_cons (ps_set (i := 3) sc_do_columns.nd rfl (Or.inl rfl) (pe_lst pa_nil)) (pss_cons (ps_for PassesOwn.never rfl (pi_list (pv 1)) (pg_name (i := 4) sc_do_columns.nd rfl (Or.inl rfl)) (pss_cons (ps_asg (pe_call (ok_do_sum T) (hr.mono (by decide)) (by rfl) T.m_do_sum T.F_do_sum.kp T.b_do_sum .nil pass0 (pa_cons (pv 0) (pa_cons (pe_callB (k_sumT (K := K) rfl rfl) (by rfl) T.n_sum (by decide +kernel) (pa_cons (pv 4) pa_nil)) (pa_cons (pv 2) (pa_cons (pe_non) pa_nil))))) (pg_tup (by rfl) (pgs_cons (pg_name (i := 5) sc_do_columns.nd rfl (Or.inl rfl)) (pgs_cons (pg_name (i := 2) sc_do_columns.nd rfl (Or.inl rfl)) pgs_nil)))) (pss_one (ps_expr (pe_bm PySem.F.plainAttrs_list PySem.F.slot_list_extend PySem.F.type_list_extend mt_extend (pv 3) (pa_cons (pv 5) pa_nil)))))) (pss_one (ps_ret (pe_tup (pa_cons (pv 3) (pa_cons (pv 2) pa_nil))))))), ?_⟩
  rintro ⟨b, cs, c⟩ hp
  replace hp : (2 ≤ b ∧ b ≤ 12) ∧ cs.length ≤ 10000 := hp
  show S1 E _ [some (D K (.int b)), some (D K (.list (cs.map colD))), some (D K (.int c)), none, none, none] [] { nx := fun _ μ => BackY (fun x Q μ => Q = (fun (x : (Int) × (List (List Int)) × (Int)) => match x with | (b, cs, c) => D K (stepD (some (doCols b cs c)))) x ∧ μ = []) (b, cs, c) (D K .none) μ, rt := BackY (fun x Q μ => Q = (fun (x : (Int) × (List (List Int)) × (Int)) => match x with | (b, cs, c) => D K (stepD (some (doCols b cs c)))) x ∧ μ = []) (b, cs, c) }
  try simp only [cx_K, cx_KX]
  obtain ⟨hb, hl⟩ := hp
  refine s_own (by walk_at "eo") fun fa => ?_
  refine s_seq (N := fun δ μ => Le δ [some (D K (.int b)), some (D K (.list (cs.map colD))), some (D K (.int (doCols b cs c).2)), some (Av fa), none, none] ∧ μ = [(fa, OL K ((doCols b cs c).1.map .int))]) ?_ ?_
  · refine s_for (fun i δ μ => ∃ y z, δ = [some (D K (.int b)), some (D K (.list (cs.map colD))), some (D K (.int (doCols b (cs.take i) c).2)), some (Av fa), y, z] ∧ μ = [(fa, OL K ((doCols b (cs.take i) c).1.map .int))]) (i_list (by walk_at "ev")) ?_ ?_ ?_
    · exact ⟨none, none, rfl, rfl⟩
    · rintro i _ _ hi ⟨y, z, rfl, rfl⟩
      rw [List.length_map] at hi
      refine ⟨_, [4], g_name, ?_⟩
      rw [getD_map (x := cs[i]) (List.getElem?_eq_getElem hi)]
      refine s_unp2P (K := K) (Q1 := Hl K ([(cs[i].sum + (doCols b (cs.take i) c).2) % b].map .int)) (Q2 := D K (.int ((cs[i].sum + (doCols b (cs.take i) c).2) / b))) (by exact e_do_sum (od := none) (by walk_at "ea") hb) ?_
      have hlen : (doCols b (cs.take i) c).1.length = i := by rw [doCols_len, List.length_take]; omega
      refine s_drop (e_extendH 0 (by walk_at "ev") (by walk_at "ev") ⟨0, _, rfl⟩ rfl (by simp [hlen]; omega)) ⟨some (D K (colD cs[i])), some (Hl K ([(cs[i].sum + (doCols b (cs.take i) c).2) % b].map .int)), ?_, ?_⟩
      · rw [List.take_add_one, List.getElem?_eq_getElem hi, Option.toList, doCols_snoc]
        rfl
      · rw [List.take_add_one, List.getElem?_eq_getElem hi, Option.toList, doCols_snoc, List.map_append]
        rfl
    · rintro _ _ ⟨y, z, rfl, rfl⟩
      rw [List.length_map, List.take_length]
      exact ⟨by walk_at "le", rfl⟩
  · rintro δ _ ⟨hle, rfl⟩
    refine S1.le ?_ hle
    refine s_frz (μa := []) (μb := []) 3 rfl ?_
    walk_at "ret="
theorem e_do_columns  {δ : En} {μ μ' : Mp} {E : XK} {b : Int} {cs : List (List Int)} {c : Int} {tA : TA} (h : EA tA δ μ [D K (.int b), D K (.list (cs.map colD)), D K (.int c)] μ') (hp : (2 ≤ b ∧ b ≤ 12) ∧ cs.length ≤ 10000) : E1 (tCall (sp_do_columns K ) [] E tA) δ μ (D K (stepD (some (doCols b cs c)))) μ' := e_callD (b, cs, c) h hp
local macro_rules | `(tactic| walk_at "call") => `(tactic| ((with_reducible apply e_do_columns); (· walk_at "ea"); (· walk_at "sd")))
def sp_sum_taken (K : PySem.W.Frag)  : Sp := spD (α := (Int) × (List Int) × (Option Deed) × (PyData)) (fun (x : (Int) × (List Int) × (Option Deed) × (PyData)) => match x with | (b, c, od, cp) => [D K (.int b), D K (colD c), D K (odD od), D K cp]) (fun (x : (Int) × (List Int) × (Option Deed) × (PyData)) => match x with | (b, c, od, cp) => (2 ≤ b ∧ b ≤ 12) ∧ RowOk c.length od ∧ (∀ j, od = some (.copy j) → isInt cp = true)) (fun (x : (Int) × (List Int) × (Option Deed) × (PyData)) => match x with | (b, c, od, cp) => D K (.int (sumTaken b c (intOf cp) od)))
theorem ok_sum_taken (T : Txt K mg) : FnOk P w K mg base CX0 1 T.a_sum_taken T.fd_sum_taken ["base", "column", "deed", "copied"] (sp_sum_taken K ) := by
  refine fn_Y T.F_sum_taken sc_sum_taken (fun _ => rfl) fun cdv A outer s H E hr => ⟨_, (pss_cons (ps_set (i := 4) sc_sum_taken.nd rfl (Or.inl rfl) (pe_callB (k_sumT (K := K) rfl rfl) (by rfl) T.n_sum (by decide +kernel) (pa_cons (pv 1) pa_nil))) (pss_cons (ps_if (pt_cmp (pc_isN (pv 2)) rfl) (pss_one (ps_ret (pv 4))) (pss_nil)) (pss_cons (ps_if (pt_cmpR op_eq (pe_ix (k_ixT (K := K) rfl) (pv 2) (pe_int) (fun _ _ => rfl)) (pe_str) (nomark _)) (pss_cons (ps_set (i := 5) sc_sum_taken.nd rfl (Or.inl rfl) (pe_ix (k_ixT (K := K) rfl) (pv 1) (pe_ix (k_ixT (K := K) rfl) (pv 2) (pe_int) (fun _ _ => rfl)) (fun _ _ => rfl))) (pss_one (ps_ret (pe_op op_add (pe_op op_sub (pv 4) (pv 5)) (pe_op op_mod (pe_op op_add (pv 5) (pe_ix (k_ixT (K := K) rfl) (pv 2) (pe_int) (fun _ _ => rfl))) (pv 0)))))) (pss_nil)) (pss_cons (ps_if (pt_cmpR op_eq (pe_ix (k_ixT (K := K) rfl) (pv 2) (pe_int) (fun _ _ => rfl)) (pe_str) (nomark _)) (pss_one (ps_ret (pe_op op_add (pe_op op_sub (pv 4) (pe_ix (k_ixT (K := K) rfl) (pv 1) (pe_ix (k_ixT (K := K) rfl) (pv 2) (pe_int) (fun _ _ => rfl)) (fun _ _ => rfl))) (pv 3)))) (pss_nil)) (pss_one (ps_ret (pv 4))))))), ?_⟩
  rintro ⟨b, c, od, cp⟩ hp
  replace hp : (2 ≤ b ∧ b ≤ 12) ∧ RowOk c.length od ∧ (∀ j, od = some (.copy j) → isInt cp = true) := hp
  show S1 E _ [some (D K (.int b)), some (D K (colD c)), some (D K (odD od)), some (D K cp), none, none] [] { nx := fun _ μ => BackY (fun x Q μ => Q = (fun (x : (Int) × (List Int) × (Option Deed) × (PyData)) => match x with | (b, c, od, cp) => D K (.int (sumTaken b c (intOf cp) od))) x ∧ μ = []) (b, c, od, cp) (D K .none) μ, rt := BackY (fun x Q μ => Q = (fun (x : (Int) × (List Int) × (Option Deed) × (PyData)) => match x with | (b, c, od, cp) => D K (.int (sumTaken b c (intOf cp) od))) x ∧ μ = []) (b, c, od, cp) }
  try simp only [cx_K, cx_KX]
  obtain ⟨hb, hr, hc⟩ := hp
  walk_at "let"
  cases od with
  | none =>
    refine s_ifr (by walk_at "tv") (fun _ => ?_) (fun h => by cases h)
    walk_at "ret="
  | some x =>
    refine s_ifr (by walk_at "tv") (fun h => by cases h) (fun _ => ?_)
    refine s_ifr (by walk_at "tv") (fun h => ?_) (fun h => ?_)
    · obtain ⟨j, d, rfl⟩ := w_read h
      have hr : 0 ≤ j ∧ j < c.length := hr
      walk_at "let"
      walk_at "ret="
    · refine s_ifr (by walk_at "tv") (fun h2 => ?_) (fun h2 => ?_)
      · obtain ⟨j, rfl⟩ := w_copy h2
        have hr : 0 ≤ j ∧ j < c.length := hr
        obtain ⟨n, rfl⟩ : ∃ n, cp = .int n := by
          have := hc _ rfl
          cases cp <;> first | exact ⟨_, rfl⟩ | cases this
        walk_at "ret="
      · walk_at "retD"
        cases x <;> first | rfl | (exfalso; exact of_decide_eq_false h rfl) | (exfalso; exact of_decide_eq_false h2 rfl)
theorem e_sum_taken  {δ : En} {μ μ' : Mp} {E : XK} {b : Int} {c : List Int} {od : Option Deed} {cp : PyData} {tA : TA} (h : EA tA δ μ [D K (.int b), D K (colD c), D K (odD od), D K cp] μ') (hp : (2 ≤ b ∧ b ≤ 12) ∧ RowOk c.length od ∧ (∀ j, od = some (.copy j) → isInt cp = true)) : E1 (tCall (sp_sum_taken K ) [] E tA) δ μ (D K (.int (sumTaken b c (intOf cp) od))) μ' := e_callD (b, c, od, cp) h hp
local macro_rules | `(tactic| walk_at "call") => `(tactic| ((with_reducible apply e_sum_taken); (· walk_at "ea"); (· walk_at "sd")))
def sp_do_slip (K : PySem.W.Frag)  : Sp := spD (α := (Int) × (Int) × (List (List Int)) × (Int) × (Int) × (Deed)) (fun (x : (Int) × (Int) × (List (List Int)) × (Int) × (Int) × (Deed)) => match x with | (b, r, cs, a, c, x) => [D K (.int b), D K (.list (cs.map colD)), D K (.int a), D K (.int c), D K (deedD x)]) (fun (x : (Int) × (Int) × (List (List Int)) × (Int) × (Int) × (Deed)) => match x with | (b, r, cs, a, c, x) => GoodSh b r cs ∧ x ∈ allDeeds b r ∧ (0 ≤ a ∧ a < cs.length)) (fun (x : (Int) × (Int) × (List (List Int)) × (Int) × (Int) × (Deed)) => match x with | (b, r, cs, a, c, x) => D K (slipR a (doSlip b cs a.toNat c x) x))
theorem ok_do_slip (T : Txt K mg) : FnOk P w K mg base CX0 3 T.a_do_slip T.fd_do_slip ["base", "columns", "at", "carry", "deed"] (sp_do_slip K ) := by
  refine fn_Y T.F_do_slip sc_do_slip (fun _ => rfl) fun cdv A outer s H E hr => ⟨_, (pss_cons (ps_set (i := 5) sc_do_slip.nd rfl (Or.inl rfl) (pe_ix (k_ixT (K := K) rfl) (pv 4) (pe_int) (fun _ _ => rfl))) (pss_cons (ps_if (PW.pt (pw_or (PW.pt (pw_and (pt_cmpR op_eq (pv 5) (pe_str) (nomark _)) (pw_and1 (pt_cmpR op_eq (pv 2) (pe_int) (nomark _))))) (pw_or1 (PW.pt (pw_and (pt_cmpR op_eq (pv 5) (pe_str) (nomark _)) (pw_and1 (pt_cmpR op_eq (pe_op op_add (pv 2) (pe_int)) (pe_callB (k_len (K := K) rfl) (by rfl) T.n_len (by decide +kernel) (pa_cons (pv 1) pa_nil)) (nomark _)))))))) (pss_one (ps_ret (pe_non))) (pss_nil)) (pss_cons (ps_if (pt_cmpR op_eq (pv 5) (pe_str) (nomark _)) (pss_cons (ps_asg (pe_call (ok_do_columns T) (hr.mono (by decide)) (by rfl) T.m_do_columns T.F_do_columns.kp T.b_do_columns .nil pass0 (pa_cons (pv 0) (pa_cons (pe_slice (k_slL (K := K) rfl) (pv 1) (po_some (pv 2)) (po_some (pe_op op_add (pv 2) (pe_int)))) (pa_cons (pv 3) pa_nil)))) (pg_tup (by rfl) (pgs_cons (pg_name (i := 8) sc_do_slip.nd rfl (Or.inl rfl)) (pgs_cons (pg_name (i := 3) sc_do_slip.nd rfl (Or.inl rfl)) pgs_nil)))) (pss_one (ps_ret (pe_tup (pa_cons (pe_revL (pv 8)) (pa_cons (pv 3) (pa_cons (pe_op op_add (pv 2) (pe_int)) pa_nil))))))) (pss_nil)) (pss_cons (ps_set (i := 6) sc_do_slip.nd rfl (Or.inl rfl) (pe_ifExp (pt_cmpR op_eq (pv 5) (pe_str) (nomark _)) (pe_ix (k_ixT (K := K) rfl) (pe_ix (k_ixL (K := K) rfl) (pv 1) (pe_op op_sub (pv 2) (pe_int)) (fun _ _ => rfl)) (pe_ix (k_ixT (K := K) rfl) (pv 4) (pe_int) (fun _ _ => rfl)) (fun _ _ => rfl)) (pe_non))) (pss_cons (ps_set (i := 7) sc_do_slip.nd rfl (Or.inl rfl) (pe_call (ok_do_sum T) (hr.mono (by decide)) (by rfl) T.m_do_sum T.F_do_sum.kp T.b_do_sum .nil pass0 (pa_cons (pv 0) (pa_cons (pe_call (ok_sum_taken T) (hr.mono (by decide)) (by rfl) T.m_sum_taken T.F_sum_taken.kp T.b_sum_taken .nil pass0 (pa_cons (pv 0) (pa_cons (pe_ix (k_ixL (K := K) rfl) (pv 1) (pv 2) (fun _ _ => rfl)) (pa_cons (pv 4) (pa_cons (pv 6) pa_nil))))) (pa_cons (pv 3) (pa_cons (pv 4) pa_nil)))))) (pss_cons (ps_if (pt_cmp (pc_isN (pv 7)) rfl) (pss_one (ps_ret (pe_non))) (pss_nil)) (pss_cons (ps_asg (pv 7) (pg_tup (by rfl) (pgs_cons (pg_name (i := 8) sc_do_slip.nd rfl (Or.inl rfl)) (pgs_cons (pg_name (i := 3) sc_do_slip.nd rfl (Or.inl rfl)) pgs_nil)))) (pss_one (ps_ret (pe_tup (pa_cons (pv 8) (pa_cons (pv 3) (pa_cons (pe_op op_add (pv 2) (pe_int)) pa_nil))))))))))))), ?_⟩
  rintro ⟨b, r, cs, a, c, x⟩ hp
  replace hp : GoodSh b r cs ∧ x ∈ allDeeds b r ∧ (0 ≤ a ∧ a < cs.length) := hp
  show S1 E _ [some (D K (.int b)), some (D K (.list (cs.map colD))), some (D K (.int a)), some (D K (.int c)), some (D K (deedD x)), none, none, none, none] [] { nx := fun _ μ => BackY (fun x Q μ => Q = (fun (x : (Int) × (Int) × (List (List Int)) × (Int) × (Int) × (Deed)) => match x with | (b, r, cs, a, c, x) => D K (slipR a (doSlip b cs a.toNat c x) x)) x ∧ μ = []) (b, r, cs, a, c, x) (D K .none) μ, rt := BackY (fun x Q μ => Q = (fun (x : (Int) × (Int) × (List (List Int)) × (Int) × (Int) × (Deed)) => match x with | (b, r, cs, a, c, x) => D K (slipR a (doSlip b cs a.toNat c x) x)) x ∧ μ = []) (b, r, cs, a, c, x) }
  try simp only [cx_K, cx_KX]
  obtain ⟨g, hx, ha⟩ := hp
  have hb : 2 ≤ b ∧ b ≤ 12 := ⟨g.b2, g.b12⟩
  have hlen := g.len
  have hcol : ∀ n, n < cs.length → r ≤ (cs.getD n []).length := fun n hn => by
    have : cs.getD n [] = cs[n] := by simp [List.getD, List.getElem?_eq_getElem hn]
    rw [this, (g.col _ (List.getElem_mem hn)).1]
    exact Int.le_refl _
  walk_at "let"
  refine s_ifr (μ1 := []) (by walk_at "tv") (fun h => ?_) (fun h => ?_)
  · walk_at "retD"
    rw [word_copy, word_swap, List.length_map] at h
    simp only [Bool.or_eq_true, Bool.and_eq_true, decide_eq_true_eq] at h
    have hc : isCopy x = true ∧ a.toNat = 0 ∨ x = .swap ∧ a.toNat + 1 = cs.length := by
      rcases h with h | h
      · exact .inl ⟨h.1, by omega⟩
      · exact .inr ⟨h.1, by omega⟩
    show _ = slipR a (doSlip b cs a.toNat c x) x
    unfold doSlip
    rw [if_pos hc]
    rfl
  rw [word_copy, word_swap, List.length_map] at h
  simp only [Bool.or_eq_false_iff, Bool.and_eq_false_iff, decide_eq_false_iff_not] at h
  have hno : ¬ (isCopy x = true ∧ a.toNat = 0 ∨ x = .swap ∧ a.toNat + 1 = cs.length) := by
    rintro (⟨h1, h2⟩ | ⟨h1, h2⟩)
    · rcases h.1 with h | h
      · rw [h1] at h
        cases h
      · omega
    · rcases h.2 with h | h
      · exact h h1
      · omega
  have hds : doSlip b cs a.toNat c x = if x = .swap then some ((doCols b ((cs.take (a.toNat + 2)).drop a.toNat) c).1.reverse, (doCols b ((cs.take (a.toNat + 2)).drop a.toNat) c).2)
      else doSum b (sumTaken b (cs.getD a.toNat []) (copiedV cs a.toNat x) (some x)) c (some x) := by
    unfold doSlip
    rw [if_neg hno]
  refine s_ifr (μ1 := []) (by walk_at "tv") (fun h2 => ?_) (fun h2 => ?_)
  · cases w_swap h2
    have hl2 : (((cs.take (a + 2).toNat).drop a.toNat).length) ≤ 10000 := by simp; omega
    refine s_unp2 (K := K) (μ1 := []) (d := .list ((doCols b ((cs.take (a + 2).toNat).drop a.toNat) c).1.map .int)) (e := .int (doCols b ((cs.take (a + 2).toNat).drop a.toNat) c).2) (by exact e_do_columns (by walk_at "ea") ⟨hb, hl2⟩) ?_
    walk_at "Ret"
    refine back_D (imp_D ?_)
    rw [hds, if_pos rfl, show (a + 2).toNat = a.toNat + 2 by omega]
    unfold slipR
    dsimp only
    rw [if_pos rfl]
  have hsw : x ≠ .swap := by
    rw [word_swap] at h2
    simpa using h2
  rw [if_neg hsw] at hds
  have hrow := rowOk_all (n := (cs.getD a.toNat []).length) hx (hcol _ (by omega))
  -- the figure that is copied
  refine s_let (Q := D K (copiedD cs a.toNat x)) (μ1 := []) ?_ ?_
  · cases hc : isCopy x with
    | true =>
      obtain ⟨j, rfl⟩ : ∃ j, x = .copy j := by cases x <;> first | exact ⟨_, rfl⟩ | cases hc
      have ha1 : a ≠ 0 := by
        rcases h.1 with h | h
        · rw [hc] at h; cases h
        · exact h
      have hj : 0 ≤ j ∧ j < ((cs.getD (a - 1).toNat []).length : Int) := by
        have := hcol (a - 1).toNat (by omega)
        rcases mem_all.mp hx with h | h | ⟨d, h, _⟩ | ⟨j, d, h, _⟩ | ⟨j', h, h1, h2⟩ | h | h | h <;> cases h
        omega
      have hi : 0 ≤ a - 1 ∧ a - 1 < (cs.length : Int) := by omega
      show E1 _ _ _ (D K (.int ((cs.getD (a.toNat - 1) []).getD j.toNat 0))) _
      rw [show a.toNat - 1 = (a - 1).toNat by omega]
      refine e_ifTr (a := decide ((Deed.copy j).word = "copy")) (μ1 := []) (by walk_at "tv") rfl ?_
      refine e_ixTI (K := K) (μ1 := []) (xs := cs.getD (a - 1).toNat []) (by exact e_ixLC (by walk_at "ev") (by walk_at "ev") lr_D hi) (by walk_at "ev") hj
    | false =>
      unfold copiedD
      rw [hc]
      exact e_ifFa (a := decide (x.word = "copy")) (μ1 := []) (by walk_at "tv") (by rw [word_copy, hc]) e_cN
  have hi : 0 ≤ a ∧ a < (cs.length : Int) := ha
  have hcv : sumTaken b (cs.getD a.toNat []) (copiedV cs a.toNat x) (some x) = sumTaken b (cs.getD a.toNat []) (intOf (copiedD cs a.toNat x)) (some x) := by
    unfold copiedD
    cases x <;> rfl
  rw [hcv] at hds
  refine s_let (Q := stepP K (doSum b (sumTaken b (cs.getD a.toNat []) (intOf (copiedD cs a.toNat x)) (some x)) c (some x))) (μ1 := []) ?_ ?_
  · refine e_do_sum (od := some x) ?_ hb
    refine a_cons (μ1 := []) (by walk_at "ev") (a_cons (μ1 := []) ?_ (by walk_at "ea"))
    refine e_sum_taken (od := some x) ?_ ⟨hb, hrow, fun j hj => ?_⟩
    · refine a_cons (μ1 := []) (by walk_at "ev") (a_cons (μ1 := []) (by exact e_ixLC (by walk_at "ev") (by walk_at "ev") lr_D hi) (by walk_at "ea"))
    · cases hj
      rfl
  generalize doSum b (sumTaken b (cs.getD a.toNat []) (intOf (copiedD cs a.toNat x)) (some x)) c (some x) = w at hds ⊢
  match w with
  | none =>
    refine s_ifr (μ1 := []) (a := true) (t_B (K := K) (e_isN (d := .none) (by walk_at "ev"))) (fun _ => ?_) (fun h => by cases h)
    walk_at "Ret"
    refine back_D (imp_D ?_)
    rw [hds]
    rfl
  | some (fs, c2) =>
    refine s_ifr (μ1 := []) (a := false) (t_B (K := K) (e_isNP (e_var rfl) tp_notN)) (fun h => by cases h) (fun _ => ?_)
    refine s_unp2P (μ1 := []) (by walk_at "ev") ?_
    refine s_ret (Q := D K (.tuple [.list (fs.map .int), .int c2, .int (a + 1)])) (μ1 := []) (e_tup (d_cons (E1.imp (e_var rfl) imp_H) (d_cons (by walk_at "ev") (d_cons (by walk_at "ev") d_nil))) (by show 3 ≤ 1000; decide)) (back_D (imp_D ?_))
    rw [hds]
    unfold slipR
    dsimp only
    rw [if_neg hsw]
theorem e_do_slip  {δ : En} {μ μ' : Mp} {E : XK} {b : Int} {r : Int} {cs : List (List Int)} {a : Int} {c : Int} {x : Deed} {tA : TA} (h : EA tA δ μ [D K (.int b), D K (.list (cs.map colD)), D K (.int a), D K (.int c), D K (deedD x)] μ') (hp : GoodSh b r cs ∧ x ∈ allDeeds b r ∧ (0 ≤ a ∧ a < cs.length)) : E1 (tCall (sp_do_slip K ) [] E tA) δ μ (D K (slipR a (doSlip b cs a.toNat c x) x)) μ' := e_callD (b, r, cs, a, c, x) h hp
local macro_rules | `(tactic| walk_at "call") => `(tactic| ((with_reducible apply e_do_slip); (· walk_at "ea"); (· walk_at "sd")))
def sp__is_plain (K : PySem.W.Frag)  : Sp := spD (α := (PyData)) (fun (d : (PyData)) => [D K d]) (fun (d : (PyData)) => dlen d ≤ 100000) (fun (d : (PyData)) => D K (.bool (isPlain d)))
theorem ok__is_plain (T : Txt K mg) : FnOk P w K mg base CX0 1 T.a__is_plain T.fd__is_plain ["value"] (sp__is_plain K ) := by
  refine fn_Y T.F__is_plain sc__is_plain (fun _ => rfl) fun cdv A outer s H E hr => ⟨_, (pss_cons (ps_if (pt_not (pt_val (pe_callB (k_isi (K := K) rfl) (by rfl) T.n_isinstance (by decide +kernel) (pa_cons (pv 0) (pa_cons (pe_bltn (v := .ty "tuple") (by rfl) T.n_tuple (by decide +kernel) rfl) pa_nil))))) (pss_one (ps_ret (pe_bl))) (pss_nil)) (pss_one (ps_ret (pe_callB (k_all (K := K) rfl rfl) (by rfl) T.n_all (by decide +kernel) (pa_cons (pe_lc (own := [("item", 1)]) (g := gName 1) (tt := tYes) rfl sc__is_plain.nd (pi_tup (pv 0)) (blkOk_by (N := ["value", "item"]) (sc := defScope s__is_plain) (by decide +kernel)) (fun _ _ _ _ _ => pg_name (i := 1) sc__is_plain.nd rfl (Or.inl rfl)) (fun _ _ _ _ _ => pts_nil) (fun _ _ _ _ _ => pe_and (pe_callB (k_isiT (K := K) rfl) (by rfl) T.n_isinstance (by decide +kernel) (pa_cons (pv 1) (pa_cons (pe_tup (pa_cons (pe_bltn (v := .ty "int") (by rfl) T.n_int (by decide +kernel) rfl) (pa_cons (pe_bltn (v := .ty "str") (by rfl) T.n_str (by decide +kernel) rfl) pa_nil))) pa_nil))) (pe_one (pe_not (pe_callB (k_isi (K := K) rfl) (by rfl) T.n_isinstance (by decide +kernel) (pa_cons (pv 1) (pa_cons (pe_bltn (v := .ty "bool") (by rfl) T.n_bool (by decide +kernel) rfl) pa_nil))))))) pa_nil))))), ?_⟩
  rintro d hp
  replace hp : dlen d ≤ 100000 := hp
  show S1 E _ [some (D K d), none] [] { nx := fun _ μ => BackY (fun x Q μ => Q = (fun (d : (PyData)) => D K (.bool (isPlain d))) x ∧ μ = []) d (D K .none) μ, rt := BackY (fun x Q μ => Q = (fun (d : (PyData)) => D K (.bool (isPlain d))) x ∧ μ = []) d }
  try simp only [cx_K, cx_KX]
  refine s_ifr (by walk_at "tv") (fun h => ?_) (fun h => ?_)
  · walk_at "retD"
    cases d <;> first | rfl | cases h
  · obtain ⟨ds, rfl⟩ := tup_of (by simpa using h)
    refine s_ret (Q := D K (.bool (ds.all fun d => (isTy d "int" || isTy d "str") && !isTy d "bool"))) (μ1 := []) (e_allO (o_mapT (K := K) (enc := id) (xs := ds) ?_ hp fun x hx => ?_)) (back_D (imp_D rfl))
    · rw [List.map_id]
      walk_at "ev"
    · walk_at "ev"
theorem e__is_plain  {δ : En} {μ μ' : Mp} {E : XK} {d : PyData} {tA : TA} (h : EA tA δ μ [D K d] μ') (hp : dlen d ≤ 100000) : E1 (tCall (sp__is_plain K ) [] E tA) δ μ (D K (.bool (isPlain d))) μ' := e_callD d h hp
local macro_rules | `(tactic| walk_at "call") => `(tactic| ((with_reducible apply e__is_plain); (· walk_at "ea"); (· walk_at "sd")))
def sp_deeds_of (K : PySem.W.Frag)  : Sp := spD (α := (Int) × (Int)) (fun (x : (Int) × (Int)) => match x with | (b, r) => [D K (.int b), D K (.int r)]) (fun (x : (Int) × (Int)) => match x with | (b, r) => (2 ≤ b ∧ b ≤ 12) ∧ (1 ≤ r ∧ r ≤ 4)) (fun (x : (Int) × (Int)) => match x with | (b, r) => D K (.list ((allDeeds b r).map deedD)))
theorem ok_deeds_of (T : Txt K mg) : FnOk P w K mg base CX0 1 T.a_deeds_of T.fd_deeds_of ["base", "rows"] (sp_deeds_of K ) := by
  refine fn_Y T.F_deeds_of sc_deeds_of (fun _ => rfl) fun cdv A outer s H E hr => ⟨_, (pss_cons (ps_setLc (i := 2) (own := [("by", 5)]) (g := gName 5) (tt := tYes) rfl sc_deeds_of.nd rfl rfl (sw_true rfl rfl rfl (by decide +kernel)) (pi_range2 (by rfl) T.n_range (pa_cons (pe_int) (pa_cons (pv 0) pa_nil))) (blkOk_by (N := ["base", "rows", "offs", "reads", "copies", "by", "row"]) (sc := defScope s_deeds_of) (by decide +kernel)) (fun _ _ _ _ _ => pg_name (i := 5) sc_deeds_of.nd rfl (Or.inl rfl)) (fun _ _ _ _ _ => pts_nil) (fun _ _ _ _ _ => pe_tup (pa_cons (pe_str) (pa_cons (pv 5) pa_nil)))) (pss_cons (ps_setLc2 (i := 3) (own := [("row", 6), ("by", 5)]) (vs1 := [5]) (g := gName 6) (tt := tYes) (g1 := gName 5) (tt1 := tYes) rfl sc_deeds_of.nd rfl rfl (sw_true rfl rfl rfl (by decide +kernel)) (pi_range1 (by rfl) T.n_range (pa_cons (pv 1) pa_nil)) (blkOk_by (N := ["base", "rows", "offs", "reads", "copies", "by", "row"]) (sc := defScope s_deeds_of) (by decide +kernel)) (by decide) (fun _ _ _ _ _ => pg_name (i := 6) sc_deeds_of.nd rfl (Or.inl rfl)) (fun _ _ _ _ _ => pts_nil) (fun _ _ _ _ _ => pi_range2 (by rfl) T.n_range (pa_cons (pe_int) (pa_cons (pv 0) pa_nil))) (fun _ _ _ _ _ => pg_name (i := 5) sc_deeds_of.nd rfl (Or.inl rfl)) (fun _ _ _ _ _ => pts_nil) (fun _ _ _ _ _ => pe_tup (pa_cons (pe_str) (pa_cons (pv 6) (pa_cons (pv 5) pa_nil)))) ) (pss_cons (ps_setLc (i := 4) (own := [("row", 6)]) (g := gName 6) (tt := tYes) rfl sc_deeds_of.nd rfl rfl (sw_true rfl rfl rfl (by decide +kernel)) (pi_range1 (by rfl) T.n_range (pa_cons (pv 1) pa_nil)) (blkOk_by (N := ["base", "rows", "offs", "reads", "copies", "by", "row"]) (sc := defScope s_deeds_of) (by decide +kernel)) (fun _ _ _ _ _ => pg_name (i := 6) sc_deeds_of.nd rfl (Or.inl rfl)) (fun _ _ _ _ _ => pts_nil) (fun _ _ _ _ _ => pe_tup (pa_cons (pe_str) (pa_cons (pv 6) pa_nil)))) (pss_one (ps_ret (pe_lst (pa_cons (pe_tup (pa_cons (pe_str) pa_nil)) (pa_cons (pe_tup (pa_cons (pe_str) pa_nil)) (StX.pa_star (pv 2) (StX.pa_star (pv 3) (StX.pa_star (pv 4) (pa_cons (pe_tup (pa_cons (pe_str) pa_nil)) (pa_cons (pe_tup (pa_cons (pe_str) pa_nil)) (pa_cons (pe_tup (pa_cons (pe_str) pa_nil)) pa_nil)))))))))))))), ?_⟩
  rintro ⟨b, r⟩ hp
  replace hp : (2 ≤ b ∧ b ≤ 12) ∧ (1 ≤ r ∧ r ≤ 4) := hp
  show S1 E _ [some (D K (.int b)), some (D K (.int r)), none, none, none, none, none] [] { nx := fun _ μ => BackY (fun x Q μ => Q = (fun (x : (Int) × (Int)) => match x with | (b, r) => D K (.list ((allDeeds b r).map deedD))) x ∧ μ = []) (b, r) (D K .none) μ, rt := BackY (fun x Q μ => Q = (fun (x : (Int) × (Int)) => match x with | (b, r) => D K (.list ((allDeeds b r).map deedD))) x ∧ μ = []) (b, r) }
  try simp only [cx_K, cx_KX]
  obtain ⟨hb, hr'⟩ := hp
  refine s_let (Q := D K (.list ((offsOf b).map deedD))) (μ1 := []) ?_ ?_
  · unfold offsOf
    rw [List.map_map]
    refine EO.frz (o_mapR2 (by walk_at "ev") (by walk_at "ev") (by omega) fun x _ _ => ?_)
    exact e_tup (d_cons (by walk_at "ev") (d_cons (by walk_at "ev") d_nil)) (by show 2 ≤ 1000; decide)
  refine s_let (Q := D K (.list ((readsOf b r).map deedD))) (μ1 := []) ?_ ?_
  · unfold readsOf
    rw [List.map_flatMap]
    refine EO.frz (o_lc2 (xs := List.range r.toNat) (en := fun x => D K (.int (x : Int))) (X := fun k => D K (.int (k : Int))) (N := 20) (by rw [List.length_range]; exact i_rng1 (by walk_at "ev") (by omega)) (fun i x h => ?_) (fun x hx => ?_) ?_ fun x hx => ?_)
    · rw [List.getElem?_eq_some_iff] at h
      obtain ⟨_, h⟩ := h
      rw [← h, List.getElem_range]
    · simp
      omega
    · simp
      omega
    · refine ⟨_, g_name, fun k => D K (.int (1 + (k : Int))), ?_, fun j y hy => ⟨_, g_name, ?_⟩⟩
      · simp only [List.length_map, List.length_range]
        exact i_rng2 (by walk_at "ev") (by walk_at "ev") (by omega)
      · have hj : j < (b - 1).toNat := by
          have := (List.getElem?_eq_some_iff.mp hy).1
          simpa using this
        have : y = deedD (.read (x : Int) (1 + (j : Int))) := by
          rw [List.getElem?_map, List.getElem?_map, List.getElem?_map, List.getElem?_range hj] at hy
          exact (Option.some.inj hy).symm
        subst this
        exact e_tup (d_cons (by walk_at "ev") (d_cons (by walk_at "ev") (d_cons (by walk_at "ev") d_nil))) (by show 3 ≤ 1000; decide)
  refine s_let (Q := D K (.list ((copiesOf r).map deedD))) (μ1 := []) ?_ ?_
  · unfold copiesOf
    rw [List.map_map]
    refine EO.frz (o_mapR (by walk_at "ev") (by omega) fun x _ => ?_)
    exact e_tup (d_cons (by walk_at "ev") (d_cons (by walk_at "ev") d_nil)) (by show 2 ≤ 1000; decide)
  refine s_ret (EO.frz (o_lst (by walk_at "ed") ?_)) (back_D (imp_D ?_))
  · have h1 : r.toNat * (b - 1).toNat ≤ 4 * 11 := Nat.mul_le_mul (by omega) (by omega)
    simp only [List.length_cons, List.length_append, List.length_map, offsOf_len, readsOf_len, copiesOf_len, List.length_nil]
    omega
  · simp only [allDeeds, List.map_append]
    rfl
theorem e_deeds_of  {δ : En} {μ μ' : Mp} {E : XK} {b : Int} {r : Int} {tA : TA} (h : EA tA δ μ [D K (.int b), D K (.int r)] μ') (hp : (2 ≤ b ∧ b ≤ 12) ∧ (1 ≤ r ∧ r ≤ 4)) : E1 (tCall (sp_deeds_of K ) [] E tA) δ μ (D K (.list ((allDeeds b r).map deedD))) μ' := e_callD (b, r) h hp
local macro_rules | `(tactic| walk_at "call") => `(tactic| ((with_reducible apply e_deeds_of); (· walk_at "ea"); (· walk_at "sd")))
def sp_is_deed (K : PySem.W.Frag)  : Sp := spD (α := (Int) × (Int) × (PyData)) (fun (x : (Int) × (Int) × (PyData)) => match x with | (b, r, d) => [D K (.int b), D K (.int r), D K d]) (fun (x : (Int) × (Int) × (PyData)) => match x with | (b, r, d) => (2 ≤ b ∧ b ≤ 12) ∧ (1 ≤ r ∧ r ≤ 4) ∧ dlen d ≤ 100000 ∧ SeqAt.shaped d = true) (fun (x : (Int) × (Int) × (PyData)) => match x with | (b, r, d) => D K (.bool (isDeedD b r d)))
theorem ok_is_deed (T : Txt K mg) : FnOk P w K mg base CX0 2 T.a_is_deed T.fd_is_deed ["base", "rows", "value"] (sp_is_deed K ) := by
  refine fn_Y T.F_is_deed sc_is_deed (fun _ => rfl) fun cdv A outer s H E hr => ⟨_, (pss_one (ps_ret (pe_and (pe_call (ok__is_plain T) (hr.mono (by decide)) (by rfl) T.m__is_plain T.F__is_plain.kp T.b__is_plain .nil pass0 (pa_cons (pv 2) pa_nil)) (pe_one (pe_cmpR (k_inD (K := K) rfl (room65 hr)) (pv 2) (pe_call (ok_deeds_of T) (hr.mono (by decide)) (by rfl) T.m_deeds_of T.F_deeds_of.kp T.b_deeds_of .nil pass0 (pa_cons (pv 0) (pa_cons (pv 1) pa_nil))) (by with_unfolding_all rfl)))))), ?_⟩
  rintro ⟨b, r, d⟩ hp
  replace hp : (2 ≤ b ∧ b ≤ 12) ∧ (1 ≤ r ∧ r ≤ 4) ∧ dlen d ≤ 100000 ∧ SeqAt.shaped d = true := hp
  show S1 E _ [some (D K (.int b)), some (D K (.int r)), some (D K d)] [] { nx := fun _ μ => BackY (fun x Q μ => Q = (fun (x : (Int) × (Int) × (PyData)) => match x with | (b, r, d) => D K (.bool (isDeedD b r d))) x ∧ μ = []) (b, r, d) (D K .none) μ, rt := BackY (fun x Q μ => Q = (fun (x : (Int) × (Int) × (PyData)) => match x with | (b, r, d) => D K (.bool (isDeedD b r d))) x ∧ μ = []) (b, r, d) }
  try simp only [cx_K, cx_KX]
  obtain ⟨hb, hr', hl, hs⟩ := hp
  refine s_ret (e_and (K := K) (by walk_at "ev") fun _ => ?_) (back_D (imp_D rfl))
  refine e_inD (K := K) (by walk_at "ev") (e_deeds_of (by walk_at "ea") ⟨hb, hr'⟩) dr_D dr_D hs ?_ ?_
  · refine (sh_lst (n := 1) fun x hx => ?_).ok
    obtain ⟨y, _, rfl⟩ := List.mem_map.mp hx
    refine sh_tup (n := 0) fun z hz => ?_
    cases y <;> simp only [Deed.L, List.mem_cons, List.not_mem_nil, or_false] at hz
    all_goals (first | (rcases hz with rfl | rfl | rfl) | (rcases hz with rfl | rfl) | subst hz) <;> first | exact ⟨by decide +kernel, Nat.le_refl _⟩ | exact ⟨rfl, Nat.le_refl _⟩
  · rw [List.any_map]
    rfl
theorem e_is_deed  {δ : En} {μ μ' : Mp} {E : XK} {b : Int} {r : Int} {d : PyData} {tA : TA} (h : EA tA δ μ [D K (.int b), D K (.int r), D K d] μ') (hp : (2 ≤ b ∧ b ≤ 12) ∧ (1 ≤ r ∧ r ≤ 4) ∧ dlen d ≤ 100000 ∧ SeqAt.shaped d = true) : E1 (tCall (sp_is_deed K ) [] E tA) δ μ (D K (.bool (isDeedD b r d))) μ' := e_callD (b, r, d) h hp
local macro_rules | `(tactic| walk_at "call") => `(tactic| ((with_reducible apply e_is_deed); (· walk_at "ea"); (· walk_at "sd")))
def sp_is_slip (K : PySem.W.Frag) (c_Sheet : Addr) : Sp := sp (α := Mp × (Pr) × (Int) × (Int) × (Int) × (List (List Int)) × (PyData)) (fun (x : Mp × (Pr) × (Int) × (Int) × (Int) × (List (List Int)) × (PyData)) => match x with | (ms, P1, b, r, lo, cs, d) => [P1, D K (.int lo), D K d]) (fun (x : Mp × (Pr) × (Int) × (Int) × (Int) × (List (List Int)) × (PyData)) => match x with | (ms, P1, b, r, lo, cs, d) => ms) (fun (x : Mp × (Pr) × (Int) × (Int) × (Int) × (List (List Int)) × (PyData)) => match x with | (ms, P1, b, r, lo, cs, d) => (SR K c_Sheet P1 ms b r cs) ∧ (GoodSh b r cs ∧ dlen d ≤ 100000 ∧ SeqAt.shaped d = true ∧ (∀ x ∈ itemsOf d, dlen x ≤ 100000))) (fun x Q μ => Q = (fun (x : Mp × (Pr) × (Int) × (Int) × (Int) × (List (List Int)) × (PyData)) => match x with | (ms, P1, b, r, lo, cs, d) => D K (.bool (isSlipD b r cs.length lo d))) x ∧ μ = (fun (x : Mp × (Pr) × (Int) × (Int) × (Int) × (List (List Int)) × (PyData)) => match x with | (ms, P1, b, r, lo, cs, d) => ms) x)
theorem ok_is_slip (T : Txt K mg) : FnOk P w K mg base CX0 4 T.a_is_slip T.fd_is_slip ["sheet", "low", "value"] (sp_is_slip K T.c_Sheet) := by
  refine fn_Y T.F_is_slip sc_is_slip (fun _ => rfl) fun cdv A outer s H E hr => ⟨_, (pss_cons (ps_if (PW.pt (pw_or (pt_not (pt_val (pe_callB (k_isi (K := K) rfl) (by rfl) T.n_isinstance (by decide +kernel) (pa_cons (pv 2) (pa_cons (pe_bltn (v := .ty "tuple") (by rfl) T.n_tuple (by decide +kernel) rfl) pa_nil))))) (pw_or1 (pt_cmpR op_ne (pe_callB (k_len (K := K) rfl) (by rfl) T.n_len (by decide +kernel) (pa_cons (pv 2) pa_nil)) (pe_int) (nomark _))))) (pss_one (ps_ret (pe_bl))) (pss_nil)) (pss_one (ps_ret (pe_and (pe_call (ok_is_whole T) (hr.mono (by decide)) (by rfl) T.m_is_whole T.F_is_whole.kp T.b_is_whole .nil pass0 (pa_cons (pe_ix (k_ixT (K := K) rfl) (pv 2) (pe_int) (fun _ _ => rfl)) (pa_cons (pv 1) (pa_cons (pe_op op_sub (pe_callB (len_Sheet___len__ T (hr := hr.mono (by decide))) (by rfl) T.n_len (by decide +kernel) (pa_cons (pv 0) pa_nil)) (pe_int)) pa_nil)))) (pe_one (pe_call (ok_is_deed T) (hr.mono (by decide)) (by rfl) T.m_is_deed T.F_is_deed.kp T.b_is_deed .nil pass0 (pa_cons (pe_prop (pv 0) T.cl_Sheet T.p_Sheet_base (ok_Sheet_base T) (hr.mono (by decide)) T.b_Sheet_base .nil pass0 rfl) (pa_cons (pe_prop (pv 0) T.cl_Sheet T.p_Sheet_rows (ok_Sheet_rows T) (hr.mono (by decide)) T.b_Sheet_rows .nil pass0 rfl) (pa_cons (pe_ix (k_ixT (K := K) rfl) (pv 2) (pe_int) (fun _ _ => rfl)) pa_nil))))))))), ?_⟩
  rintro ⟨ms, P1, b, r, lo, cs, d⟩ hp
  replace hp : (SR K T.c_Sheet P1 ms b r cs) ∧ (GoodSh b r cs ∧ dlen d ≤ 100000 ∧ SeqAt.shaped d = true ∧ (∀ x ∈ itemsOf d, dlen x ≤ 100000)) := hp
  obtain ⟨hS, hp⟩ := hp
  show S1 E _ [some (P1), some (D K (.int lo)), some (D K d)] ms { nx := fun _ μ => BackY (fun x Q μ => Q = (fun (x : Mp × (Pr) × (Int) × (Int) × (Int) × (List (List Int)) × (PyData)) => match x with | (ms, P1, b, r, lo, cs, d) => D K (.bool (isSlipD b r cs.length lo d))) x ∧ μ = (fun (x : Mp × (Pr) × (Int) × (Int) × (Int) × (List (List Int)) × (PyData)) => match x with | (ms, P1, b, r, lo, cs, d) => ms) x) (ms, P1, b, r, lo, cs, d) (D K .none) μ, rt := BackY (fun x Q μ => Q = (fun (x : Mp × (Pr) × (Int) × (Int) × (Int) × (List (List Int)) × (PyData)) => match x with | (ms, P1, b, r, lo, cs, d) => D K (.bool (isSlipD b r cs.length lo d))) x ∧ μ = (fun (x : Mp × (Pr) × (Int) × (Int) × (Int) × (List (List Int)) × (PyData)) => match x with | (ms, P1, b, r, lo, cs, d) => ms) x) (ms, P1, b, r, lo, cs, d) }
  try simp only [cx_K, cx_KX]
  obtain ⟨g, hl, hs, hi⟩ := hp
  have hb : 2 ≤ b ∧ b ≤ 12 := ⟨g.b2, g.b12⟩
  have hr4 : 1 ≤ r ∧ r ≤ 4 := ⟨g.r1, g.r4⟩
  have hlen := g.len
  by_cases ht : isTy d "tuple" = true
  · obtain ⟨ds, rfl⟩ := tup_of ht
    refine s_ifr (μ1 := ms) (by walk_at "tv") (fun h => ?_) (fun h => ?_)
    · walk_at "retR"
      match ds, h with
      | [], _ => rfl
      | [_], _ => rfl
      | [_, _], h => cases h
      | _ :: _ :: _ :: _, _ => rfl
    · have h2 : ds.length = 2 := by
        have := (Bool.or_eq_false_iff.mp h).2
        simp only [Bool.not_eq_false', decide_eq_true_eq] at this
        omega
      match ds, h2 with
      | [x, y], _ =>
        have hy1 : dlen y ≤ 100000 := hi y (by simp [itemsOf])
        have hy2 := sh_item (e := y) hs (by simp [itemsOf])
        refine s_ret (Q := D K (.bool (isWhole x lo ((cs.length : Int) - 1) && isDeedD b r y))) (μ1 := ms) (e_and (K := K) (by walk_at "ev") fun _ => ?_) ?_
        rotate_left
        · walk_at "bk"
          rfl
        exact e_is_deed (by walk_at "ea") ⟨hb, hr4, hy1, hy2⟩
  · refine s_ifr (μ1 := ms) (a := true) ?_ (fun _ => ?_) (fun h => by cases h)
    · have hn : isTy d "tuple" = false := by simpa using ht
      have : T1 (tNot (tB (tCB (rIsi K) (tCons (tVar 2) (tCons (tC (.ty "tuple")) tNil))))) [some P1, some (D K (.int lo)), some (D K d)] ms true ms := by
        have := t_not (t_B (K := K) (e_isi (K := K) (T := "tuple") (e_var (k := 2) (δ := [some P1, some (D K (.int lo)), some (D K d)]) (μ := ms) rfl) (.inr (.inr (.inl rfl)))))
        rw [hn] at this
        exact this
      exact t_or (b := true) this fun z => by cases z
    · walk_at "retR"
      cases d <;> first | rfl | exact absurd rfl ht
theorem e_is_slip {c_Sheet : Addr} {tA : TA} {δ : En} {μ ms : Mp} {E : XK} {P1 : Pr} {b : Int} {r : Int} {lo : Int} {cs : List (List Int)} {d : PyData} (h : EA tA δ μ [P1, D K (.int lo), D K d] ms) (hS : SR K c_Sheet P1 ms b r cs) (hp : GoodSh b r cs ∧ dlen d ≤ 100000 ∧ SeqAt.shaped d = true ∧ (∀ x ∈ itemsOf d, dlen x ≤ 100000)) : E1 (tCall (sp_is_slip K c_Sheet) [] E tA) δ μ (D K (.bool (isSlipD b r cs.length lo d))) ms := e_callR (ms, P1, b, r, lo, cs, d) (by simpa using h) ⟨hS, hp⟩
local macro_rules | `(tactic| walk_at "call") => `(tactic| ((with_reducible apply e_is_slip); (· walk_at "ea"); (· walk_at "sr"); (· walk_at "sd")))
def sp_add_with (K : PySem.W.Frag) (c_Sheet : Addr) (c_Written : Addr) : Sp := sp (α := Mp × (Pr) × (Pr) × (Int) × (Int) × (List (List Int)) × (List (Int × Deed)) × (List Int × Int)) (fun (x : Mp × (Pr) × (Pr) × (Int) × (Int) × (List (List Int)) × (List (Int × Deed)) × (List Int × Int)) => match x with | (ms, P1, P2, b, r, cs, sl, ww) => [P1, P2]) (fun (x : Mp × (Pr) × (Pr) × (Int) × (Int) × (List (List Int)) × (List (Int × Deed)) × (List Int × Int)) => match x with | (ms, P1, P2, b, r, cs, sl, ww) => ms) (fun (x : Mp × (Pr) × (Pr) × (Int) × (Int) × (List (List Int)) × (List (Int × Deed)) × (List Int × Int)) => match x with | (ms, P1, P2, b, r, cs, sl, ww) => (SR K c_Sheet P1 ms b r cs) ∧ (LR K P2 ms (sl.map slipD)) ∧ (GoodSh b r cs ∧ sl.length ≤ 10000 ∧ addV b r cs sl 0 0 = some ww)) (fun x Q μ => Q = (fun (x : Mp × (Pr) × (Pr) × (Int) × (Int) × (List (List Int)) × (List (Int × Deed)) × (List Int × Int)) => match x with | (ms, P1, P2, b, r, cs, sl, ww) => (WrP K c_Written b ww.1 ww.2)) x ∧ μ = (fun (x : Mp × (Pr) × (Pr) × (Int) × (Int) × (List (List Int)) × (List (Int × Deed)) × (List Int × Int)) => match x with | (ms, P1, P2, b, r, cs, sl, ww) => ms) x)
theorem ok_add_with (T : Txt K mg) : FnOk P w K mg base CX0 5 T.a_add_with T.fd_add_with ["sheet", "slips"] (sp_add_with K T.c_Sheet T.c_Written) := by
  refine fn_Y T.F_add_with sc_add_with (fun _ => rfl) fun cdv A outer s H E hr => ⟨_, (pss_cons (ps_set (i := 2) sc_add_with.nd rfl (Or.inl rfl) (pe_prop (pv 0) T.cl_Sheet T.p_Sheet_base (ok_Sheet_base T) (hr.mono (by decide)) T.b_Sheet_base .nil pass0 rfl)) (pss_cons (ps_set (i := 3) sc_add_with.nd rfl (Or.inl rfl) (pe_prop (pv 0) T.cl_Sheet T.p_Sheet_columns (ok_Sheet_columns T) (hr.mono (by decide)) T.b_Sheet_columns .nil pass0 rfl)) (pss_cons (ps_set (i := 4) sc_add_with.nd rfl (Or.inl rfl) (pe_lst pa_nil)) (pss_cons (ps_set (i := 5) sc_add_with.nd rfl (Or.inl rfl) (pe_int)) (pss_cons (ps_set (i := 6) sc_add_with.nd rfl (Or.inl rfl) (pe_int)) (pss_cons (ps_for PassesOwn.never rfl (pi_enum (by rfl) T.n_enumerate (pa_cons (pv 1) pa_nil)) (pg_tup (by rfl) (pgs_cons (pg_name (i := 7) sc_add_with.nd rfl (Or.inl rfl)) (pgs_cons (pg_name (i := 8) sc_add_with.nd rfl (Or.inl rfl)) pgs_nil))) (pss_cons (ps_if (pt_not (pt_val (pe_call (ok_is_slip T) (hr.mono (by decide)) (by rfl) T.m_is_slip T.F_is_slip.kp T.b_is_slip .nil pass0 (pa_cons (pv 0) (pa_cons (pv 6) (pa_cons (pv 8) pa_nil)))))) (pss_one (ps_never)) (pss_nil)) (pss_cons (ps_asg (pv 8) (pg_tup (by rfl) (pgs_cons (pg_name (i := 10) sc_add_with.nd rfl (Or.inl rfl)) (pgs_cons (pg_name (i := 11) sc_add_with.nd rfl (Or.inl rfl)) pgs_nil)))) (pss_cons (ps_asg (pe_call (ok_do_columns T) (hr.mono (by decide)) (by rfl) T.m_do_columns T.F_do_columns.kp T.b_do_columns .nil pass0 (pa_cons (pv 2) (pa_cons (pe_slice (k_slL (K := K) rfl) (pv 3) (po_some (pv 6)) (po_some (pv 10))) (pa_cons (pv 5) pa_nil)))) (pg_tup (by rfl) (pgs_cons (pg_name (i := 9) sc_add_with.nd rfl (Or.inl rfl)) (pgs_cons (pg_name (i := 5) sc_add_with.nd rfl (Or.inl rfl)) pgs_nil)))) (pss_cons (ps_set (i := 12) sc_add_with.nd rfl (Or.inl rfl) (pe_call (ok_do_slip T) (hr.mono (by decide)) (by rfl) T.m_do_slip T.F_do_slip.kp T.b_do_slip .nil pass0 (pa_cons (pv 2) (pa_cons (pv 3) (pa_cons (pv 10) (pa_cons (pv 5) (pa_cons (pv 11) pa_nil))))))) (pss_cons (ps_if (pt_cmp (pc_isN (pv 12)) rfl) (pss_one (ps_never)) (pss_nil)) (pss_cons (ps_asg (pv 12) (pg_tup (by rfl) (pgs_cons (pg_name (i := 13) sc_add_with.nd rfl (Or.inl rfl)) (pgs_cons (pg_name (i := 5) sc_add_with.nd rfl (Or.inl rfl)) (pgs_cons (pg_name (i := 6) sc_add_with.nd rfl (Or.inl rfl)) pgs_nil))))) (pss_one (ps_set (i := 4) sc_add_with.nd rfl (Or.inl rfl) (pe_op (k_cat (K := K) rfl) (pe_op (k_cat (K := K) rfl) (pv 4) (pv 9)) (pv 13))))))))))) (pss_cons (ps_asg (pe_call (ok_do_columns T) (hr.mono (by decide)) (by rfl) T.m_do_columns T.F_do_columns.kp T.b_do_columns .nil pass0 (pa_cons (pv 2) (pa_cons (pe_slice (k_slL (K := K) rfl) (pv 3) (po_some (pv 6)) po_none) (pa_cons (pv 5) pa_nil)))) (pg_tup (by rfl) (pgs_cons (pg_name (i := 9) sc_add_with.nd rfl (Or.inl rfl)) (pgs_cons (pg_name (i := 5) sc_add_with.nd rfl (Or.inl rfl)) pgs_nil)))) (pss_one (ps_ret (pe_make T.k_Written (ok_Written___init__ T) (hr.mono (by decide)) (by rfl) T.m_Written T.b_Written___init__ .nil pass0 (pa_cons (pv 2) (pa_cons (pe_op (k_cat (K := K) rfl) (pv 4) (pv 9)) (pa_cons (pv 5) pa_nil))))))))))))), ?_⟩
  rintro ⟨ms, P1, P2, b, r, cs, sl, ww⟩ hp
  replace hp : (SR K T.c_Sheet P1 ms b r cs) ∧ (LR K P2 ms (sl.map slipD)) ∧ (GoodSh b r cs ∧ sl.length ≤ 10000 ∧ addV b r cs sl 0 0 = some ww) := hp
  obtain ⟨hS, hL, hp⟩ := hp
  show S1 E _ [some (P1), some (P2), none, none, none, none, none, none, none, none, none, none, none, none] ms { nx := fun _ μ => BackY (fun x Q μ => Q = (fun (x : Mp × (Pr) × (Pr) × (Int) × (Int) × (List (List Int)) × (List (Int × Deed)) × (List Int × Int)) => match x with | (ms, P1, P2, b, r, cs, sl, ww) => (WrP K T.c_Written b ww.1 ww.2)) x ∧ μ = (fun (x : Mp × (Pr) × (Pr) × (Int) × (Int) × (List (List Int)) × (List (Int × Deed)) × (List Int × Int)) => match x with | (ms, P1, P2, b, r, cs, sl, ww) => ms) x) (ms, P1, P2, b, r, cs, sl, ww) (D K .none) μ, rt := BackY (fun x Q μ => Q = (fun (x : Mp × (Pr) × (Pr) × (Int) × (Int) × (List (List Int)) × (List (Int × Deed)) × (List Int × Int)) => match x with | (ms, P1, P2, b, r, cs, sl, ww) => (WrP K T.c_Written b ww.1 ww.2)) x ∧ μ = (fun (x : Mp × (Pr) × (Pr) × (Int) × (Int) × (List (List Int)) × (List (Int × Deed)) × (List Int × Int)) => match x with | (ms, P1, P2, b, r, cs, sl, ww) => ms) x) (ms, P1, P2, b, r, cs, sl, ww) }
  try simp only [cx_K, cx_KX]
  obtain ⟨g, hsl, hw⟩ := hp
  have hb : 2 ≤ b ∧ b ≤ 12 := ⟨g.b2, g.b12⟩
  have hlen := g.len
  have hwl := addV_len (Nat.zero_le _) hw
  walk_at "let"
  walk_at "let"
  refine s_let (Q := D K (.list (([] : List Int).map .int))) (μ1 := ms) (EO.frz (o_lst (K := K) d_nil (by decide))) ?_
  walk_at "let"
  walk_at "let"
  refine s_seq (N := fun δ μ => ms = μ ∧ ∃ (F : List Int) (c : Int) (lo : Nat) (f : List Int × Int), Le δ [some P1, some P2, some (D K (.int b)), some (D K (.list (cs.map colD))), some (D K (.list (F.map .int))), some (D K (.int c)), some (D K (.int (lo : Int))), none, none, none, none, none, none, none] ∧ lo ≤ cs.length ∧ addV b r cs [] lo c = some f ∧ F ++ f.1 = ww.1 ∧ f.2 = ww.2) ?_ ?_
  · refine s_for (kp := ms) (fun i δ μ => ms = μ ∧ ∃ (F : List Int) (c : Int) (lo : Nat) (f : List Int × Int), Le δ [some P1, some P2, some (D K (.int b)), some (D K (.list (cs.map colD))), some (D K (.list (F.map .int))), some (D K (.int c)), some (D K (.int (lo : Int))), none, none, none, none, none, none, none] ∧ lo ≤ cs.length ∧ addV b r cs (sl.drop i) lo c = some f ∧ F ++ f.1 = ww.1 ∧ f.2 = ww.2) (i_enumR (K := K) (by walk_at "ev") hL (List.Sublist.refl _)) ?_ ?_ ?_ ?_
    · exact ⟨rfl, [], 0, 0, ww, by walk_at "le", Nat.zero_le _, hw, rfl, rfl⟩
    · rintro i δ' _ hi ⟨rfl, F, c, lo, f, hle, hlo, hf, hF, hf2⟩
      rw [List.length_map] at hi
      have hx : sl[i]? = some sl[i] := List.getElem?_eq_getElem hi
      rcases hax : sl[i] with ⟨a, x⟩
      rw [List.drop_eq_getElem_cons hi, hax] at hf
      obtain ⟨hc, w2, g2, hw2, hg2, rfl⟩ := addV_cons hf
      obtain ⟨ha1, ha2, hxm⟩ := hc
      have hFl : F.length + ((doCols b ((cs.take a.toNat).drop lo) c).1.length + w2.1.length) ≤ 20000 := by
        have := congrArg List.length hF
        simp only [List.length_append] at this
        omega
      refine ⟨_, [7, 8], G1.le (by rw [getD_map hx, hax]; exact g_two rfl) hle, ?_⟩
      have hi0 : 0 ≤ a := by omega
      refine s_ifr (a := !(isSlipD b r cs.length lo (slipD (a, x)))) (μ1 := ms) (t_not (t_B (K := K) (by exact e_is_slip (by walk_at "ea") hS ⟨g, by show 2 ≤ 100000; decide, (sh_slip (n := 0) _).ok, by
          intro y hy
          simp only [itemsOf, slipD, List.mem_cons, List.not_mem_nil, or_false] at hy
          rcases hy with rfl | rfl
          · exact Nat.zero_le _
          · have := dlen_deed x
            show dlen (deedD x) ≤ _
            omega⟩))) (fun h => ?_) (fun _ => ?_)
      · rw [isSlip_of ⟨ha1, ha2, hxm⟩] at h
        cases h
      refine s_unp2 (K := K) (μ1 := ms) (d := .int a) (e := deedD x) (by walk_at "ev") ?_
      have hl3 : ((cs.take a.toNat).drop ((lo : Int)).toNat).length ≤ 10000 := by simp; omega
      have hlo0 : (0 : Int) ≤ (lo : Int) := by omega
      refine s_unp2 (K := K) (μ1 := ms) (d := .list ((doCols b ((cs.take a.toNat).drop lo) c).1.map .int)) (e := .int (doCols b ((cs.take a.toNat).drop lo) c).2) (by exact e_do_columns (cs := (cs.take a.toNat).drop ((lo : Int)).toNat) (by walk_at "ea") ⟨hb, hl3⟩) ?_
      refine s_let (Q := D K (slipR a (some w2) x)) (μ1 := ms) (by rw [← hw2]; exact e_do_slip (r := r) (by walk_at "ea") ⟨g, hxm, hi0, ha2⟩) ?_
      refine s_ifr (μ1 := ms) (by walk_at "tv") (fun h => by cases h) (fun _ => ?_)
      refine s_unp3 (K := K) (μ1 := ms) (d := .list (w2.1.map .int)) (e := .int w2.2) (d3 := .int (if x = .swap then a + 2 else a + 1)) (by walk_at "ev") ?_
      have hlo2 := addV_lo (r := r) ⟨ha1, ha2⟩ hw2
      have hq : (((if x = .swap then a.toNat + 2 else a.toNat + 1 : Nat)) : Int) = if x = .swap then a + 2 else a + 1 := by
        by_cases h : x = .swap
        · rw [if_pos h, if_pos h]
          omega
        · rw [if_neg h, if_neg h]
          omega
      rw [← hq]
      refine s_set (Q := D K (.list ((F ++ (doCols b ((cs.take a.toNat).drop lo) c).1 ++ w2.1).map .int))) (μ1 := ms) (EO.frz (o_catM (EO.frz (o_catM (by walk_at "ev") (by walk_at "ev") lr_D lr_D (by omega))) (by walk_at "ev") lr_D lr_D (by simp only [List.length_append]; omega))) ⟨rfl, F ++ (doCols b ((cs.take a.toNat).drop lo) c).1 ++ w2.1, w2.2, _, g2, ?_, hlo2, hg2, ?_, hf2⟩
      · walk_at "le"
      · have hF' : F ++ ((doCols b ((cs.take a.toNat).drop lo) c).1 ++ w2.1 ++ g2.1) = ww.1 := hF
        rw [← hF']
        simp only [List.append_assoc]
    · rintro δ' _ ⟨rfl, F, c, lo, f, hle, hlo, hf, hF, hf2⟩
      rw [List.length_map, List.drop_length] at hf
      exact ⟨rfl, F, c, lo, f, hle, hlo, hf, hF, hf2⟩
    · rintro i δ' μ' ⟨rfl, _⟩
      exact List.Sublist.refl _
  · rintro δ' _ ⟨rfl, F, c, lo, f, hle, hlo, hf, hF, hf2⟩
    refine S1.le ?_ hle
    cases hf
    have hl3 : (cs.drop ((lo : Int)).toNat).length ≤ 10000 := by simp; omega
    have hlo0 : (0 : Int) ≤ (lo : Int) := by omega
    refine s_unp2 (K := K) (μ1 := ms) (d := .list ((doCols b (cs.drop lo) c).1.map .int)) (e := .int (doCols b (cs.drop lo) c).2) (by exact e_do_columns (cs := cs.drop ((lo : Int)).toNat) (by walk_at "ea") ⟨hb, hl3⟩) ?_
    have hlw := congrArg List.length hF
    simp only [List.length_append] at hlw
    refine s_ret (Q := WrP K T.c_Written b ww.1 ww.2) (μ1 := ms) ?_ (backY_mk ⟨rfl, rfl⟩ (Imp.refl _) (List.Sublist.refl _))
    rw [← hF, ← hf2]
    exact e_mkWr (by walk_at "ev") (EO.frz (o_catM (by walk_at "ev") (by walk_at "ev") lr_D lr_D (by omega))) (by walk_at "ev") lr_D
theorem e_add_with {c_Sheet : Addr} {c_Written : Addr} {tA : TA} {δ : En} {μ ms : Mp} {E : XK} {P1 : Pr} {P2 : Pr} {b : Int} {r : Int} {cs : List (List Int)} {sl : List (Int × Deed)} {ww : List Int × Int} (h : EA tA δ μ [P1, P2] ms) (hS : SR K c_Sheet P1 ms b r cs) (hL : LR K P2 ms (sl.map slipD)) (hp : GoodSh b r cs ∧ sl.length ≤ 10000 ∧ addV b r cs sl 0 0 = some ww) : E1 (tCall (sp_add_with K c_Sheet c_Written) [] E tA) δ μ ((WrP K c_Written b ww.1 ww.2)) ms := e_callR (ms, P1, P2, b, r, cs, sl, ww) (by simpa using h) ⟨hS, hL, hp⟩
local macro_rules | `(tactic| walk_at "call") => `(tactic| ((with_reducible apply e_add_with); (· walk_at "ea"); (· walk_at "sr"); (· walk_at "lr"); (· walk_at "sd")))
theorem e_add_with0 {c_Sheet c_Written : Addr} {tA : TA} {δ : En} {μ ms : Mp} {E : XK} {P1 : Pr} {b r : Int} {cs : List (List Int)} (h : EA tA δ μ [P1, D K (.list [])] ms) (hS : SR K c_Sheet P1 ms b r cs) (hp : GoodSh b r cs) : E1 (tCall (sp_add_with K c_Sheet c_Written) [] E tA) δ μ (WrP K c_Written b (doCols b cs 0).1 (doCols b cs 0).2) ms := e_add_with (P2 := D K (.list [])) (sl := []) (ww := doCols b cs 0) h hS lr_D ⟨hp, by simp, rfl⟩
local macro_rules | `(tactic| walk_at "call") => `(tactic| ((with_reducible apply e_add_with0); (· walk_at "ea"); (· walk_at "sr"); (· walk_at "sd")))
def sp__law_behind_right (K : PySem.W.Frag) (c_Sheet : Addr) (c_Written : Addr) : Sp := sp (α := Mp × (Pr) × (Pr) × (Int) × (Int) × (List (List Int)) × (List (List Int)) × (List (Int × Deed)) × (List Int × Int)) (fun (x : Mp × (Pr) × (Pr) × (Int) × (Int) × (List (List Int)) × (List (List Int)) × (List (Int × Deed)) × (List Int × Int)) => match x with | (ms, P1, P2, b, r, cs, cn, sl, ww) => [P1, D K (.list (sl.map slipD)), P2, D K (.int b)]) (fun (x : Mp × (Pr) × (Pr) × (Int) × (Int) × (List (List Int)) × (List (List Int)) × (List (Int × Deed)) × (List Int × Int)) => match x with | (ms, P1, P2, b, r, cs, cn, sl, ww) => ms) (fun (x : Mp × (Pr) × (Pr) × (Int) × (Int) × (List (List Int)) × (List (List Int)) × (List (Int × Deed)) × (List Int × Int)) => match x with | (ms, P1, P2, b, r, cs, cn, sl, ww) => (SR K c_Sheet P1 ms b r cs) ∧ (SR K c_Sheet P2 ms b r cn) ∧ (GoodSh b r cs ∧ cs.length ≤ 60 ∧ GoodSh b r cn ∧ cn.length ≤ 60 ∧ sl.length ≤ 10000 ∧ addV b r cs sl 0 0 = some ww)) (fun x Q μ => Q = (fun (x : Mp × (Pr) × (Pr) × (Int) × (Int) × (List (List Int)) × (List (List Int)) × (List (Int × Deed)) × (List Int × Int)) => match x with | (ms, P1, P2, b, r, cs, cn, sl, ww) => D K (.bool true)) x ∧ μ = (fun (x : Mp × (Pr) × (Pr) × (Int) × (Int) × (List (List Int)) × (List (List Int)) × (List (Int × Deed)) × (List Int × Int)) => match x with | (ms, P1, P2, b, r, cs, cn, sl, ww) => ms) x)
theorem ok__law_behind_right (T : Txt K mg) : FnOk P w K mg base CX0 8 T.a__law_behind_right T.fd__law_behind_right ["sheet", "slips", "more", "base"] (sp__law_behind_right K T.c_Sheet T.c_Written) := by
  refine fn_Y T.F__law_behind_right sc__law_behind_right (fun _ => rfl) fun cdv A outer s H E hr => ⟨_, (pss_cons (ps_set (i := 4) sc__law_behind_right.nd rfl (Or.inl rfl) (pe_call (ok_add_with T) (hr.mono (by decide)) (by rfl) T.m_add_with T.F_add_with.kp T.b_add_with .nil pass0 (pa_cons (pv 0) (pa_cons (pe_callTy (k_list (K := K) rfl) (by rfl) T.n_list (by decide +kernel) (pa_cons (pv 1) pa_nil)) pa_nil)))) (pss_cons (ps_set (i := 5) sc__law_behind_right.nd rfl (Or.inl rfl) (pe_call (ok_add_with T) (hr.mono (by decide)) (by rfl) T.m_add_with T.F_add_with.kp T.b_add_with .nil pass0 (pa_cons (pe_op (opO_Sheet___add__ T (hr := hr.mono (by decide))) (pv 0) (pv 2)) (pa_cons (pe_callTy (k_list (K := K) rfl) (by rfl) T.n_list (by decide +kernel) (pa_cons (pv 1) pa_nil)) pa_nil)))) (pss_cons (ps_set (i := 6) sc__law_behind_right.nd rfl (Or.inl rfl) (pe_callB (k_len (K := K) rfl) (by rfl) T.n_len (by decide +kernel) (pa_cons (pe_prop (pv 4) T.cl_Written T.p_Written_figures (ok_Written_figures T) (hr.mono (by decide)) T.b_Written_figures .nil pass0 rfl) pa_nil))) (pss_cons (ps_if (PW.pt (pw_or (pt_cmpR (k_neD (K := K) rfl hr.units) (pe_slice (k_slL (K := K) rfl) (pe_prop (pv 5) T.cl_Written T.p_Written_figures (ok_Written_figures T) (hr.mono (by decide)) T.b_Written_figures .nil pass0 rfl) po_none (po_some (pv 6))) (pe_prop (pv 4) T.cl_Written T.p_Written_figures (ok_Written_figures T) (hr.mono (by decide)) T.b_Written_figures .nil pass0 rfl) (nomark _)) (pw_or1 (pt_cmpR op_ne (pe_callB (k_len (K := K) rfl) (by rfl) T.n_len (by decide +kernel) (pa_cons (pe_prop (pv 5) T.cl_Written T.p_Written_figures (ok_Written_figures T) (hr.mono (by decide)) T.b_Written_figures .nil pass0 rfl) pa_nil)) (pe_op op_add (pv 6) (pe_callB (len_Sheet___len__ T (hr := hr.mono (by decide))) (by rfl) T.n_len (by decide +kernel) (pa_cons (pv 2) pa_nil))) (nomark _))))) (pss_one (ps_ret (pe_bl))) (pss_nil)) (pss_cons (ps_if (pt_cmpR op_ne (pe_prop (pv 5) T.cl_Written T.p_Written_value (ok_Written_value T) (hr.mono (by decide)) T.b_Written_value .nil pass0 rfl) (pe_op op_add (pe_prop (pv 4) T.cl_Written T.p_Written_value (ok_Written_value T) (hr.mono (by decide)) T.b_Written_value .nil pass0 rfl) (pe_op op_mulW (pe_call (ok__law_power T) (hr.mono (by decide)) (by rfl) T.m__law_power T.F__law_power.kp T.b__law_power .nil pass0 (pa_cons (pv 3) (pa_cons (pv 6) pa_nil))) (pe_prop (pv 2) T.cl_Sheet T.p_Sheet_value (ok_Sheet_value T) (hr.mono (by decide)) T.b_Sheet_value .nil pass0 rfl))) (nomark _)) (pss_one (ps_ret (pe_bl))) (pss_nil)) (pss_one (ps_ret (pe_cmpR op_eq (pe_op (op2_Written___sub__ T (hr := hr.mono (by decide))) (pv 5) (pe_op (opO_Sheet___add__ T (hr := hr.mono (by decide))) (pv 0) (pv 2))) (pe_op op_add (pe_op (op2_Written___sub__ T (hr := hr.mono (by decide))) (pv 4) (pv 0)) (pe_op op_mulW (pe_op op_sub (pe_call (ok__law_power T) (hr.mono (by decide)) (by rfl) T.m__law_power T.F__law_power.kp T.b__law_power .nil pass0 (pa_cons (pv 3) (pa_cons (pv 6) pa_nil))) (pe_call (ok__law_power T) (hr.mono (by decide)) (by rfl) T.m__law_power T.F__law_power.kp T.b__law_power .nil pass0 (pa_cons (pv 3) (pa_cons (pe_callB (len_Sheet___len__ T (hr := hr.mono (by decide))) (by rfl) T.n_len (by decide +kernel) (pa_cons (pv 0) pa_nil)) pa_nil)))) (pe_prop (pv 2) T.cl_Sheet T.p_Sheet_value (ok_Sheet_value T) (hr.mono (by decide)) T.b_Sheet_value .nil pass0 rfl))) (nomark _))))))))), ?_⟩
  rintro ⟨ms, P1, P2, b, r, cs, cn, sl, ww⟩ hp
  replace hp : (SR K T.c_Sheet P1 ms b r cs) ∧ (SR K T.c_Sheet P2 ms b r cn) ∧ (GoodSh b r cs ∧ cs.length ≤ 60 ∧ GoodSh b r cn ∧ cn.length ≤ 60 ∧ sl.length ≤ 10000 ∧ addV b r cs sl 0 0 = some ww) := hp
  obtain ⟨hS, hM, hp⟩ := hp
  show S1 E _ [some (P1), some (D K (.list (sl.map slipD))), some (P2), some (D K (.int b)), none, none, none] ms { nx := fun _ μ => BackY (fun x Q μ => Q = (fun (x : Mp × (Pr) × (Pr) × (Int) × (Int) × (List (List Int)) × (List (List Int)) × (List (Int × Deed)) × (List Int × Int)) => match x with | (ms, P1, P2, b, r, cs, cn, sl, ww) => D K (.bool true)) x ∧ μ = (fun (x : Mp × (Pr) × (Pr) × (Int) × (Int) × (List (List Int)) × (List (List Int)) × (List (Int × Deed)) × (List Int × Int)) => match x with | (ms, P1, P2, b, r, cs, cn, sl, ww) => ms) x) (ms, P1, P2, b, r, cs, cn, sl, ww) (D K .none) μ, rt := BackY (fun x Q μ => Q = (fun (x : Mp × (Pr) × (Pr) × (Int) × (Int) × (List (List Int)) × (List (List Int)) × (List (Int × Deed)) × (List Int × Int)) => match x with | (ms, P1, P2, b, r, cs, cn, sl, ww) => D K (.bool true)) x ∧ μ = (fun (x : Mp × (Pr) × (Pr) × (Int) × (Int) × (List (List Int)) × (List (List Int)) × (List (Int × Deed)) × (List Int × Int)) => match x with | (ms, P1, P2, b, r, cs, cn, sl, ww) => ms) x) (ms, P1, P2, b, r, cs, cn, sl, ww) }
  try simp only [cx_K, cx_KX]
  obtain ⟨g, hl, g2, hl2, hsl, hA⟩ := hp
  have hbb : -(2 ^ 64) < b ∧ b < 2 ^ 64 := by have := g.b2; have := g.b12; omega
  have hb0 : 0 < b := by have := g.b2; omega
  have hA2 := addV_app (ms := cn) (Nat.zero_le _) hA
  have hFl := addV_len (Nat.zero_le _) hA
  have hval := behind_value hb0 ww.1 ww.2 cn
  have hva := valueOf_app b cs cn
  have gcat : GoodSh b r (cs ++ cn) := ⟨g.b2, g.b12, g.r1, g.r4, by rw [List.length_append]; omega, fun c hc => (List.mem_append.mp hc).elim (g.col c) (g2.col c)⟩
  have hl3 : cn.length ≤ 10000 := by omega
  have hGl := doCols_len b cn ww.2
  generalize (doCols b cn ww.2).1 = G at hA2 hval hGl
  generalize (doCols b cn ww.2).2 = c2 at hA2 hval
  rcases ww with ⟨F, c⟩
  replace hFl : F.length ≤ 2 * (cs.length - 0) := hFl
  replace hval : horner b (F ++ G) c2 = horner b F c + b ^ F.length * valueOf b cn := hval
  refine s_let (Q := WrP K T.c_Written b F c) (μ1 := ms) (by exact e_add_with (P1 := P1) (P2 := D K (.list (sl.map slipD))) (sl := sl) (ww := (F, c)) (a_cons (e_var rfl) (a_cons (EO.frz (K := K) (o_list (e_var rfl) lr_D)) a_nil)) hS lr_D ⟨g, hsl, hA⟩) ?_
  simp only [List.set_cons_succ, List.set_cons_zero]
  refine s_let (Q := WrP K T.c_Written b (F ++ G) c2) (μ1 := ms) (by exact e_add_with (P1 := ShF K T.c_Sheet b r (cs ++ cn)) (P2 := D K (.list (sl.map slipD))) (sl := sl) (ww := (F ++ G, c2)) (a_cons (EY.frzNew (y_shAdd (e_var rfl) (e_var rfl) hS hM g g2 (by omega))) (a_cons (EO.frz (K := K) (o_list (e_var rfl) lr_D)) a_nil)) sr_F lr_D ⟨gcat, hsl, hA2⟩) ?_
  simp only [List.set_cons_succ, List.set_cons_zero]
  refine s_let (Q := D K (.int (F.length : Int))) (μ1 := ms) ?_ ?_
  · have := e_len (K := K) (EO.frz (K := K) (o_wrFigs (E := E0) (C := T.c_Written) (b := b) (figs := F) (last := c) (ta := tVar 4) (δ := [some P1, some (D K (.list (sl.map slipD))), some P2, some (D K (.int b)), some (WrP K T.c_Written b F c), some (WrP K T.c_Written b (F ++ G) c2), none]) (μ := ms) (e_var rfl))) lr_D
    rw [List.length_map] at this
    exact this
  simp only [List.set_cons_succ, List.set_cons_zero]
  refine s_ifr (μ1 := ms) (t_or (t_test (e_neD (K := K) (EO.frz (K := K) (o_cutH (enc := PyData.int) (xs := F ++ G) (EO.frz (K := K) (o_wrFigs (C := T.c_Written) (e_var rfl))) (e_var rfl) lr_D (by omega))) (EO.frz (K := K) (o_wrFigs (C := T.c_Written) (e_var rfl))) dr_D dr_D (by walk_at "sh") (by walk_at "sh") (eqv_lst _ _))) fun _ => t_test (e_neI (K := K) (e_len (K := K) (EO.frz (K := K) (o_wrFigs (C := T.c_Written) (e_var rfl))) lr_D) (e_add (K := K) (e_var rfl) (e_shLen (e_var rfl) hM hl3)))) (fun h => ?_) (fun _ => ?_)
  · exfalso
    revert h
    rw [List.length_map, List.length_append, hGl, Int.toNat_natCast, List.take_left']
    · simp
    · rfl
  have hpw : (b ^ F.length).natAbs < 2 ^ (4 * F.length + 1) := pow_wide12 (by omega) g.b12
  have hpn : (b ^ cs.length).natAbs < 2 ^ (4 * cs.length + 1) := pow_wide12 (by omega) g.b12
  have hvw := value_wide g2
  have hpw2 : (b ^ F.length).natAbs < 2 ^ 500 := Nat.lt_of_lt_of_le hpw (Nat.pow_le_pow_right (by omega) (by omega))
  have hpn2 : (b ^ cs.length).natAbs < 2 ^ 500 := Nat.lt_of_lt_of_le hpn (Nat.pow_le_pow_right (by omega) (by omega))
  have hpd : (b ^ F.length - b ^ cs.length).natAbs < 2 ^ 501 := by
    have e : (2 : Nat) ^ 501 = 2 ^ 500 * 2 := rfl
    generalize (2 : Nat) ^ 500 = N at hpw2 hpn2 e
    omega
  refine s_ifr (μ1 := ms) (t_test (e_neI (K := K) (e_wrVal (e_var rfl) hbb) (e_add (K := K) (e_wrVal (e_var rfl) hbb) (e_mulW (K := K) (e_power (a_cons (e_var rfl) (a_cons (e_var rfl) a_nil)) hbb (by omega)) (e_shVal (e_var rfl) hM g2) (by rw [Int.toNat_natCast]; exact wide_mul hpw2 hvw (by decide) (by omega) (by omega)))))) (fun h => ?_) (fun _ => ?_)
  · exfalso
    revert h
    rw [Int.toNat_natCast, hval]
    simp
  refine s_ret (e_eqI (K := K) (e_wrSub (e_var rfl) (EY.frzNew (y_shAdd (e_var rfl) (e_var rfl) hS hM g g2 (by omega))) sr_F hbb hbb (by rw [List.length_append]; omega)) (e_add (K := K) (e_wrSub (e_var rfl) (e_var rfl) hS hbb hbb (by omega)) (e_mulW (K := K) (e_sub (K := K) (e_power (a_cons (e_var rfl) (a_cons (e_var rfl) a_nil)) hbb (by omega)) (e_power (a_cons (e_var rfl) (a_cons (e_shLen (e_var rfl) hS (by omega)) a_nil)) hbb (by omega))) (e_shVal (e_var rfl) hM g2) (by rw [Int.toNat_natCast, Int.toNat_natCast]; exact wide_mul hpd hvw (by decide) (by omega) (by omega))))) ?_
  walk_at "bk"
  rw [Int.toNat_natCast, Int.toNat_natCast, hval, hva, Int.sub_mul]
  show PyData.bool _ = PyData.bool true
  congr 1
  rw [decide_eq_true_iff]
  omega
theorem e__law_behind_right {c_Sheet : Addr} {c_Written : Addr} {tA : TA} {δ : En} {μ ms : Mp} {E : XK} {P1 : Pr} {P2 : Pr} {b : Int} {r : Int} {cs : List (List Int)} {cn : List (List Int)} {sl : List (Int × Deed)} {ww : List Int × Int} (h : EA tA δ μ [P1, D K (.list (sl.map slipD)), P2, D K (.int b)] ms) (hS : SR K c_Sheet P1 ms b r cs) (hM : SR K c_Sheet P2 ms b r cn) (hp : GoodSh b r cs ∧ cs.length ≤ 60 ∧ GoodSh b r cn ∧ cn.length ≤ 60 ∧ sl.length ≤ 10000 ∧ addV b r cs sl 0 0 = some ww) : E1 (tCall (sp__law_behind_right K c_Sheet c_Written) [] E tA) δ μ (D K (.bool true)) ms := e_callR (ms, P1, P2, b, r, cs, cn, sl, ww) (by simpa using h) ⟨hS, hM, hp⟩
local macro_rules | `(tactic| walk_at "call") => `(tactic| ((with_reducible apply e__law_behind_right); (· walk_at "ea"); (· walk_at "sr"); (· walk_at "sr"); (· walk_at "sd")))
theorem ok__law_cells (T : Txt K mg) : FnOk P w K mg base CX0 1 T.a__law_cells T.fd__law_cells ["script"] (spec (cellsPre K) (cellsPost K)) := by
  refine fn_sv T.F__law_cells sc__law_cells (fun x G M vs h => by obtain ⟨v, rfl, _⟩ := h; rfl) fun cdv A outer s H E hr => ⟨_, (pss_cons (ps_if (pt_cmpR (k_eqD (K := K) rfl hr.units) (pv 0) (pe_lst pa_nil) (nomark _)) (pss_one (ps_ret (pe_lst (pa_cons (pe_int) pa_nil)))) (pss_nil)) (pss_one (ps_ret (pe_slice (k_slL (K := K) rfl) (pv 0) po_none (po_some (pe_int)))))), ?_⟩
  rintro ns G M vs ⟨v, rfl, dv, hl⟩
  refine sv_ifs (et_test (ev_eqD (K := K) (d := .list (ns.map PyData.int)) (e := .list []) (ev_varP rfl dv) (Ev.frz (ev_lstO (ds := []) ea_nil (by decide))) (sh_ints (n := 0) ns).ok (sh_ints (n := 0) []).ok)) ?_ ?_
  · intro G1 e1 hb
    have hn : ns = [] := by
      have := eqv_lst ns []
      rw [show ([] : List Int).map PyData.int = [] from rfl, hb] at this
      exact of_decide_eq_true this.symm
    subst hn
    exact sv_ret (Ev.frz (ev_lstO (K := K) (ds := [.int 0]) (ea_cons (ev_iD ev_c) ea_nil) (by decide))) fun v' G' M' e r => r
  · intro G1 e1 hb
    refine sv_next fun G2 e2 => ?_
    have hn : ¬ ns = [] := fun z => by
      subst z
      cases hb
    refine sv_ret (Ev.frz (ev_slL (ds := ns.map PyData.int) (lo := none) (hi := some ((63 : Nat) : Int)) (ev_varP rfl (dm dv (e1.trans e2))) eo_none (eo_some ev_c))) fun v' G' M' e r => ?_
    rw [cutD_take, ← List.map_take] at r
    show isD K (.list ((cellsOf ns).map PyData.int)) M G' v' M'
    unfold cellsOf
    rw [if_neg hn]
    exact r
theorem ok__law_draw (T : Txt K mg) : FnOk P w K mg base CX0 1 T.a__law_draw T.fd__law_draw ["deck", "many"] (spec drawPre drawPost) := by
  refine fn_sv T.F__law_draw sc__law_draw (fun x G M vs h => by obtain ⟨rfl, _⟩ := h; rfl) fun cdv A outer s H E hr => ⟨_, (pss_cons (ps_if (pt_cmpR op_gt (pe_ix (k_ixL (K := K) rfl) (pv 0) (pe_int) (fun _ _ => rfl)) (pe_int) (nomark _)) (pss_cons (ps_set (i := 3) sc__law_draw.nd rfl (Or.inl rfl) (pe_op op_mod (pe_callTy c_int (by rfl) T.n_int (by decide +kernel) (pa_cons (pe_ix (k_ixL (K := K) rfl) (pv 0) (pe_int) (fun _ _ => rfl)) pa_nil)) (pv 1))) (pss_cons (ps_asg (pe_op op_fdivW (pe_ix (k_ixL (K := K) rfl) (pv 0) (pe_int) (fun _ _ => rfl)) (pv 1)) (pg_sub (pv 0) (pe_int) set_list)) (pss_one (ps_ret (pv 3))))) (pss_nil)) (pss_cons (ps_asg (pe_op op_add (pe_ix (k_ixL (K := K) rfl) (pv 0) (pe_int) (fun _ _ => rfl)) (pe_int)) (pg_sub (pv 0) (pe_int) set_list)) (pss_cons (ps_set (i := 2) sc__law_draw.nd rfl (Or.inl rfl) (pe_op op_mod (pe_callTy c_int (by rfl) T.n_int (by decide +kernel) (pa_cons (pe_op op_add (pe_op op_mul (pe_ix (k_ixL (K := K) rfl) (pv 0) (pe_int) (fun _ _ => rfl)) (pe_int)) (pe_op op_mul (pe_ix (k_ixL (K := K) rfl) (pv 0) (pe_int) (fun _ _ => rfl)) (pe_int))) pa_nil)) (pe_int))) (pss_cons (ps_set (i := 2) sc__law_draw.nd rfl (Or.inl rfl) (pe_op op_mod (pe_callTy c_int (by rfl) T.n_int (by decide +kernel) (pa_cons (pe_op op_add (pe_op op_mul (pv 2) (pv 2)) (pe_ix (k_ixL (K := K) rfl) (pv 0) (pe_int) (fun _ _ => rfl))) pa_nil)) (pe_int))) (pss_cons (ps_set (i := 2) sc__law_draw.nd rfl (Or.inl rfl) (pe_op op_mod (pe_callTy c_int (by rfl) T.n_int (by decide +kernel) (pa_cons (pe_op op_mul (pv 2) (pe_int)) pa_nil)) (pe_int))) (pss_one (ps_ret (pe_op op_mod (pe_callTy c_int (by rfl) T.n_int (by decide +kernel) (pa_cons (pe_op op_fdivW (pv 2) (pe_int)) pa_nil)) (pv 1))))))))), ?_⟩
  rintro ⟨dk, i, D, n⟩ G M vs ⟨rfl, (h0 : 0 < n), (h1 : n < 2 ^ 200), (hi : M[i]? = some (dk, .lst [.int D.a, .int D.b, .int D.c]))⟩
  obtain ⟨a, b, c⟩ := D
  have hw : CDivW a n := wide_div (b := 200) h0 (by omega) (by decide) (by decide)
  refine sv_ifs (et_test (ev_I0 (i := a) (ev_ixL (K := K) (ev_var rfl) ev_c (AtL.M hi) rfl) ev_c)) ?_ ?_
  · intro G1 e1 hb
    have ha : a > 0 := of_decide_eq_true hb
    refine sv_let (ev_I (ev_int (ev_ixL (K := K) (ev_var rfl) ev_c (AtL.M hi) rfl)) (ev_var rfl) h0) ?_
    rintro _ G2 M2 e2 ⟨rfl, rfl⟩
    refine sv_seq (N := fun G' σ' M' => σ' = [some (.ref dk), some (.int n), none, some (.int (a % n))] ∧ M' = M2.set i (dk, .lst [.int (a / n), .int b, .int c])) (sv_setIx (ev_I (ev_ixL (K := K) (ev_var rfl) ev_c (AtL.M hi) rfl) (ev_var rfl) hw) (ev_var rfl) ev_c hi rfl fun G' e => ⟨rfl, rfl⟩) ?_
    rintro G3 σ3 M3 e3 ⟨rfl, rfl⟩
    refine sv_ret (ev_var rfl) fun v' G' M' e r => ?_
    show v' = .int (dv ⟨a, b, c⟩ n) ∧ M' = M2.set i (dk, (dn ⟨a, b, c⟩ n).ho)
    unfold dv dn
    rw [if_pos ha, if_pos ha]
    exact r
  · intro G1 e1 hb
    have ha : ¬ a > 0 := of_decide_eq_false hb
    refine sv_next fun G2 e2 => ?_
    refine sv_seq (N := fun G' σ' M' => σ' = [some (.ref dk), some (.int n), none, none] ∧ M' = M.set i (dk, .lst [.int a, .int (b + 1), .int c])) (sv_setIx (ev_I0 (ev_ixL (K := K) (ev_var rfl) ev_c (AtL.M hi) rfl) ev_c) (ev_var rfl) ev_c hi rfl fun G' e => ⟨rfl, rfl⟩) ?_
    rintro G3 σ3 M3 e3 ⟨rfl, rfl⟩
    have hi' : (M.set i (dk, HO.lst [.int a, .int (b + 1), .int c]))[i]? = some (dk, .lst [.int a, .int (b + 1), .int c]) := by
      rw [List.getElem?_set_self (List.getElem?_eq_some_iff.mp hi).1]
    refine sv_let (ev_I (ev_int (ev_I0 (ev_I (ev_ixL (K := K) (ev_var rfl) ev_c (AtL.M hi') rfl) ev_c (.inr ⟨by decide, by decide⟩)) (ev_I (ev_ixL (K := K) (ev_var rfl) ev_c (AtL.M hi') rfl) ev_c (.inr ⟨by decide, by decide⟩)))) ev_c (by decide)) ?_
    rintro _ G4 M4 e4 ⟨rfl, rfl⟩
    have q1 : 0 ≤ (c * 48271 + (b + 1) * 69621) % 2147483647 := Int.emod_nonneg _ (by decide)
    have q2 : (c * 48271 + (b + 1) * 69621) % 2147483647 < 2147483647 := Int.emod_lt_of_pos _ (by decide)
    refine sv_let (ev_I (ev_int (ev_I0 (ev_I (ev_var rfl) (ev_var rfl) (.inr ⟨by omega, by omega⟩)) (ev_ixL (K := K) (ev_var rfl) ev_c (AtL.M hi') rfl))) ev_c (by decide)) ?_
    rintro _ G5 M5 e5 ⟨rfl, rfl⟩
    refine sv_let (ev_I (ev_int (ev_I (ev_var rfl) ev_c (.inr ⟨by decide, by decide⟩))) ev_c (by decide)) ?_
    rintro _ G6 M6 e6 ⟨rfl, rfl⟩
    refine sv_ret (ev_I (ev_int (ev_I (ev_var rfl) ev_c (wide_div (b := 200) (by decide) (by decide) (by decide) (by decide)))) (ev_var rfl) h0) fun v' G' M' e r => ?_
    show v' = .int (dv ⟨a, b, c⟩ n) ∧ M' = M.set i (dk, (dn ⟨a, b, c⟩ n).ho)
    unfold dv dn
    rw [if_neg ha, if_neg ha]
    exact r
theorem ok__law_column (T : Txt K mg) : FnOk P w K mg base CX0 2 T.a__law_column T.fd__law_column ["deck", "base", "rows"] (spec lcolPre (lcolPost K)) := by
  refine fn_sv T.F__law_column sc__law_column (fun x G M vs h => by obtain ⟨rfl, _⟩ := h; rfl) fun cdv A outer s H E hr => ⟨_, (pss_cons (ps_set (i := 3) sc__law_column.nd rfl (Or.inl rfl) (pe_call (ok__law_draw T) (hr.mono (by decide)) (by rfl) T.m__law_draw T.F__law_draw.kp T.b__law_draw .nil pass0 (pa_cons (pv 0) (pa_cons (pe_int) pa_nil)))) (pss_cons (ps_setLc (i := 4) (own := [("j", 5)]) (g := gName 5) (tt := tYes) rfl sc__law_column.nd rfl rfl (sw_true rfl rfl rfl (by decide +kernel)) (pi_range1 (by rfl) T.n_range (pa_cons (pv 2) pa_nil)) (blkOk_by (N := ["deck", "base", "rows", "way", "figures", "j"]) (sc := defScope s__law_column) (by decide +kernel)) (fun _ _ _ _ _ => pg_name (i := 5) sc__law_column.nd rfl (Or.inl rfl)) (fun _ _ _ _ _ => pts_nil) (fun _ _ _ _ _ => pe_call (ok__law_draw T) (hr.mono (by decide)) (by rfl) T.m__law_draw T.F__law_draw.kp T.b__law_draw .nil pass0 (pa_cons (pv 0) (pa_cons (pv 1) pa_nil)))) (pss_cons (ps_if (pt_cmpR op_eq (pv 3) (pe_int) (nomark _)) (pss_one (ps_setLc (i := 4) (own := [("j", 5)]) (g := gName 5) (tt := tYes) rfl sc__law_column.nd rfl rfl (sw_true rfl rfl rfl (by decide +kernel)) (pi_range1 (by rfl) T.n_range (pa_cons (pv 2) pa_nil)) (blkOk_by (N := ["deck", "base", "rows", "way", "figures", "j"]) (sc := defScope s__law_column) (by decide +kernel)) (fun _ _ _ _ _ => pg_name (i := 5) sc__law_column.nd rfl (Or.inl rfl)) (fun _ _ _ _ _ => pts_nil) (fun _ _ _ _ _ => pe_int))) (pss_nil)) (pss_cons (ps_if (pt_cmpR op_eq (pv 3) (pe_int) (nomark _)) (pss_one (ps_setLc (i := 4) (own := [("j", 5)]) (g := gName 5) (tt := tYes) rfl sc__law_column.nd rfl rfl (sw_true rfl rfl rfl (by decide +kernel)) (pi_range1 (by rfl) T.n_range (pa_cons (pv 2) pa_nil)) (blkOk_by (N := ["deck", "base", "rows", "way", "figures", "j"]) (sc := defScope s__law_column) (by decide +kernel)) (fun _ _ _ _ _ => pg_name (i := 5) sc__law_column.nd rfl (Or.inl rfl)) (fun _ _ _ _ _ => pts_nil) (fun _ _ _ _ _ => pe_op op_sub (pv 1) (pe_int)))) (pss_nil)) (pss_one (ps_ret (pe_callTy (k_tup (K := K) rfl) (by rfl) T.n_tuple (by decide +kernel) (pa_cons (pv 4) pa_nil)))))))), ?_⟩
  rintro ⟨dk, i, D, b, r⟩ G M vs ⟨rfl, (b0 : 0 < b), (b1 : b < 2 ^ 200), (r0 : 0 ≤ r), (r1 : r ≤ 1000), (hi : M[i]? = some (dk, D.ho))⟩
  have hset : ∀ (o : HO), (M.set i (dk, o))[i]? = some (dk, o) := fun o => by rw [List.getElem?_set_self (List.getElem?_eq_some_iff.mp hi).1]
  refine sv_let (ev_draw i (ea_cons (ev_var rfl) (ea_cons ev_c ea_nil)) hi (by decide) (by decide)) ?_
  rintro _ G1 M1 e1 ⟨rfl, rfl⟩
  refine sv_let (Ev.frz (ev_lcR (K := K) (nn := r) (fun _ => true) (fun j => M.set i (dk, (drawsD (dn D 5) b j).ho)) (fun j => .int (dv (drawsD (dn D 5) b j) b)) (ea_cons (ev_var rfl) ea_nil) (by omega) (by omega) (fun _ _ _ _ => et_yes) (fun j G' hj e _ => ?_) (fun _ z => by cases z) (fun _ => rfl))) ?_
  · have := ev_draw (σ := [some (.ref dk), some (.int b), some (.int r), some (.int (dv D 5)), none, some (.int (0 + (j : Int)))]) (G := G') (E := E0) i (ea_cons (ev_var (k := 0) rfl) (ea_cons (ev_var (k := 1) rfl) ea_nil)) (hset (drawsD (dn D 5) b j).ho) b0 b1
    rw [List.set_set] at this
    exact ev_iD this
  rintro v2 G2 M2 e2 ⟨h2, rfl⟩
  rw [kept_all] at h2
  have h2' : Dp K G2 v2 (.list ((drawsV (dn D 5) b r.toNat).map PyData.int)) := by
    rw [drawsV, List.map_map]
    exact h2
  have hz : ∀ (x : Int), kept r.toNat (fun _ => true) (fun _ => PyData.int x) = (List.replicate r.toNat x).map PyData.int := fun x => by
    rw [kept_all, List.map_replicate]
    apply List.ext_getElem?
    intro k
    rw [List.getElem?_map]
    by_cases hk : k < r.toNat
    · rw [List.getElem?_range hk, List.getElem?_replicate, if_pos hk]
      rfl
    · rw [List.getElem?_eq_none (by simp; omega), List.getElem?_eq_none (by simp; omega)]
      rfl
  -- the first choice
  refine sv_seq (N := fun G' σ' M' => M' = M.set i (dk, (colDk D b r).ho) ∧ ∃ v3, σ' = [some (.ref dk), some (.int b), some (.int r), some (.int (dv D 5)), some v3, none] ∧ Dp K G' v3 (.list ((if dv D 5 = 0 then List.replicate r.toNat 0 else drawsV (dn D 5) b r.toNat).map PyData.int))) (sv_if (et_test (ev_eqI (ev_var rfl) ev_c)) (fun G3 e3 hb => ?_) fun G3 e3 hb => ?_) ?_
  · rw [if_pos (of_decide_eq_true hb)]
    refine sv_set (Ev.frz (ev_lcR (K := K) (nn := r) (fun _ => true) (fun _ => M.set i (dk, (drawsD (dn D 5) b r.toNat).ho)) (fun j => .int 0) (ea_cons (ev_var rfl) ea_nil) (by omega) (by omega) (fun _ _ _ _ => et_yes) (fun j G' hj e _ => ev_iD ev_c) (fun _ _ => rfl) (fun _ => rfl))) ?_
    rintro v3 G4 M4 e4 ⟨h4, rfl⟩
    rw [hz] at h4
    exact ⟨rfl, v3, rfl, h4⟩
  · rw [if_neg (of_decide_eq_false hb)]
    exact sv_next fun G4 e4 => ⟨rfl, v2, rfl, dm h2' (e3.trans e4)⟩
  rintro G5 σ5 M5 e5 ⟨rfl, v5, rfl, h5⟩
  refine sv_seq (N := fun G' σ' M' => M' = M.set i (dk, (colDk D b r).ho) ∧ ∃ v3, σ' = [some (.ref dk), some (.int b), some (.int r), some (.int (dv D 5)), some v3, none] ∧ Dp K G' v3 (.list ((colOf D b r).map PyData.int))) (sv_if (et_test (ev_eqI (ev_var rfl) ev_c)) (fun G3 e3 hb => ?_) fun G3 e3 hb => ?_) ?_
  · unfold colOf
    rw [if_pos (of_decide_eq_true hb)]
    refine sv_set (Ev.frz (ev_lcR (K := K) (nn := r) (fun _ => true) (fun _ => M.set i (dk, (colDk D b r).ho)) (fun j => .int (b - 1)) (ea_cons (ev_var rfl) ea_nil) (by omega) (by omega) (fun _ _ _ _ => et_yes) (fun j G' hj e _ => ev_iD (ev_I0 (ev_var rfl) ev_c)) (fun _ _ => rfl) (fun _ => rfl))) ?_
    rintro v3 G4 M4 e4 ⟨h4, rfl⟩
    rw [hz] at h4
    exact ⟨rfl, v3, rfl, h4⟩
  · unfold colOf
    rw [if_neg (of_decide_eq_false hb)]
    exact sv_next fun G4 e4 => ⟨rfl, v5, rfl, dm h5 (e3.trans e4)⟩
  rintro G6 σ6 M6 e6 ⟨rfl, v6, rfl, h6⟩
  exact sv_ret (ev_tupD (K := K) (ev_varP rfl h6)) fun v' G' M' e r => r
theorem ok__law_columns (T : Txt K mg) : FnOk P w K mg base CX0 3 T.a__law_columns T.fd__law_columns ["deck", "base", "rows", "most"] (spec lcolsPre (lcolsPost K)) := by
  refine fn_sv T.F__law_columns sc__law_columns (fun x G M vs h => by obtain ⟨rfl, _⟩ := h; rfl) fun cdv A outer s H E hr => ⟨_, (pss_cons (ps_set (i := 4) sc__law_columns.nd rfl (Or.inl rfl) (pe_call (ok__law_draw T) (hr.mono (by decide)) (by rfl) T.m__law_draw T.F__law_draw.kp T.b__law_draw .nil pass0 (pa_cons (pv 0) (pa_cons (pe_int) pa_nil)))) (pss_cons (ps_if (pt_cmpR op_eq (pe_call (ok__law_draw T) (hr.mono (by decide)) (by rfl) T.m__law_draw T.F__law_draw.kp T.b__law_draw .nil pass0 (pa_cons (pv 0) (pa_cons (pe_int) pa_nil))) (pe_int) (nomark _)) (pss_one (ps_set (i := 4) sc__law_columns.nd rfl (Or.inl rfl) (pe_call (ok__law_draw T) (hr.mono (by decide)) (by rfl) T.m__law_draw T.F__law_draw.kp T.b__law_draw .nil pass0 (pa_cons (pv 0) (pa_cons (pe_op op_add (pv 3) (pe_int)) pa_nil))))) (pss_nil)) (pss_one (ps_ret (pe_lc (own := [("i", 5)]) (g := gName 5) (tt := tYes) rfl sc__law_columns.nd (pi_range1 (by rfl) T.n_range (pa_cons (pv 4) pa_nil)) (blkOk_by (N := ["deck", "base", "rows", "most", "many", "i"]) (sc := defScope s__law_columns) (by decide +kernel)) (fun _ _ _ _ _ => pg_name (i := 5) sc__law_columns.nd rfl (Or.inl rfl)) (fun _ _ _ _ _ => pts_nil) (fun _ _ _ _ _ => pe_call (ok__law_column T) (hr.mono (by decide)) (by rfl) T.m__law_column T.F__law_column.kp T.b__law_column .nil pass0 (pa_cons (pv 0) (pa_cons (pv 1) (pa_cons (pv 2) pa_nil))))))))), ?_⟩
  rintro ⟨dk, i, D, b, r, most⟩ G M vs ⟨rfl, (b0 : 0 < b), (b1 : b < 2 ^ 200), (r0 : 0 ≤ r), (r1 : r ≤ 1000), (m0 : 0 ≤ most), (m1 : most ≤ 1000), (hi : M[i]? = some (dk, D.ho))⟩
  have hset : ∀ (o : HO), (M.set i (dk, o))[i]? = some (dk, o) := fun o => by rw [List.getElem?_set_self (List.getElem?_eq_some_iff.mp hi).1]
  refine sv_let (ev_draw i (ea_cons (ev_var rfl) (ea_cons ev_c ea_nil)) hi (by decide) (by decide)) ?_
  rintro _ G1 M1 e1 ⟨rfl, rfl⟩
  have hif := ev_draw (σ := [some (.ref dk), some (.int b), some (.int r), some (.int most), some (.int (dv D 7)), none]) (G := G1) (E := E0) i (ea_cons (ev_var (k := 0) rfl) (ea_cons (ev_c (x := .int 3)) ea_nil)) (hset (dn D 7).ho) (by decide) (by decide)
  rw [List.set_set] at hif
  refine sv_seq (N := fun G' σ' M' => σ' = [some (.ref dk), some (.int b), some (.int r), some (.int most), some (.int (manyOf D most)), none] ∧ M' = M.set i (dk, (manyDk D most).ho)) (sv_if (et_test (ev_eqI hif ev_c)) (fun G3 e3 hb => ?_) fun G3 e3 hb => ?_) ?_
  · have hd := of_decide_eq_true hb
    have := ev_draw (σ := [some (.ref dk), some (.int b), some (.int r), some (.int most), some (.int (dv D 7)), none]) (G := G3) (E := E0) i (ea_cons (ev_var (k := 0) rfl) (ea_cons (ev_I0 (g := fun i j => V.int (i + j)) (ev_var (k := 3) (x := .int most) rfl) (ev_c (x := .int 1))) ea_nil)) (hset (dn (dn D 7) 3).ho) (by omega) (by omega)
    rw [List.set_set] at this
    refine sv_set this ?_
    rintro _ G4 M4 e4 ⟨rfl, rfl⟩
    unfold manyOf manyDk
    rw [if_pos hd, if_pos hd]
    exact ⟨rfl, rfl⟩
  · have hd := of_decide_eq_false hb
    refine sv_next fun G4 e4 => ?_
    unfold manyOf manyDk
    rw [if_neg hd, if_neg hd]
    exact ⟨rfl, rfl⟩
  rintro G5 σ5 M5 e5 ⟨rfl, rfl⟩
  have h0 := manyOf_lo (D := D) m0
  have h1 := manyOf_hi (D := D) m0
  refine sv_ret (ev_lcR (K := K) (nn := manyOf D most) (fun _ => true) (fun j => M.set i (dk, (colsDk (manyDk D most) b r j).ho)) (fun j => colD (colOf (colsDk (manyDk D most) b r j) b r)) (ea_cons (ev_var rfl) ea_nil) (by omega) (by omega) (fun _ _ _ _ => et_yes) (fun j G' hj e _ => ?_) (fun _ z => by cases z) (fun _ => rfl)) fun v' G' M' e r' => ?_
  · have := ev_lcol (K := K) (σ := [some (.ref dk), some (.int b), some (.int r), some (.int most), some (.int (manyOf D most)), some (.int (0 + (j : Int)))]) (G := G') (E := E0) i (ea_cons (ev_var (k := 0) rfl) (ea_cons (ev_var (k := 1) rfl) (ea_cons (ev_var (k := 2) rfl) ea_nil))) (hset (colsDk (manyDk D most) b r j).ho) b0 b1 r0 r1
    rw [List.set_set] at this
    exact this
  · rw [kept_all] at r'
    show own K ((colsOf D b r most).map colD) _ G' v' M'
    rw [colsOf, colsV, List.map_map]
    exact r'
theorem ok__law_deck (T : Txt K mg) : FnOk P w K mg base CX0 1 T.a__law_deck T.fd__law_deck ["cell"] (spec deckPre deckPost) := by
  refine fn_sv T.F__law_deck sc__law_deck (fun x G M vs h => by cases h; rfl) fun cdv A outer s H E hr => ⟨_, (pss_cons (ps_if (pt_cmpR op_ge (pv 0) (pe_op op_pow (pe_int) (pe_int)) (nomark _)) (pss_one (ps_ret (pe_lst (pa_cons (pe_op op_sub (pv 0) (pe_op op_pow (pe_int) (pe_int))) (pa_cons (pe_int) (pa_cons (pe_int) pa_nil)))))) (pss_nil)) (pss_one (ps_ret (pe_lst (pa_cons (pe_int) (pa_cons (pe_int) (pa_cons (pe_op op_add (pe_op op_mod (pe_callTy c_int (by rfl) T.n_int (by decide +kernel) (pa_cons (pv 0) pa_nil)) (pe_int)) (pe_int)) pa_nil))))))), ?_⟩
  rintro c G M vs rfl
  have hp : ∀ G' , Ev (tOp (rI CPow fun i j => .int (i ^ j.toNat)) (tC (.int 10)) (tC (.int 18))) (start ["cell"] [.int c]) G' M (isV (.int (10 ^ 18)) M) := fun G' => ev_I ev_c ev_c ⟨by decide, by decide, by decide⟩
  refine sv_ifs (et_test (ev_I0 (ev_var rfl) (hp _))) ?_ ?_
  · intro G1 e1 hb
    have hc : (10 : Int) ^ 18 ≤ c := of_decide_eq_true hb
    refine sv_ret (ev_lstI (xs := [.int (c - 10 ^ 18), .int 0, .int 1]) (ea_cons (ev_I0 (ev_var rfl) (hp _)) (ea_cons ev_c (ea_cons ev_c ea_nil))) (by show 3 ≤ 1000; decide)) fun v' G' M' e r => ?_
    show ∃ dk, v' = .ref dk ∧ M' = M ++ [(dk, (deckOf c).ho)]
    unfold deckOf
    rw [if_pos hc]
    exact r
  · intro G1 e1 hb
    have hc : ¬ (10 : Int) ^ 18 ≤ c := of_decide_eq_false hb
    refine sv_next fun G2 e2 => sv_ret (ev_lstI (xs := [.int 0, .int 0, .int (c % 2147483629 + 2)]) (ea_cons ev_c (ea_cons ev_c (ea_cons (ev_I0 (ev_I (ev_int (ev_var rfl)) ev_c (by decide)) ev_c) ea_nil))) (by show 3 ≤ 1000; decide)) fun v' G' M' e r => ?_
    show ∃ dk, v' = .ref dk ∧ M' = M ++ [(dk, (deckOf c).ho)]
    unfold deckOf
    rw [if_neg hc]
    exact r
theorem ok_Sheet_cut (T : Txt K mg) : FnOk P w K mg base CX0 7 T.a_Sheet_cut T.fd_Sheet_cut ["self", "low", "high"] (spec (cutPre K T.c_Sheet) (cutPost K T.c_Sheet)) := by
  refine fn_sv T.F_Sheet_cut sc_Sheet_cut (fun x G M vs h => by obtain ⟨rfl, _⟩ := h; rfl) fun cdv A outer s H E hr => ⟨_, (pss_one (ps_ret (pe_make T.k_Sheet (okG_Sheet___init__ T) (hr.mono (by decide)) (by rfl) T.m_Sheet T.b_Sheet___init__ .nil passL (pa_cons (k_fld (K := K) rfl (pv 0) rfl) (pa_cons (k_fld (K := K) rfl (pv 0) rfl) (pa_cons (pe_slice (k_slL (K := K) rfl) (k_fld (K := K) rfl (pv 0) rfl) (po_some (pv 1)) (po_some (pv 2))) pa_nil)))))), ?_⟩
  rintro ⟨⟨p, b, r, cs⟩, lo, hi⟩ G M vs ⟨rfl, ⟨dx, l, xs, h1, h2, h3⟩, (g : GoodSh b r cs), (h0 : 0 ≤ lo), (h0' : 0 ≤ hi)⟩
  refine sv_ret (ev_mkSh3 (C := T.c_Sheet) (cs := cutL cs lo hi) (ev_fld (ev_var rfl) h1 T.cl_Sheet T.na_Sheet__base shF_b) (ev_fld (ev_var rfl) h1 T.cl_Sheet T.na_Sheet__rows shF_r) (Ev.frz ?_) (g.cut lo hi)) fun v' G' M' e r => r
  have := ev_slLA (K := K) (lo := some lo) (hi := some hi) (σ := start ["self", "low", "high"] [.ref p, .int lo, .int hi]) (ev_fld (ev_var (k := 0) (x := .ref p) rfl) h1 T.cl_Sheet T.na_Sheet__columns shF_c) h2 h3 (eo_some (ev_var (k := 1) rfl)) (eo_some (ev_var (k := 2) rfl))
  rw [cutD_cols h0 h0'] at this
  exact this
def sp__law_parts_right (K : PySem.W.Frag) (c_Sheet : Addr) (c_Written : Addr) : Sp := sp (α := Mp × (Pr) × (Int) × (Int) × (List (List Int)) × (List Deed) × (List (Int × Deed)) × (List Int × Int)) (fun (x : Mp × (Pr) × (Int) × (Int) × (List (List Int)) × (List Deed) × (List (Int × Deed)) × (List Int × Int)) => match x with | (ms, P1, b, r, cs, ds, sl, ww) => [P1, D K (.list (ds.map deedD)), D K (.list (sl.map slipD))]) (fun (x : Mp × (Pr) × (Int) × (Int) × (List (List Int)) × (List Deed) × (List (Int × Deed)) × (List Int × Int)) => match x with | (ms, P1, b, r, cs, ds, sl, ww) => ms) (fun (x : Mp × (Pr) × (Int) × (Int) × (List (List Int)) × (List Deed) × (List (Int × Deed)) × (List Int × Int)) => match x with | (ms, P1, b, r, cs, ds, sl, ww) => (SR K c_Sheet P1 ms b r cs) ∧ (GoodSh b r cs ∧ cs.length ≤ 60 ∧ ds.length = cs.length ∧ sl.length ≤ 10000 ∧ addV b r cs sl 0 0 = some ww ∧ (∀ s ∈ sl, ds[s.1.toNat]? = some s.2))) (fun x Q μ => Q = (fun (x : Mp × (Pr) × (Int) × (Int) × (List (List Int)) × (List Deed) × (List (Int × Deed)) × (List Int × Int)) => match x with | (ms, P1, b, r, cs, ds, sl, ww) => D K (.bool true)) x ∧ μ = (fun (x : Mp × (Pr) × (Int) × (Int) × (List (List Int)) × (List Deed) × (List (Int × Deed)) × (List Int × Int)) => match x with | (ms, P1, b, r, cs, ds, sl, ww) => ms) x)
theorem ok__law_parts_right (T : Txt K mg) : FnOk P w K mg base CX0 8 T.a__law_parts_right T.fd__law_parts_right ["sheet", "deeds", "slips"] (sp__law_parts_right K T.c_Sheet T.c_Written) := by
  refine fn_Y T.F__law_parts_right sc__law_parts_right (fun _ => rfl) fun cdv A outer s H E hr => ⟨_, (pss_cons (ps_set (i := 3) sc__law_parts_right.nd rfl (Or.inl rfl) (pe_prop (pe_call (ok_add_with T) (hr.mono (by decide)) (by rfl) T.m_add_with T.F_add_with.kp T.b_add_with .nil pass0 (pa_cons (pv 0) (pa_cons (pe_callTy (k_list (K := K) rfl) (by rfl) T.n_list (by decide +kernel) (pa_cons (pv 2) pa_nil)) pa_nil))) T.cl_Written T.p_Written_figures (ok_Written_figures T) (hr.mono (by decide)) T.b_Written_figures .nil pass0 rfl)) (pss_cons (ps_for PassesOwn.never rfl (pi_range1 (by rfl) T.n_range (pa_cons (pe_op op_add (pe_callB (len_Sheet___len__ T (hr := hr.mono (by decide))) (by rfl) T.n_len (by decide +kernel) (pa_cons (pv 0) pa_nil)) (pe_int)) pa_nil)) (pg_name (i := 4) sc__law_parts_right.nd rfl (Or.inr rfl)) (pss_one (ps_if (PW.pt (pw_or (pt_cmpR op_eq (pv 4) (pe_int) (nomark _)) (pw_or1 (pt_cmpR (k_neD (K := K) rfl hr.units) (pe_ix (k_ixL (K := K) rfl) (pv 1) (pe_op op_sub (pv 4) (pe_int)) (fun _ _ => rfl)) (pe_tup (pa_cons (pe_str) pa_nil)) (nomark _))))) (pss_cons (ps_setLc (i := 5) (own := [("slip", 7)]) (g := gName 7) rfl sc__law_parts_right.nd rfl rfl (sw_true rfl rfl rfl (by decide +kernel)) (pi_list (pv 2)) (blkOk_by (N := ["sheet", "deeds", "slips", "figures", "i", "ahead", "part", "slip"]) (sc := defScope s__law_parts_right) (by decide +kernel)) (fun _ _ _ _ _ => pg_name (i := 7) sc__law_parts_right.nd rfl (Or.inl rfl)) (fun _ _ _ _ _ => pts_one (pt_cmpR op_lt (pe_ix (k_ixT (K := K) rfl) (pv 7) (pe_int) (fun _ _ => rfl)) (pv 4) (nomark _))) (fun _ _ _ _ _ => pv 7)) (pss_cons (ps_set (i := 6) sc__law_parts_right.nd rfl (Or.inl rfl) (pe_prop (pe_call (ok_add_with T) (hr.mono (by decide)) (by rfl) T.m_add_with T.F_add_with.kp T.b_add_with .nil pass0 (pa_cons (pe_meth (pv 0) T.cl_Sheet T.me_Sheet_cut (ok_Sheet_cut T) (hr.mono (by decide)) T.b_Sheet_cut .nil pass0 (pa_cons (pe_int) (pa_cons (pv 4) pa_nil))) (pa_cons (pv 5) pa_nil))) T.cl_Written T.p_Written_figures (ok_Written_figures T) (hr.mono (by decide)) T.b_Written_figures .nil pass0 rfl)) (pss_one (ps_if (pt_cmpR (k_neD (K := K) rfl hr.units) (pv 6) (pe_slice (k_slL (K := K) rfl) (pv 3) po_none (po_some (pe_callB (k_len (K := K) rfl) (by rfl) T.n_len (by decide +kernel) (pa_cons (pv 6) pa_nil)))) (nomark _)) (pss_one (ps_ret (pe_bl))) (pss_nil))))) (pss_nil)))) (pss_one (ps_ret (pe_bl))))), ?_⟩
  rintro ⟨ms, P1, b, r, cs, ds, sl, ww⟩ hp
  replace hp : (SR K T.c_Sheet P1 ms b r cs) ∧ (GoodSh b r cs ∧ cs.length ≤ 60 ∧ ds.length = cs.length ∧ sl.length ≤ 10000 ∧ addV b r cs sl 0 0 = some ww ∧ (∀ s ∈ sl, ds[s.1.toNat]? = some s.2)) := hp
  obtain ⟨hS, hp⟩ := hp
  show S1 E _ [some (P1), some (D K (.list (ds.map deedD))), some (D K (.list (sl.map slipD))), none, none, none, none, none] ms { nx := fun _ μ => BackY (fun x Q μ => Q = (fun (x : Mp × (Pr) × (Int) × (Int) × (List (List Int)) × (List Deed) × (List (Int × Deed)) × (List Int × Int)) => match x with | (ms, P1, b, r, cs, ds, sl, ww) => D K (.bool true)) x ∧ μ = (fun (x : Mp × (Pr) × (Int) × (Int) × (List (List Int)) × (List Deed) × (List (Int × Deed)) × (List Int × Int)) => match x with | (ms, P1, b, r, cs, ds, sl, ww) => ms) x) (ms, P1, b, r, cs, ds, sl, ww) (D K .none) μ, rt := BackY (fun x Q μ => Q = (fun (x : Mp × (Pr) × (Int) × (Int) × (List (List Int)) × (List Deed) × (List (Int × Deed)) × (List Int × Int)) => match x with | (ms, P1, b, r, cs, ds, sl, ww) => D K (.bool true)) x ∧ μ = (fun (x : Mp × (Pr) × (Int) × (Int) × (List (List Int)) × (List Deed) × (List (Int × Deed)) × (List Int × Int)) => match x with | (ms, P1, b, r, cs, ds, sl, ww) => ms) x) (ms, P1, b, r, cs, ds, sl, ww) }
  try simp only [cx_K, cx_KX]
  obtain ⟨g, hl, hdl, hsl, hA, hds⟩ := hp
  have hl3 : cs.length ≤ 10000 := by omega
  refine s_let (Q := D K (.list (ww.1.map .int))) (μ1 := ms) (EO.frz (K := K) (o_wrFigs (C := T.c_Written) (by exact e_add_with (P1 := P1) (P2 := D K (.list (sl.map slipD))) (sl := sl) (ww := ww) (a_cons (e_var rfl) (a_cons (EO.frz (K := K) (o_list (e_var rfl) lr_D)) a_nil)) hS lr_D ⟨g, hsl, hA⟩))) ?_
  simp only [List.set_cons_succ, List.set_cons_zero]
  refine s_seq (N := fun δ μ => ms.Sublist μ ∧ Le δ [some P1, some (D K (.list (ds.map deedD))), some (D K (.list (sl.map slipD))), some (D K (.list (ww.1.map .int))), none, none, none, none]) (s_for (fun i δ μ => ms.Sublist μ ∧ Le δ [some P1, some (D K (.list (ds.map deedD))), some (D K (.list (sl.map slipD))), some (D K (.list (ww.1.map .int))), none, none, none, none]) (i_rng1 (K := K) (i := (cs.length : Int) + 1) (by walk_at "ev") (by omega)) ⟨List.Sublist.refl _, by walk_at "le"⟩ ?_ ?_) ?_
  · rintro k δ' μ' hk ⟨hsub, hle⟩
    replace hk : k < ((cs.length : Int) + 1).toNat := hk
    refine ⟨_, [4], G1.le g_name hle, ?_⟩
    refine s_less hsub ?_
    simp only [List.set_cons_succ, List.set_cons_zero]
    have ysw : ∀ δ : En, E1 (tTup (tCons (tC (V.str (Str.ofString "swap"))) tNil)) δ ms (D K (deedD .swap)) ms := fun δ => e_tup (K := K) (ds := [.str "swap"]) (d_cons e_cS d_nil) (by walk_at "ln")
    refine s_if (a := decide ((k : Int) = 0) || !decide (ds.getD ((k : Int) - 1).toNat .right = .swap)) (μ1 := ms) (t_or (t_test (e_eqI (K := K) (e_var rfl) e_cI)) fun h => t_test (e_neD (K := K) (e_ixLD (K := K) (i := (k : Int) - 1) (e_var rfl) (e_sub (K := K) (e_var rfl) e_cI) lr_D (by have := of_decide_eq_false h; omega)) (ysw _) dr_D dr_D (by walk_at "sh") (by walk_at "sh") (eqv_deed _ _))) (fun h => ?_) (fun _ => s_next ⟨List.Sublist.refl _, by walk_at "le"⟩)
    have hne : ∀ s ∈ sl, s.2 = .swap → s.1 + 1 ≠ (k : Int) := fun s hs hsw he => by
      have h1 := hds s hs
      have h2 : (((0 : Nat)) : Int) ≤ s.1 := addV_ge hA s hs
      have e : s.1.toNat = ((k : Int) - 1).toNat := by omega
      rw [hsw, e] at h1
      have h3 : ds.getD ((k : Int) - 1).toNat .right = .swap := by rw [List.getD_eq_getElem?_getD, h1]; rfl
      rw [h3] at h
      have h4 : ¬ ((k : Int) = 0) := by omega
      simp [h4] at h
      omega
    obtain ⟨p, hp1, hp2⟩ := addV_take (i := k) (by omega) (Nat.zero_le _) hA hne
    have hcut : cutL cs 0 (k : Int) = cs.take k := by simp [cutL]
    rw [← hcut] at hp1
    refine s_own (o_filtL (K := K) (enc := slipD) (out := slipD) (p := fun s => decide (s.1 < (k : Int))) (xs := sl) (e_var rfl) (by omega) (fun x hx => t_test (e_lt (K := K) (e_ixT (i := 0) (ds := [.int x.1, deedD x.2]) (e_var rfl) e_cI rfl) (e_var rfl))) (fun x hx _ => e_var rfl)) fun ah => ?_
    simp only [List.set_cons_succ, List.set_cons_zero]
    have hfl : (sl.filter fun s => decide (s.1 < (k : Int))).length ≤ 10000 := Nat.le_trans (List.length_filter_le _ _) hsl
    generalize (sl.filter fun s => decide (s.1 < (k : Int))) = sf at hp1 hfl ⊢
    refine s_perm (μ' := (ah, OL K (sf.map slipD)) :: ms) (List.perm_append_comm (l₁ := [(ah, OL K (sf.map slipD))]) (l₂ := ms)) ?_
    refine s_let (Q := D K (.list (p.1.map .int))) (μ1 := (ah, OL K (sf.map slipD)) :: ms) (EO.frz (K := K) (o_wrFigs (C := T.c_Written) (by exact e_add_with (P1 := ShF K T.c_Sheet b r (cutL cs 0 (k : Int))) (P2 := Av ah) (sl := sf) (ww := p) (a_cons (EY.frzNew (y_shCut (e_var rfl) e_cI (e_var rfl) (sr_cons hS) g (by omega) (by omega))) (a_cons (e_var rfl) a_nil)) sr_F (lr_O 0 rfl) ⟨g.cut _ _, hfl, hp1⟩))) ?_
    simp only [List.set_cons_succ, List.set_cons_zero]
    refine s_if (μ1 := (ah, OL K (sf.map slipD)) :: ms) (t_test (e_neD (K := K) (e_var rfl) (EO.frz (K := K) (o_cutH (enc := PyData.int) (xs := ww.1) (e_var rfl) (e_len (K := K) (e_var rfl) lr_D) lr_D (by omega))) dr_D dr_D (by walk_at "sh") (by walk_at "sh") (eqv_lst _ _))) (fun h => ?_) (fun _ => s_next ⟨List.sublist_cons_self _ _, by walk_at "le"⟩)
    exfalso
    rw [List.length_map, Int.toNat_natCast, ← List.prefix_iff_eq_take.mp hp2] at h
    simp at h
  · rintro δ' μ' h
    exact h
  rintro δ' μ' ⟨hsub, hle⟩
  refine S1.le ?_ hle
  refine s_less hsub ?_
  refine s_ret (by walk_at "ev") ?_
  walk_at "bk"
  rfl
theorem e__law_parts_right {c_Sheet : Addr} {c_Written : Addr} {tA : TA} {δ : En} {μ ms : Mp} {E : XK} {P1 : Pr} {b : Int} {r : Int} {cs : List (List Int)} {ds : List Deed} {sl : List (Int × Deed)} {ww : List Int × Int} (h : EA tA δ μ [P1, D K (.list (ds.map deedD)), D K (.list (sl.map slipD))] ms) (hS : SR K c_Sheet P1 ms b r cs) (hp : GoodSh b r cs ∧ cs.length ≤ 60 ∧ ds.length = cs.length ∧ sl.length ≤ 10000 ∧ addV b r cs sl 0 0 = some ww ∧ (∀ s ∈ sl, ds[s.1.toNat]? = some s.2)) : E1 (tCall (sp__law_parts_right K c_Sheet c_Written) [] E tA) δ μ (D K (.bool true)) ms := e_callR (ms, P1, b, r, cs, ds, sl, ww) (by simpa using h) ⟨hS, hp⟩
local macro_rules | `(tactic| walk_at "call") => `(tactic| ((with_reducible apply e__law_parts_right); (· walk_at "ea"); (· walk_at "sr"); (· walk_at "sd")))
def sp__law_deed (K : PySem.W.Frag)  : Sp := spK (α := (Deck) × (Int) × (Int)) (fun (x : (Deck) × (Int) × (Int)) => match x with | (Dk, b, r) => [D K (.int b), D K (.int r)]) (fun (x : (Deck) × (Int) × (Int)) => match x with | (Dk, b, r) => (2 ≤ b ∧ b ≤ 12) ∧ (1 ≤ r ∧ r ≤ 4)) (fun (x : (Deck) × (Int) × (Int)) => match x with | (Dk, b, r) => Dk) (fun (x : (Deck) × (Int) × (Int)) => match x with | (Dk, b, r) => D K (deedD (deedV Dk b r))) (fun (x : (Deck) × (Int) × (Int)) => match x with | (Dk, b, r) => deedDk Dk b r)
theorem ok__law_deed (T : Txt K mg) : FnOk P w K mg base CX0 2 T.a__law_deed T.fd__law_deed ["deck", "base", "rows"] (sp__law_deed K ) := by
  refine fn_Y T.F__law_deed sc__law_deed (fun _ => rfl) fun cdv A outer s H E hr => ⟨_, (pss_cons (ps_set (i := 3) sc__law_deed.nd rfl (Or.inl rfl) (pe_call (ok__law_draw T) (hr.mono (by decide)) (by rfl) T.m__law_draw T.F__law_draw.kp T.b__law_draw .nil pass0 (pa_cons (pv 0) (pa_cons (pe_int) pa_nil)))) (pss_cons (ps_set (i := 4) sc__law_deed.nd rfl (Or.inl rfl) (pe_op op_add (pe_int) (pe_call (ok__law_draw T) (hr.mono (by decide)) (by rfl) T.m__law_draw T.F__law_draw.kp T.b__law_draw .nil pass0 (pa_cons (pv 0) (pa_cons (pe_op op_sub (pv 1) (pe_int)) pa_nil))))) (pss_cons (ps_set (i := 5) sc__law_deed.nd rfl (Or.inl rfl) (pe_call (ok__law_draw T) (hr.mono (by decide)) (by rfl) T.m__law_draw T.F__law_draw.kp T.b__law_draw .nil pass0 (pa_cons (pv 0) (pa_cons (pv 2) pa_nil)))) (pss_cons (ps_if (pt_cmpR op_eq (pv 3) (pe_int) (nomark _)) (pss_one (ps_ret (pe_tup (pa_cons (pe_str) (pa_cons (pv 4) pa_nil))))) (pss_nil)) (pss_cons (ps_if (pt_cmpR op_eq (pv 3) (pe_int) (nomark _)) (pss_one (ps_ret (pe_tup (pa_cons (pe_str) (pa_cons (pv 5) (pa_cons (pv 4) pa_nil)))))) (pss_nil)) (pss_cons (ps_if (pt_cmpR op_eq (pv 3) (pe_int) (nomark _)) (pss_one (ps_ret (pe_tup (pa_cons (pe_str) (pa_cons (pv 5) pa_nil))))) (pss_nil)) (pss_one (ps_ret (pe_tup (pa_cons (pe_ix (k_ixL (K := K) rfl) (pe_lst (pa_cons (pe_str) (pa_cons (pe_str) (pa_cons (pe_str) (pa_cons (pe_str) (pa_cons (pe_str) pa_nil)))))) (pe_op op_sub (pv 3) (pe_int)) (fun _ _ => rfl)) pa_nil)))))))))), ?_⟩
  rintro ⟨ad, Dk, b, r⟩ hp
  replace hp : (2 ≤ b ∧ b ≤ 12) ∧ (1 ≤ r ∧ r ≤ 4) := hp
  show S1 E _ [some (Av ad), some (D K (.int b)), some (D K (.int r)), none, none, none] [(ad, DKo Dk)] { nx := fun _ μ => BackY (fun (x : Addr × (Deck) × (Int) × (Int)) Q μ => Q = (fun (x : (Deck) × (Int) × (Int)) => match x with | (Dk, b, r) => D K (deedD (deedV Dk b r))) x.2 ∧ μ = [(x.1, DKo ((fun (x : (Deck) × (Int) × (Int)) => match x with | (Dk, b, r) => deedDk Dk b r) x.2))]) (ad, (Dk, b, r)) (D K .none) μ, rt := BackY (fun (x : Addr × (Deck) × (Int) × (Int)) Q μ => Q = (fun (x : (Deck) × (Int) × (Int)) => match x with | (Dk, b, r) => D K (deedD (deedV Dk b r))) x.2 ∧ μ = [(x.1, DKo ((fun (x : (Deck) × (Int) × (Int)) => match x with | (Dk, b, r) => deedDk Dk b r) x.2))]) (ad, (Dk, b, r)) }
  try simp only [cx_K, cx_KX]
  obtain ⟨hb, hr⟩ := hp
  walk_at "Let"
  walk_at "Let"
  walk_at "Let"
  have hw0 : 0 ≤ dv Dk 8 := dv_lo (by decide)
  have hw8 : dv Dk 8 < 8 := dv_hi (by decide)
  have hq : deedV Dk b r = deedAt (dv Dk 8) (1 + dv (dn Dk 8) (b - 1)) (dv (dn (dn Dk 8) (b - 1)) r) := rfl
  generalize 1 + dv (dn Dk 8) (b - 1) = d at hq ⊢
  generalize dv (dn (dn Dk 8) (b - 1)) r = j at hq ⊢
  generalize dv Dk 8 = w at hw0 hw8 hq ⊢
  have hc : w = 0 ∨ w = 1 ∨ w = 2 ∨ w = 3 ∨ w = 4 ∨ w = 5 ∨ w = 6 ∨ w = 7 := by omega
  rcases hc with rfl | rfl | rfl | rfl | rfl | rfl | rfl | rfl
  · walk_at "Tt"
    walk_at "RetR"
    show _ = deedD (deedV Dk b r)
    rw [hq]
    rfl
  · walk_at "Ff"
    walk_at "Tt"
    walk_at "RetR"
    show _ = deedD (deedV Dk b r)
    rw [hq]
    rfl
  · walk_at "Ff"
    walk_at "Ff"
    walk_at "Tt"
    walk_at "RetR"
    show _ = deedD (deedV Dk b r)
    rw [hq]
    rfl
  all_goals
    walk_at "Ff"
    walk_at "Ff"
    walk_at "Ff"
    walk_at "RetR"
    show _ = deedD (deedV Dk b r)
    rw [hq]
    rfl
theorem e__law_deed  {tA : TA} {δ : En} {μ rest : Mp} {E : XK} {ad : Addr} {Dk : Deck} {b : Int} {r : Int} (h : EA tA δ μ [Av ad, D K (.int b), D K (.int r)] ((ad, DKo Dk) :: rest)) (hp : (2 ≤ b ∧ b ≤ 12) ∧ (1 ≤ r ∧ r ≤ 4)) : E1 (tCall (sp__law_deed K ) [] E tA) δ μ (D K (deedD (deedV Dk b r))) ((ad, DKo (deedDk Dk b r)) :: rest) := e_callK (α := (Deck) × (Int) × (Int)) (A := (fun (x : (Deck) × (Int) × (Int)) => match x with | (Dk, b, r) => [D K (.int b), D K (.int r)])) (pre := (fun (x : (Deck) × (Int) × (Int)) => match x with | (Dk, b, r) => (2 ≤ b ∧ b ≤ 12) ∧ (1 ≤ r ∧ r ≤ 4))) (D0 := (fun (x : (Deck) × (Int) × (Int)) => match x with | (Dk, b, r) => Dk)) (B := (fun (x : (Deck) × (Int) × (Int)) => match x with | (Dk, b, r) => D K (deedD (deedV Dk b r)))) (D1 := (fun (x : (Deck) × (Int) × (Int)) => match x with | (Dk, b, r) => deedDk Dk b r)) (Dk, b, r) h hp
local macro_rules | `(tactic| walk_at "call") => `(tactic| ((with_reducible apply e__law_deed); (· walk_at "ea"); (· walk_at "sd")))
def sp__law_taken (K : PySem.W.Frag)  : Sp := spD (α := (Int) × (Int) × (List (List Int)) × (Int) × (Deed)) (fun (x : (Int) × (Int) × (List (List Int)) × (Int) × (Deed)) => match x with | (b, r, cs, i, x) => [D K (.int b), D K (.list (cs.map colD)), D K (.int i), D K (deedD x)]) (fun (x : (Int) × (Int) × (List (List Int)) × (Int) × (Deed)) => match x with | (b, r, cs, i, x) => GoodSh b r cs ∧ DeedOk b r x ∧ (0 ≤ i ∧ i < cs.length) ∧ (isCopy x = true → 0 < i)) (fun (x : (Int) × (Int) × (List (List Int)) × (Int) × (Deed)) => match x with | (b, r, cs, i, x) => D K (.list ((lawTaken b cs i.toNat x).map .int)))
theorem ok__law_taken (T : Txt K mg) : FnOk P w K mg base CX0 1 T.a__law_taken T.fd__law_taken ["base", "columns", "i", "deed"] (sp__law_taken K ) := by
  refine fn_Y T.F__law_taken sc__law_taken (fun _ => rfl) fun cdv A outer s H E hr => ⟨_, (pss_cons (ps_set (i := 4) sc__law_taken.nd rfl (Or.inl rfl) (pe_callTy (k_list (K := K) rfl) (by rfl) T.n_list (by decide +kernel) (pa_cons (pe_ix (k_ixL (K := K) rfl) (pv 1) (pv 2) (fun _ _ => rfl)) pa_nil))) (pss_cons (ps_if (pt_cmpR op_eq (pe_ix (k_ixT (K := K) rfl) (pv 3) (pe_int) (fun _ _ => rfl)) (pe_str) (nomark _)) (pss_one (ps_asg (pe_op op_mod (pe_callTy c_int (by rfl) T.n_int (by decide +kernel) (pa_cons (pe_op op_add (pe_ix (k_ixL (K := K) rfl) (pv 4) (pe_ix (k_ixT (K := K) rfl) (pv 3) (pe_int) (fun _ _ => rfl)) (fun _ _ => rfl)) (pe_ix (k_ixT (K := K) rfl) (pv 3) (pe_int) (fun _ _ => rfl))) pa_nil)) (pv 0)) (pg_sub (pv 4) (pe_ix (k_ixT (K := K) rfl) (pv 3) (pe_int) (fun _ _ => rfl)) set_list))) (pss_nil)) (pss_cons (ps_if (pt_cmpR op_eq (pe_ix (k_ixT (K := K) rfl) (pv 3) (pe_int) (fun _ _ => rfl)) (pe_str) (nomark _)) (pss_one (ps_asg (pe_ix (k_ixT (K := K) rfl) (pe_ix (k_ixL (K := K) rfl) (pv 1) (pe_op op_sub (pv 2) (pe_int)) (fun _ _ => rfl)) (pe_ix (k_ixT (K := K) rfl) (pv 3) (pe_int) (fun _ _ => rfl)) (fun _ _ => rfl)) (pg_sub (pv 4) (pe_ix (k_ixT (K := K) rfl) (pv 3) (pe_int) (fun _ _ => rfl)) set_list))) (pss_nil)) (pss_one (ps_ret (pv 4)))))), ?_⟩
  rintro ⟨b, r, cs, i, x⟩ hp
  replace hp : GoodSh b r cs ∧ DeedOk b r x ∧ (0 ≤ i ∧ i < cs.length) ∧ (isCopy x = true → 0 < i) := hp
  show S1 E _ [some (D K (.int b)), some (D K (.list (cs.map colD))), some (D K (.int i)), some (D K (deedD x)), none] [] { nx := fun _ μ => BackY (fun x Q μ => Q = (fun (x : (Int) × (Int) × (List (List Int)) × (Int) × (Deed)) => match x with | (b, r, cs, i, x) => D K (.list ((lawTaken b cs i.toNat x).map .int))) x ∧ μ = []) (b, r, cs, i, x) (D K .none) μ, rt := BackY (fun x Q μ => Q = (fun (x : (Int) × (Int) × (List (List Int)) × (Int) × (Deed)) => match x with | (b, r, cs, i, x) => D K (.list ((lawTaken b cs i.toNat x).map .int))) x ∧ μ = []) (b, r, cs, i, x) }
  try simp only [cx_K, cx_KX]
  obtain ⟨g, hx, hi, hc⟩ := hp
  have hb : 2 ≤ b ∧ b ≤ 12 := ⟨g.b2, g.b12⟩
  have hg := g.row (n := i.toNat) (by omega)
  have hr := rowOk_ok (n := (cs.getD i.toNat []).length) hx (by rw [hg.1]; exact Int.le_refl _)
  walk_at "Own"
  rename_i fa
  cases x with
  | read j d =>
    have hr : 0 ≤ j ∧ j < ((cs.getD i.toNat []).length : Int) := hr
    have hr1 : 0 ≤ j ∧ j < (((cs.getD i.toNat []).map PyData.int).length : Int) := by rw [List.length_map]; exact hr
    walk_at "Ifr"
    · intro _
      refine s_setIx (K := K) (n := 0) (ad := fa) (ds := (cs.getD i.toNat []).map .int) (d := .int (((cs.getD i.toNat []).getD j.toNat 0 + d) % b)) (i := j) (μ1 := [(fa, OL K ((cs.getD i.toNat []).map .int))]) (by walk_at "ev") (by walk_at "ev") (by walk_at "ev") rfl hr1 ?_
      walk_at "Ifr"
      · intro h
        cases h
      intro _
      refine s_frz (μa := []) (μb := []) 4 rfl ?_
      walk_at "Ret"
      refine back_D (imp_D ?_)
      rw [← List.map_set]
      rfl
    · intro h
      cases h
  | copy j =>
    have hc := hc rfl
    have hr : 0 ≤ j ∧ j < ((cs.getD i.toNat []).length : Int) := hr
    have hr1 : 0 ≤ j ∧ j < (((cs.getD i.toNat []).map PyData.int).length : Int) := by rw [List.length_map]; exact hr
    have hg2 := g.row (n := (i - 1).toNat) (by omega)
    have hr2 : 0 ≤ j ∧ j < ((cs.getD (i - 1).toNat []).length : Int) := by rw [hg2.1, ← hg.1]; exact hr
    have hi2 : 0 ≤ i - 1 ∧ i - 1 < (cs.length : Int) := by omega
    walk_at "Ifr"
    · intro h
      cases h
    intro _
    walk_at "Ifr"
    · intro _
      refine s_setIx (K := K) (n := 0) (ad := fa) (ds := (cs.getD i.toNat []).map .int) (d := .int ((cs.getD (i - 1).toNat []).getD j.toNat 0)) (i := j) (μ1 := [(fa, OL K ((cs.getD i.toNat []).map .int))]) (by walk_at "ev") (by walk_at "ev") (by walk_at "ev") rfl hr1 ?_
      refine s_frz (μa := []) (μb := []) 4 rfl ?_
      walk_at "Ret"
      refine back_D (imp_D ?_)
      rw [← List.map_set, show (i - 1).toNat = i.toNat - 1 by omega]
      rfl
    · intro h
      cases h
  | _ =>
    walk_at "Ifr"
    · intro h
      cases h
    intro _
    walk_at "Ifr"
    · intro h
      cases h
    intro _
    refine s_frz (μa := []) (μb := []) 4 rfl ?_
    walk_at "Ret"
    exact back_D (imp_D rfl)
theorem e__law_taken  {δ : En} {μ μ' : Mp} {E : XK} {b : Int} {r : Int} {cs : List (List Int)} {i : Int} {x : Deed} {tA : TA} (h : EA tA δ μ [D K (.int b), D K (.list (cs.map colD)), D K (.int i), D K (deedD x)] μ') (hp : GoodSh b r cs ∧ DeedOk b r x ∧ (0 ≤ i ∧ i < cs.length) ∧ (isCopy x = true → 0 < i)) : E1 (tCall (sp__law_taken K ) [] E tA) δ μ (D K (.list ((lawTaken b cs i.toNat x).map .int))) μ' := e_callD (b, r, cs, i, x) h hp
local macro_rules | `(tactic| walk_at "call") => `(tactic| ((with_reducible apply e__law_taken); (· walk_at "ea"); (· walk_at "sd")))
def sp__law_step (K : PySem.W.Frag)  : Sp := spD (α := (Int) × (Int) × (List (List Int)) × (Int) × (Deed) × (Int)) (fun (x : (Int) × (Int) × (List (List Int)) × (Int) × (Deed) × (Int)) => match x with | (b, r, cs, i, x, c) => [D K (.int b), D K (.list (cs.map colD)), D K (.int i), D K (deedD x), D K (.int c)]) (fun (x : (Int) × (Int) × (List (List Int)) × (Int) × (Deed) × (Int)) => match x with | (b, r, cs, i, x, c) => GoodSh b r cs ∧ DeedOk b r x ∧ (0 ≤ i ∧ i < cs.length) ∧ 0 ≤ c) (fun (x : (Int) × (Int) × (List (List Int)) × (Int) × (Deed) × (Int)) => match x with | (b, r, cs, i, x, c) => D K (stepD (lawStep b cs i.toNat x c)))
theorem ok__law_step (T : Txt K mg) : FnOk P w K mg base CX0 2 T.a__law_step T.fd__law_step ["base", "columns", "i", "deed", "carry"] (sp__law_step K ) := by
  refine fn_Y T.F__law_step sc__law_step (fun _ => rfl) fun cdv A outer s H E hr => ⟨_, (pss_cons (ps_set (i := 5) sc__law_step.nd rfl (Or.inl rfl) (pe_ix (k_ixT (K := K) rfl) (pv 3) (pe_int) (fun _ _ => rfl))) (pss_cons (ps_if (PW.pt (pw_or (PW.pt (pw_and (pt_cmpR op_eq (pv 5) (pe_str) (nomark _)) (pw_and1 (pt_cmpR op_eq (pv 2) (pe_int) (nomark _))))) (pw_or1 (PW.pt (pw_and (pt_cmpR op_eq (pv 5) (pe_str) (nomark _)) (pw_and1 (pt_cmpR op_eq (pv 2) (pe_op op_sub (pe_callB (k_len (K := K) rfl) (by rfl) T.n_len (by decide +kernel) (pa_cons (pv 1) pa_nil)) (pe_int)) (nomark _)))))))) (pss_one (ps_ret (pe_non))) (pss_nil)) (pss_cons (ps_if (pt_cmpR op_eq (pv 5) (pe_str) (nomark _)) (pss_one (ps_ret (pe_tup (pa_cons (pe_lst pa_nil) (pa_cons (pv 4) pa_nil))))) (pss_nil)) (pss_cons (ps_set (i := 6) sc__law_step.nd rfl (Or.inl rfl) (pe_callTy c_int (by rfl) T.n_int (by decide +kernel) (pa_cons (pe_op op_add (pe_callB (k_sum (K := K) rfl rfl) (by rfl) T.n_sum (by decide +kernel) (pa_cons (pe_call (ok__law_taken T) (hr.mono (by decide)) (by rfl) T.m__law_taken T.F__law_taken.kp T.b__law_taken .nil pass0 (pa_cons (pv 0) (pa_cons (pv 1) (pa_cons (pv 2) (pa_cons (pv 3) pa_nil))))) pa_nil)) (pv 4)) pa_nil))) (pss_cons (ps_set (i := 7) sc__law_step.nd rfl (Or.inl rfl) (pe_op op_mod (pv 6) (pv 0))) (pss_cons (ps_set (i := 8) sc__law_step.nd rfl (Or.inl rfl) (pe_op op_fdivW (pv 6) (pv 0))) (pss_cons (ps_if (pt_cmpR op_eq (pv 5) (pe_str) (nomark _)) (pss_cons (ps_if (pt_cmpR op_eq (pv 8) (pe_int) (nomark _)) (pss_one (ps_ret (pe_non))) (pss_nil)) (pss_one (ps_set (i := 8) sc__law_step.nd rfl (Or.inl rfl) (pe_int)))) (pss_nil)) (pss_cons (ps_if (pt_cmpR op_eq (pv 5) (pe_str) (nomark _)) (pss_one (ps_set (i := 8) sc__law_step.nd rfl (Or.inl rfl) (pe_op op_add (pv 8) (pe_int)))) (pss_nil)) (pss_cons (ps_if (pt_cmpR op_eq (pv 5) (pe_str) (nomark _)) (pss_one (ps_set (i := 7) sc__law_step.nd rfl (Or.inl rfl) (pe_op op_mod (pe_callTy c_int (by rfl) T.n_int (by decide +kernel) (pa_cons (pe_op op_add (pv 7) (pe_ix (k_ixT (K := K) rfl) (pv 3) (pe_int) (fun _ _ => rfl))) pa_nil)) (pv 0)))) (pss_nil)) (pss_cons (ps_if (pt_cmpR op_eq (pv 5) (pe_str) (nomark _)) (pss_cons (ps_set (i := 6) sc__law_step.nd rfl (Or.inl rfl) (pe_callTy c_int (by rfl) T.n_int (by decide +kernel) (pa_cons (pe_op op_add (pe_callB (k_sum (K := K) rfl rfl) (by rfl) T.n_sum (by decide +kernel) (pa_cons (pe_callTy (k_list (K := K) rfl) (by rfl) T.n_list (by decide +kernel) (pa_cons (pe_ix (k_ixL (K := K) rfl) (pv 1) (pv 2) (fun _ _ => rfl)) pa_nil)) pa_nil)) (pv 8)) pa_nil))) (pss_one (ps_ret (pe_tup (pa_cons (pe_lst (pa_cons (pv 7) (pa_cons (pe_op op_mod (pv 6) (pv 0)) pa_nil))) (pa_cons (pe_op op_fdivW (pv 6) (pv 0)) pa_nil)))))) (pss_nil)) (pss_one (ps_ret (pe_tup (pa_cons (pe_lst (pa_cons (pv 7) pa_nil)) (pa_cons (pv 8) pa_nil))))))))))))))), ?_⟩
  rintro ⟨b, r, cs, i, x, c⟩ hp
  replace hp : GoodSh b r cs ∧ DeedOk b r x ∧ (0 ≤ i ∧ i < cs.length) ∧ 0 ≤ c := hp
  show S1 E _ [some (D K (.int b)), some (D K (.list (cs.map colD))), some (D K (.int i)), some (D K (deedD x)), some (D K (.int c)), none, none, none, none] [] { nx := fun _ μ => BackY (fun x Q μ => Q = (fun (x : (Int) × (Int) × (List (List Int)) × (Int) × (Deed) × (Int)) => match x with | (b, r, cs, i, x, c) => D K (stepD (lawStep b cs i.toNat x c))) x ∧ μ = []) (b, r, cs, i, x, c) (D K .none) μ, rt := BackY (fun x Q μ => Q = (fun (x : (Int) × (Int) × (List (List Int)) × (Int) × (Deed) × (Int)) => match x with | (b, r, cs, i, x, c) => D K (stepD (lawStep b cs i.toNat x c))) x ∧ μ = []) (b, r, cs, i, x, c) }
  try simp only [cx_K, cx_KX]
  obtain ⟨g, hx, hi, hc⟩ := hp
  have hb : 2 ≤ b ∧ b ≤ 12 := ⟨g.b2, g.b12⟩
  have hg := g.row (n := i.toNat) (by omega)
  have hr := rowOk_ok (n := (cs.getD i.toNat []).length) hx (by rw [hg.1]; exact Int.le_refl _)
  walk_at "Let"
  walk_at "Ifr"
  · intro h
    walk_at "Ret"
    rw [word_copy, word_swap, List.length_map] at h
    simp only [Bool.or_eq_true, Bool.and_eq_true, decide_eq_true_eq] at h
    have hc : isCopy x = true ∧ i.toNat = 0 ∨ x = .swap ∧ i.toNat + 1 = cs.length := by
      rcases h with h | h
      · exact .inl ⟨h.1, by omega⟩
      · exact .inr ⟨h.1, by omega⟩
    refine back_D (imp_D ?_)
    unfold lawStep
    rw [if_pos hc]
    rfl
  intro h
  rw [word_copy, word_swap, List.length_map] at h
  simp only [Bool.or_eq_false_iff, Bool.and_eq_false_iff, decide_eq_false_iff_not] at h
  have hno : ¬ (isCopy x = true ∧ i.toNat = 0 ∨ x = .swap ∧ i.toNat + 1 = cs.length) := by
    rintro (⟨h1, h2⟩ | ⟨h1, h2⟩)
    · rcases h.1 with h | h
      · rw [h1] at h
        cases h
      · omega
    · rcases h.2 with h | h
      · exact h h1
      · omega
  have hcp : isCopy x = true → 0 < i := fun h1 => by
    rcases h.1 with h | h
    · rw [h1] at h
      cases h
    · omega
  have hds : lawStep b cs i.toNat x c = doSum b (lawTaken b cs i.toNat x).sum c (some x) := by
    unfold lawStep
    rw [if_neg hno, lawTaken_sum hr]
  have hnn := lawTaken_nn g (i := i.toNat) (by omega) (fun h => by have := hcp h; omega) hx
  have hnn2 : 0 ≤ ((lawTaken b cs i.toNat x).sum + c) / b := Int.ediv_nonneg (by omega) (by omega)
  clear h hno
  walk_at "Ifr"
  · intro h
    cases w_out h
    walk_at "Ret"
    refine back_D (imp_D ?_)
    rw [hds]
    rfl
  intro h0
  have hpre : GoodSh b r cs ∧ DeedOk b r x ∧ (0 ≤ i ∧ i < cs.length) ∧ (isCopy x = true → 0 < i) := ⟨g, hx, hi, hcp⟩
  walk_at "Let"
  walk_at "Let"
  walk_at "Let"
  walk_at "Ifr"
  · intro h
    cases w_forget h
    walk_at "Ifr"
    · intro hz
      walk_at "Ret"
      refine back_D (imp_D ?_)
      rw [hds]
      have hz := of_decide_eq_true hz
      simp only [doSum]
      rw [if_neg (by omega)]
      rfl
    intro hz
    have hz := of_decide_eq_false hz
    walk_at "Set"
    show S1 E _ _ _ _
    walk_at "Ff"
    walk_at "Ff"
    walk_at "Ff"
    walk_at "RetD"
    rw [hds]
    simp only [doSum]
    rw [if_pos (by omega)]
    rfl
  intro h1
  walk_at "Ifr"
  · intro h
    cases w_again h
    walk_at "Set"
    show S1 E _ _ _ _
    walk_at "Ff"
    walk_at "Ff"
    walk_at "RetD"
    rw [hds]
    rfl
  intro h2
  walk_at "Ifr"
  · intro h
    obtain ⟨d, rfl⟩ := w_off h
    walk_at "Set"
    show S1 E _ _ _ _
    walk_at "Ff"
    walk_at "RetD"
    rw [hds]
    rfl
  intro h3
  walk_at "Ifr"
  · intro h
    cases w_twice h
    walk_at "Let"
    walk_at "RetD"
    rw [hds]
    simp [stepD, doSum, lawTaken]
  intro h4
  walk_at "RetD"
  rw [hds]
  cases x <;> first | rfl | (exfalso; exact of_decide_eq_false h0 rfl) | (exfalso; exact of_decide_eq_false h1 rfl) | (exfalso; exact of_decide_eq_false h2 rfl) | (exfalso; exact of_decide_eq_false h3 rfl) | (exfalso; exact of_decide_eq_false h4 rfl)
theorem e__law_step  {δ : En} {μ μ' : Mp} {E : XK} {b : Int} {r : Int} {cs : List (List Int)} {i : Int} {x : Deed} {c : Int} {tA : TA} (h : EA tA δ μ [D K (.int b), D K (.list (cs.map colD)), D K (.int i), D K (deedD x), D K (.int c)] μ') (hp : GoodSh b r cs ∧ DeedOk b r x ∧ (0 ≤ i ∧ i < cs.length) ∧ 0 ≤ c) : E1 (tCall (sp__law_step K ) [] E tA) δ μ (D K (stepD (lawStep b cs i.toNat x c))) μ' := e_callD (b, r, cs, i, x, c) h hp
local macro_rules | `(tactic| walk_at "call") => `(tactic| ((with_reducible apply e__law_step); (· walk_at "ea"); (· walk_at "sd")))
def sp__law_plan (K : PySem.W.Frag)  : Sp := spK (α := (Deck) × (Int) × (Int) × (Int) × (List (List Int))) (fun (x : (Deck) × (Int) × (Int) × (Int) × (List (List Int))) => match x with | (Dk, b, r, n, cs) => [D K (.int b), D K (.int r), D K (.list (cs.map colD)), D K (.int n)]) (fun (x : (Deck) × (Int) × (Int) × (Int) × (List (List Int))) => match x with | (Dk, b, r, n, cs) => GoodSh b r cs ∧ (0 < n ∧ n < 2 ^ 200)) (fun (x : (Deck) × (Int) × (Int) × (Int) × (List (List Int))) => match x with | (Dk, b, r, n, cs) => Dk) (fun (x : (Deck) × (Int) × (Int) × (Int) × (List (List Int))) => match x with | (Dk, b, r, n, cs) => D K (.list ((planS b r n cs Dk cs.length).1.map deedD))) (fun (x : (Deck) × (Int) × (Int) × (Int) × (List (List Int))) => match x with | (Dk, b, r, n, cs) => (planS b r n cs Dk cs.length).2.2)
theorem ok__law_plan (T : Txt K mg) : FnOk P w K mg base CX0 3 T.a__law_plan T.fd__law_plan ["deck", "base", "rows", "columns", "often"] (sp__law_plan K ) := by
  refine fn_Y T.F__law_plan sc__law_plan (fun _ => rfl) fun cdv A outer s H E hr => ⟨_, (pss_cons (ps_set (i := 5) sc__law_plan.nd rfl (Or.inl rfl) (pe_lst pa_nil)) (pss_cons (ps_set (i := 6) sc__law_plan.nd rfl (Or.inl rfl) (pe_int)) (pss_cons (ps_for PassesOwn.never rfl (pi_range1 (by rfl) T.n_range (pa_cons (pe_callB (k_len (K := K) rfl) (by rfl) T.n_len (by decide +kernel) (pa_cons (pv 3) pa_nil)) pa_nil)) (pg_name (i := 7) sc__law_plan.nd rfl (Or.inl rfl)) (pss_cons (ps_set (i := 8) sc__law_plan.nd rfl (Or.inl rfl) (pe_tup (pa_cons (pe_str) pa_nil))) (pss_cons (ps_if (PW.pt (pw_and (pt_cmpR op_eq (pe_call (ok__law_draw T) (hr.mono (by decide)) (by rfl) T.m__law_draw T.F__law_draw.kp T.b__law_draw .nil pass0 (pa_cons (pv 0) (pa_cons (pv 4) pa_nil))) (pe_int) (nomark _)) (pw_and1 (PW.pt (pw_or (pt_cmpR op_eq (pv 7) (pe_int) (nomark _)) (pw_or1 (pt_cmpR op_ne (pe_ix (k_ixT (K := K) rfl) (pe_ix (k_ixL (K := K) rfl) (pv 5) (pe_op op_sub (pv 7) (pe_int)) (fun _ _ => rfl)) (pe_int) (fun _ _ => rfl)) (pe_str) (nomark _)))))))) (pss_one (ps_set (i := 8) sc__law_plan.nd rfl (Or.inl rfl) (pe_call (ok__law_deed T) (hr.mono (by decide)) (by rfl) T.m__law_deed T.F__law_deed.kp T.b__law_deed .nil pass0 (pa_cons (pv 0) (pa_cons (pv 1) (pa_cons (pv 2) pa_nil)))))) (pss_nil)) (pss_cons (ps_set (i := 9) sc__law_plan.nd rfl (Or.inl rfl) (pe_call (ok__law_step T) (hr.mono (by decide)) (by rfl) T.m__law_step T.F__law_step.kp T.b__law_step .nil pass0 (pa_cons (pv 1) (pa_cons (pv 3) (pa_cons (pv 7) (pa_cons (pv 8) (pa_cons (pv 6) pa_nil))))))) (pss_cons (ps_if (pt_cmp (pc_isN (pv 9)) rfl) (pss_cons (ps_set (i := 8) sc__law_plan.nd rfl (Or.inl rfl) (pe_tup (pa_cons (pe_str) pa_nil))) (pss_one (ps_set (i := 9) sc__law_plan.nd rfl (Or.inl rfl) (pe_call (ok__law_step T) (hr.mono (by decide)) (by rfl) T.m__law_step T.F__law_step.kp T.b__law_step .nil pass0 (pa_cons (pv 1) (pa_cons (pv 3) (pa_cons (pv 7) (pa_cons (pv 8) (pa_cons (pv 6) pa_nil))))))))) (pss_nil)) (pss_cons (ps_expr (pe_bm PySem.F.plainAttrs_list PySem.F.slot_list_append PySem.F.type_list_append mt_append (pv 5) (pa_cons (pv 8) pa_nil))) (pss_one (ps_set (i := 6) sc__law_plan.nd rfl (Or.inl rfl) (pe_ix (k_ixT (K := K) rfl) (pv 9) (pe_int) (fun _ _ => rfl)))))))))) (pss_one (ps_ret (pv 5)))))), ?_⟩
  rintro ⟨ad, Dk, b, r, n, cs⟩ hp
  replace hp : GoodSh b r cs ∧ (0 < n ∧ n < 2 ^ 200) := hp
  show S1 E _ [some (Av ad), some (D K (.int b)), some (D K (.int r)), some (D K (.list (cs.map colD))), some (D K (.int n)), none, none, none, none, none] [(ad, DKo Dk)] { nx := fun _ μ => BackY (fun (x : Addr × (Deck) × (Int) × (Int) × (Int) × (List (List Int))) Q μ => Q = (fun (x : (Deck) × (Int) × (Int) × (Int) × (List (List Int))) => match x with | (Dk, b, r, n, cs) => D K (.list ((planS b r n cs Dk cs.length).1.map deedD))) x.2 ∧ μ = [(x.1, DKo ((fun (x : (Deck) × (Int) × (Int) × (Int) × (List (List Int))) => match x with | (Dk, b, r, n, cs) => (planS b r n cs Dk cs.length).2.2) x.2))]) (ad, (Dk, b, r, n, cs)) (D K .none) μ, rt := BackY (fun (x : Addr × (Deck) × (Int) × (Int) × (Int) × (List (List Int))) Q μ => Q = (fun (x : (Deck) × (Int) × (Int) × (Int) × (List (List Int))) => match x with | (Dk, b, r, n, cs) => D K (.list ((planS b r n cs Dk cs.length).1.map deedD))) x.2 ∧ μ = [(x.1, DKo ((fun (x : (Deck) × (Int) × (Int) × (Int) × (List (List Int))) => match x with | (Dk, b, r, n, cs) => (planS b r n cs Dk cs.length).2.2) x.2))]) (ad, (Dk, b, r, n, cs)) }
  try simp only [cx_K, cx_KX]
  obtain ⟨g, hn⟩ := hp
  have hb : 2 ≤ b ∧ b ≤ 12 := ⟨g.b2, g.b12⟩
  have hr4 : 1 ≤ r ∧ r ≤ 4 := ⟨g.r1, g.r4⟩
  have hlen := g.len
  walk_at "Own"
  rename_i da
  walk_at "Let"
  refine s_seq (N := fun δ μ => Le δ [some (Av ad), some (D K (.int b)), some (D K (.int r)), some (D K (.list (cs.map colD))), some (D K (.int n)), some (Av da), none, none, none, none] ∧ μ = [(ad, DKo (planS b r n cs Dk cs.length).2.2), (da, OL K ((planS b r n cs Dk cs.length).1.map deedD))]) ?_ ?_
  · refine s_for (fun i δ μ => Le δ [some (Av ad), some (D K (.int b)), some (D K (.int r)), some (D K (.list (cs.map colD))), some (D K (.int n)), some (Av da), some (D K (.int (planS b r n cs Dk i).2.1)), none, none, none] ∧ μ = [(ad, DKo (planS b r n cs Dk i).2.2), (da, OL K ((planS b r n cs Dk i).1.map deedD))]) (i_rng1 (i := ((cs.map colD).length : Int)) (μ' := [(ad, DKo Dk), (da, OL K [])]) (by walk_at "ev") (by rw [List.length_map]; omega)) ?_ ?_ ?_
    · exact ⟨by walk_at "le", rfl⟩
    · rintro i δ' _ hi ⟨hle, rfl⟩
      rw [Int.toNat_natCast, List.length_map] at hi
      obtain ⟨hl, hc, hds⟩ := planS_ok (n := n) (D := Dk) g i (by omega)
      have hstep : planS b r n cs Dk (i + 1) = ((planS b r n cs Dk i).1 ++ [planY b cs i (planX b r n (planS b r n cs Dk i).2.2 i (planS b r n cs Dk i).1) (planS b r n cs Dk i).2.1], ((lawStep b cs i (planY b cs i (planX b r n (planS b r n cs Dk i).2.2 i (planS b r n cs Dk i).1) (planS b r n cs Dk i).2.1) (planS b r n cs Dk i).2.1).getD ([], 0)).2, planD b r n (planS b r n cs Dk i).2.2 i (planS b r n cs Dk i).1) := rfl
      rw [hstep]
      clear hstep
      generalize (planS b r n cs Dk i).1 = ds at hl hds hle ⊢
      generalize (planS b r n cs Dk i).2.1 = c at hc hle ⊢
      generalize (planS b r n cs Dk i).2.2 = D1 at hle ⊢
      refine ⟨_, [7], G1.le g_name hle, ?_⟩
      have hi0 : (0 : Int) ≤ (i : Int) ∧ (i : Int) < (cs.length : Int) := by omega
      have hx := planX_ok (n := n) (D := D1) (i := i) (ds := ds) hb.1 hr4.1
      refine s_let (Q := D K (deedD .right)) (μ1 := [(ad, DKo D1), (da, OL K (ds.map deedD))]) (e_tup (d_cons e_cS d_nil) (by decide)) ?_
      have hXq : planX b r n D1 i ds = if planQ n D1 i ds = true then deedV (dn D1 n) b r else .right := rfl
      have hDq : planD b r n D1 i ds = if planQ n D1 i ds = true then deedDk (dn D1 n) b r else dn D1 n := rfl
      generalize planX b r n D1 i ds = X at hx hXq ⊢
      generalize planD b r n D1 i ds = D2 at hDq ⊢
      have hpre : GoodSh b r cs ∧ DeedOk b r X ∧ (0 ≤ (i : Int) ∧ (i : Int) < cs.length) ∧ 0 ≤ c := ⟨g, hx, hi0, hc⟩
      have hpre2 : GoodSh b r cs ∧ DeedOk b r .right ∧ (0 ≤ (i : Int) ∧ (i : Int) < cs.length) ∧ 0 ≤ c := ⟨g, .inl rfl, hi0, hc⟩
      refine s_ifj (fun δ μ => Le δ [some (Av ad), some (D K (.int b)), some (D K (.int r)), some (D K (.list (cs.map colD))), some (D K (.int n)), some (Av da), some (D K (.int c)), some (D K (.int (i : Int))), some (D K (deedD X)), none] ∧ μ = [(ad, DKo D2), (da, OL K (ds.map deedD))]) (a := planQ n D1 i ds) (μ1 := [(ad, DKo (dn D1 n)), (da, OL K (ds.map deedD))]) ?_ (fun h => ?_) (fun h => ?_) ?_
      · show T1 _ _ _ (decide (dv D1 n = 0) && (decide ((i : Int) = 0) || !decide ((ds.getD ((i : Int) - 1).toNat .right).word = "swap"))) _
        walk_at "tv"
      · rw [if_pos h] at hXq hDq
        subst hXq hDq
        walk_at "Set"
        exact ⟨by walk_at "le", rfl⟩
      · rw [if_neg (by rw [h]; exact Bool.false_ne_true)] at hXq hDq
        subst hXq hDq
        exact s_next ⟨by walk_at "le", rfl⟩
      rintro δ2 _ ⟨hle2, rfl⟩
      refine S1.le ?_ hle2
      clear hle hle2 hXq hDq
      obtain ⟨⟨wf, wc⟩, hw⟩ := planY_some (b := b) (c := c) (cs := cs) (i := i) (x := X)
      have hYq : planY b cs i X c = if lawStep b cs i X c = none then .right else X := rfl
      rw [hw, Option.getD_some]
      generalize planY b cs i X c = Y at hw hYq ⊢
      walk_at "Let"
      rw [Int.toNat_natCast]
      refine s_ifj (fun δ μ => Le δ [some (Av ad), some (D K (.int b)), some (D K (.int r)), some (D K (.list (cs.map colD))), some (D K (.int n)), some (Av da), some (D K (.int c)), none, some (D K (deedD Y)), some (D K (stepD (some (wf, wc))))] ∧ μ = [(ad, DKo D2), (da, OL K (ds.map deedD))]) (a := isNon (stepD (lawStep b cs i X c))) (μ1 := [(ad, DKo D2), (da, OL K (ds.map deedD))]) (by walk_at "tv") (fun h => ?_) (fun h => ?_) ?_
      · have hn0 : lawStep b cs i X c = none := by
          cases h2 : lawStep b cs i X c with
          | none => rfl
          | some w => rw [h2] at h; cases h
        rw [if_pos hn0] at hYq
        subst hYq
        refine s_let (Q := D K (deedD .right)) (μ1 := [(ad, DKo D2), (da, OL K (ds.map deedD))]) (e_tup (d_cons e_cS d_nil) (by decide)) ?_
        walk_at "Set"
        refine ⟨?_, rfl⟩
        rw [Int.toNat_natCast, hw]
        walk_at "le"
      · have hn0 : lawStep b cs i X c ≠ none := fun h2 => by rw [h2] at h; cases h
        rw [if_neg hn0] at hYq
        subst hYq
        rw [hw]
        exact s_next ⟨by walk_at "le", rfl⟩
      rintro δ3 _ ⟨hle3, rfl⟩
      refine S1.le ?_ hle3
      refine s_do (e_append (K := K) 1 (d := deedD Y) (by walk_at "ev") (by walk_at "ev") ⟨1, _, rfl⟩ rfl (by rw [List.length_map]; omega)) ?_
      refine s_set (Q := D K (.int wc)) (by walk_at "ev") ⟨?_, ?_⟩
      · walk_at "le"
      · rw [List.map_append]
        rfl
    · rintro δ' _ ⟨hle, rfl⟩
      rw [Int.toNat_natCast, List.length_map] at hle ⊢
      exact ⟨Le.trans hle (by walk_at "le"), rfl⟩
  · rintro δ _ ⟨hle, rfl⟩
    refine S1.le ?_ hle
    refine s_frz (μa := [_]) (μb := []) 5 rfl ?_
    walk_at "RetR"
    rfl
theorem e__law_plan  {tA : TA} {δ : En} {μ rest : Mp} {E : XK} {ad : Addr} {Dk : Deck} {b : Int} {r : Int} {n : Int} {cs : List (List Int)} (h : EA tA δ μ [Av ad, D K (.int b), D K (.int r), D K (.list (cs.map colD)), D K (.int n)] ((ad, DKo Dk) :: rest)) (hp : GoodSh b r cs ∧ (0 < n ∧ n < 2 ^ 200)) : E1 (tCall (sp__law_plan K ) [] E tA) δ μ (D K (.list ((planS b r n cs Dk cs.length).1.map deedD))) ((ad, DKo ((planS b r n cs Dk cs.length).2.2)) :: rest) := e_callK (α := (Deck) × (Int) × (Int) × (Int) × (List (List Int))) (A := (fun (x : (Deck) × (Int) × (Int) × (Int) × (List (List Int))) => match x with | (Dk, b, r, n, cs) => [D K (.int b), D K (.int r), D K (.list (cs.map colD)), D K (.int n)])) (pre := (fun (x : (Deck) × (Int) × (Int) × (Int) × (List (List Int))) => match x with | (Dk, b, r, n, cs) => GoodSh b r cs ∧ (0 < n ∧ n < 2 ^ 200))) (D0 := (fun (x : (Deck) × (Int) × (Int) × (Int) × (List (List Int))) => match x with | (Dk, b, r, n, cs) => Dk)) (B := (fun (x : (Deck) × (Int) × (Int) × (Int) × (List (List Int))) => match x with | (Dk, b, r, n, cs) => D K (.list ((planS b r n cs Dk cs.length).1.map deedD)))) (D1 := (fun (x : (Deck) × (Int) × (Int) × (Int) × (List (List Int))) => match x with | (Dk, b, r, n, cs) => (planS b r n cs Dk cs.length).2.2)) (Dk, b, r, n, cs) h hp
local macro_rules | `(tactic| walk_at "call") => `(tactic| ((with_reducible apply e__law_plan); (· walk_at "ea"); (· walk_at "sd")))
theorem ok_Written___eq__ (T : Txt K mg) : FnOk P w K mg base CX0 1 T.a_Written___eq__ T.fd_Written___eq__ ["self", "other"] (spec (weqPre K T.c_Written) weqPost) := by
  refine fn_sv T.F_Written___eq__ sc_Written___eq__ (fun x G M vs h => by obtain ⟨rfl, _⟩ := h; rfl) fun cdv A outer s H E hr => ⟨_, (pss_cons (ps_if (pt_not (pt_val (pe_callB (k_isi (K := K) rfl) (by rfl) T.n_isinstance (by decide +kernel) (pa_cons (pv 1) (pa_cons (pe_glob (v := .ref T.c_Written) (by rfl) T.m_Written rfl) pa_nil))))) (pss_one (ps_ret (pe_bl))) (pss_nil)) (pss_one (ps_ret (pe_and (pe_cmpR op_eq (k_fld (K := K) rfl (pv 0) rfl) (k_fld (K := K) rfl (pv 1) rfl) (nomark _)) (pe_and (pe_cmpR (k_eqD (K := K) rfl hr.units) (k_fld (K := K) rfl (pv 0) rfl) (k_fld (K := K) rfl (pv 1) rfl) (nomark _)) (pe_one (pe_cmpR op_eq (k_fld (K := K) rfl (pv 0) rfl) (k_fld (K := K) rfl (pv 1) rfl) (nomark _)))))))), ?_⟩
  rintro ⟨⟨p, b, figs, last⟩, q, b', figs', last'⟩ G M vs ⟨rfl, (hW : WrG K T.c_Written p b figs last G), (hV : WrG K T.c_Written q b' figs' last' G)⟩
  obtain ⟨dx, l, xs, h1, h2, h3⟩ := hW
  obtain ⟨dy, l', ys, k1, k2, k3⟩ := hV
  refine sv_ifs (a := false) (et_not (a := true) (et_B (ev_isiO T.ic_Written T.cl_Written T.io_Written (ev_var rfl) (.G k1)))) (fun G1 e1 hb => by cases hb) fun G1 e1 _ => sv_next fun G2 e2 => ?_
  have e12 := e1.trans e2
  refine sv_ret (ev_andV (ev_eqI (ev_fld (ev_var rfl) (.G (e12 _ _ h1)) T.cl_Written T.na_Written__base wrF_b) (ev_fld (ev_var rfl) (.G (e12 _ _ k1)) T.cl_Written T.na_Written__base wrF_b)) fun _ => ev_andV (ev_eqD (K := K) (ev_fldD (ev_var rfl) (.G (e12 _ _ h1)) T.cl_Written T.na_Written__figures wrF_f (.lst (ex_l e12 h2) (dma h3 e12))) (ev_fldD (ev_var rfl) (.G (e12 _ _ k1)) T.cl_Written T.na_Written__figures wrF_f (.lst (ex_l e12 k2) (dma k3 e12))) (sh_ints (n := 0) figs).ok (sh_ints (n := 0) figs').ok) fun _ => ev_eqI (ev_fld (ev_var rfl) (.G (e12 _ _ h1)) T.cl_Written T.na_Written__last wrF_l) (ev_fld (ev_var rfl) (.G (e12 _ _ k1)) T.cl_Written T.na_Written__last wrF_l)) fun v' G' M' e r => ?_
  obtain ⟨rfl, rfl⟩ := r
  refine ⟨?_, rfl⟩
  show V.bl _ = V.bl (decide ((b, figs, last) = (b', figs', last')))
  rw [eqv_lst]
  congr 1
  simp only [Prod.mk.injEq, Bool.decide_and]
theorem opO_Written___eq__ (T : Txt K mg) {X : Cx} (hP : X.prog = P := by rfl) (hw : X.w = w := by rfl) (hK : X.K = K := by rfl) (hm : X.mg = mg := by rfl) (hr : Room 1 X.A) : OpR X (compareOp .Eq) (rCmpO T.c_Written (spec (weqPre K T.c_Written) weqPost) E0) := by
  subst hP hw hK hm
  exact op_cmpO rfl T.me_Written___eq__.at_ T.me_Written___eq__.fn (ok_Written___eq__ T) hr T.b_Written___eq__ pass0
def sp__law_deed_in (K : PySem.W.Frag)  : Sp := spD (α := (Int) × (Int) × (List Int) × (Deed)) (fun (x : (Int) × (Int) × (List Int) × (Deed)) => match x with | (b, r, ord, x) => [D K (.list (ord.map .int)), D K (deedD x)]) (fun (x : (Int) × (Int) × (List Int) × (Deed)) => match x with | (b, r, ord, x) => RowOrd r ord ∧ x ∈ allDeeds b r) (fun (x : (Int) × (Int) × (List Int) × (Deed)) => match x with | (b, r, ord, x) => D K (deedD (deedIn ord x)))
theorem ok__law_deed_in (T : Txt K mg) : FnOk P w K mg base CX0 1 T.a__law_deed_in T.fd__law_deed_in ["order", "deed"] (sp__law_deed_in K ) := by
  refine fn_Y T.F__law_deed_in sc__law_deed_in (fun _ => rfl) fun cdv A outer s H E hr => ⟨_, (pss_cons (ps_if (pt_cmpR op_eq (pe_ix (k_ixT (K := K) rfl) (pv 1) (pe_int) (fun _ _ => rfl)) (pe_str) (nomark _)) (pss_one (ps_ret (pe_tup (pa_cons (pe_str) (pa_cons (pe_bm PySem.F.plainAttrs_list PySem.F.slot_list_index PySem.F.type_list_index mt_index (pv 0) (pa_cons (pe_ix (k_ixT (K := K) rfl) (pv 1) (pe_int) (fun _ _ => rfl)) pa_nil)) (pa_cons (pe_ix (k_ixT (K := K) rfl) (pv 1) (pe_int) (fun _ _ => rfl)) pa_nil)))))) (pss_nil)) (pss_cons (ps_if (pt_cmpR op_eq (pe_ix (k_ixT (K := K) rfl) (pv 1) (pe_int) (fun _ _ => rfl)) (pe_str) (nomark _)) (pss_one (ps_ret (pe_tup (pa_cons (pe_str) (pa_cons (pe_bm PySem.F.plainAttrs_list PySem.F.slot_list_index PySem.F.type_list_index mt_index (pv 0) (pa_cons (pe_ix (k_ixT (K := K) rfl) (pv 1) (pe_int) (fun _ _ => rfl)) pa_nil)) pa_nil))))) (pss_nil)) (pss_one (ps_ret (pv 1))))), ?_⟩
  rintro ⟨b, r, ord, x⟩ hp
  replace hp : RowOrd r ord ∧ x ∈ allDeeds b r := hp
  show S1 E _ [some (D K (.list (ord.map .int))), some (D K (deedD x))] [] { nx := fun _ μ => BackY (fun x Q μ => Q = (fun (x : (Int) × (Int) × (List Int) × (Deed)) => match x with | (b, r, ord, x) => D K (deedD (deedIn ord x))) x ∧ μ = []) (b, r, ord, x) (D K .none) μ, rt := BackY (fun x Q μ => Q = (fun (x : (Int) × (Int) × (List Int) × (Deed)) => match x with | (b, r, ord, x) => D K (deedD (deedIn ord x))) x ∧ μ = []) (b, r, ord, x) }
  try simp only [cx_K, cx_KX]
  obtain ⟨ho, hx⟩ := hp
  have hr := rowOk_all (n := r.toNat) hx (by omega)
  cases x with
  | read j d =>
    have hr : 0 ≤ j ∧ j < (r.toNat : Int) := hr
    have hm : j ∈ ord := ho.mem hr.1 (by omega)
    walk_at "Ifr"
    · intro _
      refine s_ret (Q := D K (deedD (deedIn ord (.read j d)))) (μ1 := []) (e_tup (K := K) (ds := [.str "read", .int (ord.idxOf j : Nat), .int d]) (d_cons e_cS (d_cons (e_index (e_var rfl) (e_ixT (i := 1) (ds := [.str "read", .int j, .int d]) (e_var rfl) e_cI rfl) hm) (d_cons (e_ixT (i := 2) (ds := [.str "read", .int j, .int d]) (e_var rfl) e_cI rfl) d_nil))) (by walk_at "ln")) ?_
      exact back_D (imp_D rfl)
    · intro h
      cases h
  | copy j =>
    have hr : 0 ≤ j ∧ j < (r.toNat : Int) := hr
    have hm : j ∈ ord := ho.mem hr.1 (by omega)
    walk_at "Ifr"
    · intro h
      cases h
    intro _
    walk_at "Ifr"
    · intro _
      refine s_ret (Q := D K (deedD (deedIn ord (.copy j)))) (μ1 := []) (e_tup (K := K) (ds := [.str "copy", .int (ord.idxOf j : Nat)]) (d_cons e_cS (d_cons (e_index (e_var rfl) (e_ixT (i := 1) (ds := [.str "copy", .int j]) (e_var rfl) e_cI rfl) hm) d_nil)) (by walk_at "ln")) ?_
      exact back_D (imp_D rfl)
    · intro h
      cases h
  | _ =>
    walk_at "Ifr"
    · intro h
      cases h
    intro _
    walk_at "Ifr"
    · intro h
      cases h
    intro _
    refine s_ret (e_var rfl) ?_
    exact back_D (imp_D rfl)
theorem e__law_deed_in  {δ : En} {μ μ' : Mp} {E : XK} {b : Int} {r : Int} {ord : List Int} {x : Deed} {tA : TA} (h : EA tA δ μ [D K (.list (ord.map .int)), D K (deedD x)] μ') (hp : RowOrd r ord ∧ x ∈ allDeeds b r) : E1 (tCall (sp__law_deed_in K ) [] E tA) δ μ (D K (deedD (deedIn ord x))) μ' := e_callD (b, r, ord, x) h hp
local macro_rules | `(tactic| walk_at "call") => `(tactic| ((with_reducible apply e__law_deed_in); (· walk_at "ea"); (· walk_at "sd")))
abbrev roA (K : PySem.W.Frag) (x : Addr × Deck × Int) : List Pr := match x with | (dk, D0, r) => [Av dk, D K (.int r)]
abbrev roM (x : Addr × Deck × Int) : Mp := match x with | (dk, D0, r) => [(dk, DKo D0)]
abbrev roPre (x : Addr × Deck × Int) : Prop := match x with | (dk, D0, r) => 1 ≤ r ∧ r ≤ 4
abbrev roR (K : PySem.W.Frag) (x : Addr × Deck × Int) (Q : Pr) (μ : Mp) : Prop := match x with | (dk, D0, r) => ∃ ord D1, Q = D K (.list (ord.map .int)) ∧ RowOrd r ord ∧ μ = [(dk, DKo D1)]
def sp__law_rows_order (K : PySem.W.Frag) : Sp := sp (roA K) roM roPre (roR K)
theorem ok__law_rows_order (T : Txt K mg) : FnOk P w K mg base CX0 2 T.a__law_rows_order T.fd__law_rows_order ["deck", "rows"] (sp__law_rows_order K) := by
  refine fn_Y T.F__law_rows_order sc__law_rows_order (fun _ => rfl) fun cdv A outer s H E hr => ⟨_, (pss_cons (ps_set (i := 2) sc__law_rows_order.nd rfl (Or.inl rfl) (pe_listRg (by rfl) (by rfl) T.n_list (prg_1 (by rfl) T.n_range (pv 1)))) (pss_cons (ps_set (i := 3) sc__law_rows_order.nd rfl (Or.inl rfl) (pe_lst pa_nil)) (pss_cons (ps_for PassesOwn.never rfl (pi_range1 (by rfl) T.n_range (pa_cons (pv 1) pa_nil)) (pg_name (i := 4) sc__law_rows_order.nd rfl (Or.inl rfl)) (pss_one (ps_expr (pe_bm PySem.F.plainAttrs_list PySem.F.slot_list_append PySem.F.type_list_append mt_append (pv 3) (pa_cons (pe_bm PySem.F.plainAttrs_list PySem.F.slot_list_pop PySem.F.type_list_pop mt_popAt (pv 2) (pa_cons (pe_call (ok__law_draw T) (hr.mono (by decide)) (by rfl) T.m__law_draw T.F__law_draw.kp T.b__law_draw .nil pass0 (pa_cons (pv 0) (pa_cons (pe_callB (k_len (K := K) rfl) (by rfl) T.n_len (by decide +kernel) (pa_cons (pv 2) pa_nil)) pa_nil))) pa_nil)) pa_nil))))) (pss_one (ps_ret (pv 3)))))), ?_⟩
  rintro ⟨dk, D0, r⟩ hp
  replace hp : 1 ≤ r ∧ r ≤ 4 := hp
  show S1 E _ [some (Av dk), some (D K (.int r)), none, none, none] [(dk, DKo D0)] { nx := fun _ μ => BackY (roR K) (dk, D0, r) (D K .none) μ, rt := BackY (roR K) (dk, D0, r) }
  try simp only [cx_K, cx_KX]
  refine s_own (o_listRg (e_var rfl) (by omega)) fun la => ?_
  refine s_own (o_lst (K := K) (ds := []) d_nil (by decide)) fun sa => ?_
  simp only [List.set_cons_succ, List.set_cons_zero, List.cons_append, List.nil_append]
  refine s_seq (N := fun δ μ => ∃ (o l : List Int) (D1 : Deck), (o ++ l).Perm (rngI r) ∧ o.length = r.toNat ∧ Le δ [some (Av dk), some (D K (.int r)), some (Av la), some (Av sa), none] ∧ μ = [(dk, DKo D1), (la, OL K (l.map .int)), (sa, OL K (o.map .int))]) ?_ ?_
  · refine s_for (fun i δ μ => ∃ (o l : List Int) (D1 : Deck), (o ++ l).Perm (rngI r) ∧ o.length = i ∧ Le δ [some (Av dk), some (D K (.int r)), some (Av la), some (Av sa), none] ∧ μ = [(dk, DKo D1), (la, OL K (l.map .int)), (sa, OL K (o.map .int))]) (i_rng1 (K := K) (i := r) (e_var rfl) (by omega)) ⟨[], rngI r, D0, List.Perm.refl _, rfl, by walk_at "le", rfl⟩ ?_ ?_
    · rintro i δ' _ hi ⟨o, l, D1, hp, ho, hle, rfl⟩
      refine ⟨_, [4], G1.le g_name hle, ?_⟩
      simp only [List.set_cons_succ, List.set_cons_zero]
      have hlen := hp.length_eq
      rw [List.length_append, rngI, List.length_map, List.length_range] at hlen
      have hll : 0 < (l.length : Int) ∧ (l.length : Int) < 2 ^ 200 := by omega
      have k0 : 0 ≤ dv D1 l.length := dv_lo (by omega)
      have k1 : dv D1 l.length < l.length := dv_hi (by omega)
      have hml : ((l.map PyData.int).length : Int) = l.length := by rw [List.length_map]
      have hd : E1 (tCall (spec drawPre drawPost) [] E0 (tCons (tVar 0) (tCons (tCB (rLenS K) (tCons (tVar 2) tNil)) tNil))) [some (Av dk), some (D K (.int r)), some (Av la), some (Av sa), some (D K (.int (i : Int)))] [(dk, DKo D1), (la, OL K (l.map .int)), (sa, OL K (o.map .int))] (D K (.int (dv D1 l.length))) [(dk, DKo (dn D1 l.length)), (la, OL K (l.map .int)), (sa, OL K (o.map .int))] := by
        refine e_draw (n := l.length) (a_cons (e_var rfl) (a_cons ?_ a_nil)) hll
        rw [← hml]
        exact e_len (K := K) (e_var rfl) (lr_O 1 rfl)
      generalize dv D1 l.length = kk at hd k0 k1
      generalize dn D1 l.length = D2 at hd
      have hk : kk.toNat < l.length := by omega
      have hv : (l.map PyData.int).getD kk.toNat .none = .int l[kk.toNat] := by
        rw [List.getD_eq_getElem?_getD, List.getElem?_map, List.getElem?_eq_getElem hk]
        rfl
      have hpop := e_popAt (K := K) 1 (te := tVar 2) (e_var rfl) hd ⟨1, _, rfl⟩ rfl (by rw [hml]; exact ⟨k0, k1⟩) (by rw [List.length_map]; omega)
      rw [hv] at hpop
      have happ := e_append (K := K) 2 (te := tVar 3) (e_var rfl) hpop ⟨2, _, rfl⟩ rfl (by rw [List.length_map]; omega)
      refine s_drop happ ⟨o ++ [l[kk.toNat]], l.eraseIdx kk.toNat, D2, ?_, by rw [List.length_append, ho]; rfl, by walk_at "le", ?_⟩
      · refine List.Perm.trans ?_ hp
        rw [List.append_assoc]
        exact List.Perm.append_left o (SY.erase_perm hk)
      · rw [List.map_append, ← map_erase]
        rfl
    · rintro δ' _ ⟨o, l, D1, hp, ho, hle, rfl⟩
      exact ⟨o, l, D1, hp, ho, hle, rfl⟩
  rintro δ' _ ⟨o, l, D1, hp, ho, hle, rfl⟩
  refine S1.le ?_ hle
  have hl0 : l = [] := by
    have hlen := hp.length_eq
    rw [List.length_append, rngI, List.length_map, List.length_range] at hlen
    exact List.length_eq_zero_iff.mp (by omega)
  rw [hl0, List.append_nil] at hp
  refine s_frz (μa := [_, _]) (μb := []) 3 rfl ?_
  refine s_ret (e_var rfl) ?_
  exact backY_mk (R := roR K) ⟨o, D1, rfl, hp, rfl⟩ (Imp.refl _) (List.Sublist.cons₂ _ (List.nil_sublist _))
theorem y__law_rows_order {δ : En} {μ : Mp} {E : XK} {dk : Addr} {r : Int} {D0 : Deck} {rest : Mp} {tA : TA} (h : EA tA δ μ [Av dk, D K (.int r)] ((dk, DKo D0) :: rest)) (hp : 1 ≤ r ∧ r ≤ 4) : EY (tCall (sp__law_rows_order K) [] E tA) δ μ (fun Q μ' => ∃ ord D1, Q = D K (.list (ord.map .int)) ∧ RowOrd r ord ∧ μ' = (dk, DKo D1) :: rest) :=
  (y_call (A := roA K) (m := roM) (pre := roPre) (R := roR K) (rest := rest) (dk, D0, r) h hp).permR fun Q μ' z => by
    obtain ⟨_, ⟨ord, D1, h1, h2, rfl⟩, rfl⟩ := z
    exact ⟨_, ⟨ord, D1, h1, h2, rfl⟩, List.Perm.refl _⟩
def sp__law_rows_right (K : PySem.W.Frag) (C : Addr) : Sp := sp (rrA K C) (rrM K) rrPre (rrR K)
theorem ok__law_rows_right (T : Txt K mg) : FnOk P w K mg base CX0 7 T.a__law_rows_right T.fd__law_rows_right ["deck", "sheet", "columns", "slips"] (sp__law_rows_right K T.c_Sheet) := by
  refine fn_Y T.F__law_rows_right sc__law_rows_right (fun _ => rfl) fun cdv A outer s H E hr => ⟨_, (pss_cons (ps_set (i := 4) sc__law_rows_right.nd rfl (Or.inr rfl) (pe_call (ok__law_rows_order T) (hr.mono (by decide)) (by rfl) T.m__law_rows_order T.F__law_rows_order.kp T.b__law_rows_order .nil pass0 (pa_cons (pv 0) (pa_cons (pe_prop (pv 1) T.cl_Sheet T.p_Sheet_rows (ok_Sheet_rows T) (hr.mono (by decide)) T.b_Sheet_rows .nil pass0 rfl) pa_nil)))) (pss_cons (ps_setLc (i := 5) (own := [("column", 7)]) (g := gName 7) (tt := tYes) rfl sc__law_rows_right.nd rfl rfl (sw_true rfl rfl rfl (by decide +kernel)) (pi_list (pv 2)) (blkOk_by (N := ["deck", "sheet", "columns", "slips", "order", "turned", "others", "column", "i", "deed", "j"]) (sc := defScope s__law_rows_right) (by decide +kernel)) (fun _ _ _ _ _ => pg_name (i := 7) sc__law_rows_right.nd rfl (Or.inr rfl)) (fun _ _ _ _ _ => pts_nil) (fun _ _ _ _ _ => pe_callTy (k_tup (K := K) rfl) (by rfl) T.n_tuple (by decide +kernel) (pa_cons (pe_lc (own := [("j", 10)]) (g := gName 10) (tt := tYes) rfl sc__law_rows_right.nd (k_pil (K := K) rfl (pv 4)) (by refine blkOk_by (N := ["deck", "sheet", "columns", "slips", "order", "turned", "others", "column", "i", "deed", "j"]) ?_; rfl) (fun _ _ _ _ _ => pg_name (i := 10) sc__law_rows_right.nd rfl (Or.inl rfl)) (fun _ _ _ _ _ => pts_nil) (fun _ _ _ _ _ => pe_ix (k_ixT (K := K) rfl) (pv 7) (pv 10) (fun _ _ => rfl))) pa_nil))) (pss_cons (ps_setLc (i := 6) (own := [("i", 8), ("deed", 9)]) (g := gTup K 2 (gCons (gName 8) (gCons (gName 9) (gNil)))) (tt := tYes) rfl sc__law_rows_right.nd rfl rfl (sw_true rfl rfl rfl (by decide +kernel)) (pi_list (pv 3)) (blkOk_by (N := ["deck", "sheet", "columns", "slips", "order", "turned", "others", "column", "i", "deed", "j"]) (sc := defScope s__law_rows_right) (by decide +kernel)) (fun _ _ _ _ _ => k_gtup (K := K) rfl rfl (pgs_cons (pg_name (i := 8) sc__law_rows_right.nd rfl (Or.inl rfl)) (pgs_cons (pg_name (i := 9) sc__law_rows_right.nd rfl (Or.inl rfl)) pgs_nil))) (fun _ _ _ _ _ => pts_nil) (fun _ _ _ _ _ => pe_tup (pa_cons (pv 8) (pa_cons (pe_call (ok__law_deed_in T) (hr.mono (by decide)) (by rfl) T.m__law_deed_in T.F__law_deed_in.kp T.b__law_deed_in .nil pass0 (pa_cons (pv 4) (pa_cons (pv 9) pa_nil))) pa_nil)))) (pss_one (ps_ret (pe_cmpR (opO_Written___eq__ T (hr := hr.mono (by decide))) (pe_call (ok_add_with T) (hr.mono (by decide)) (by rfl) T.m_add_with T.F_add_with.kp T.b_add_with .nil pass0 (pa_cons (pe_make T.k_Sheet (okG_Sheet___init__ T) (hr.mono (by decide)) (by rfl) T.m_Sheet T.b_Sheet___init__ .nil passL (pa_cons (pe_prop (pv 1) T.cl_Sheet T.p_Sheet_base (ok_Sheet_base T) (hr.mono (by decide)) T.b_Sheet_base .nil pass0 rfl) (pa_cons (pe_prop (pv 1) T.cl_Sheet T.p_Sheet_rows (ok_Sheet_rows T) (hr.mono (by decide)) T.b_Sheet_rows .nil pass0 rfl) (pa_cons (pv 5) pa_nil)))) (pa_cons (pv 6) pa_nil))) (pe_call (ok_add_with T) (hr.mono (by decide)) (by rfl) T.m_add_with T.F_add_with.kp T.b_add_with .nil pass0 (pa_cons (pv 1) (pa_cons (pe_callTy (k_list (K := K) rfl) (by rfl) T.n_list (by decide +kernel) (pa_cons (pv 3) pa_nil)) pa_nil))) (nomark _))))))), ?_⟩
  rintro ⟨dk, D0, l, b, r, cs, sl, ww⟩ hp
  replace hp : GoodSh b r cs ∧ cs.length ≤ 60 ∧ sl.length ≤ 10000 ∧ addV b r cs sl 0 0 = some ww ∧ (∀ s ∈ sl, s.2 ∈ allDeeds b r) := hp
  obtain ⟨g, hl, hsl, hA, hds⟩ := hp
  show S1 E _ [some (Av dk), some (ShI T.c_Sheet b r l), some (D K (.list (cs.map colD))), some (D K (.list (sl.map slipD))), none, none, none, none, none, none, none] [(dk, DKo D0), (l, OL K (cs.map colD))] { nx := fun _ μ => BackY (rrR K) (dk, D0, l, b, r, cs, sl, ww) (D K .none) μ, rt := BackY (rrR K) (dk, D0, l, b, r, cs, sl, ww) }
  try simp only [cx_K, cx_KX]
  have hr4 : 1 ≤ r ∧ r ≤ 4 := ⟨g.r1, g.r4⟩
  have hb0 : 0 < b := by have := g.b2; omega
  refine s_letY (y__law_rows_order (dk := dk) (D0 := D0) (r := r) (rest := [(l, OL K (cs.map colD))]) (by walk_at "ea") hr4) ?_
  rintro _ _ ⟨ord, D1, rfl, hord, rfl⟩
  simp only [List.set_cons_succ, List.set_cons_zero]
  have hol := hord.len
  have hmem : ∀ j ∈ ord, 0 ≤ j ∧ j < r := fun j hj => by
    have := hord.mem_iff.mp hj
    simp only [List.mem_map, List.mem_range] at this
    obtain ⟨n, hn, rfl⟩ := this
    constructor
    · exact Int.natCast_nonneg n
    · show (n : Int) < r
      omega
  refine s_let (Q := D K (.list ((cs.map (turnC ord)).map colD))) (μ1 := [(dk, DKo D1), (l, OL K (cs.map colD))]) ?_ ?_
  · rw [List.map_map]
    refine EO.frz (o_mapL (K := K) (enc := colD) (out := colD ∘ turnC ord) (xs := cs) (e_var rfl) (by omega) fun c hc => ?_)
    have gc := g.col c hc
    have e : (colD ∘ turnC ord) c = .tuple (ord.map fun j => .int (c.getD j.toNat 0)) := by
      show PyData.tuple ((turnC ord c).map .int) = _
      unfold turnC
      rw [List.map_map]
      rfl
    rw [e]
    refine e_tupL (EO.frz (o_mapL (K := K) (enc := .int) (out := fun j => .int (c.getD j.toNat 0)) (xs := ord) (e_var rfl) (by omega) fun j hj => ?_)) lr_D
    have hj2 := hmem j hj
    have hj3 : 0 ≤ j ∧ j < (c.length : Int) := by have := gc.1; omega
    exact e_ixCI (K := K) (e_var rfl) (e_var rfl) hj3
  have gt : GoodSh b r (cs.map (turnC ord)) := ⟨g.b2, g.b12, g.r1, g.r4, by rw [List.length_map]; exact g.len, fun c hc => by
    obtain ⟨c0, h0, rfl⟩ := List.mem_map.mp hc
    exact turn_good hord (g.col c0 h0) hb0⟩
  simp only [List.set_cons_succ, List.set_cons_zero]
  have e2 : ((sl.map fun s => (s.1, deedIn ord s.2)).map slipD) = sl.map fun s => slipD (s.1, deedIn ord s.2) := by rw [List.map_map]; rfl
  refine s_let (Q := D K (.list ((sl.map fun s => (s.1, deedIn ord s.2)).map slipD))) (μ1 := [(dk, DKo D1), (l, OL K (cs.map colD))]) ?_ ?_
  · rw [e2]
    refine EO.frz (o_mapW (K := K) (xs := sl) (X := fun i => D K (((sl.map slipD)[i]?).getD .none)) (en := fun s => D K (slipD s)) (by have := i_list (K := K) (δ := [some (Av dk), some (ShI T.c_Sheet b r l), some (D K (.list (cs.map colD))), some (D K (.list (sl.map slipD))), some (D K (.list (ord.map .int))), some (D K (.list ((cs.map (turnC ord)).map colD))), none, none, none, none, none]) (μ := [(dk, DKo D1), (l, OL K (cs.map colD))]) (te := tVar 3) (ds := sl.map slipD) (e_var rfl); rw [List.length_map] at this; exact this) (fun i x h => by rw [getD_map h]) (by omega) fun s hs => ⟨_, g_two (i := 8) (j := 9) rfl, ?_⟩)
    have hx := hds s hs
    exact e_tup (ds := [.int s.1, deedD (deedIn ord s.2)]) (d_cons (e_var rfl) (d_cons (by exact e__law_deed_in (b := b) (r := r) (by walk_at "ea") ⟨hord, hx⟩) d_nil)) (by show 2 ≤ 1000; decide)
  have hA2 := addV_turn hord g.col hA
  refine s_ret (Q := D K (.bool true)) (μ1 := [(dk, DKo D1), (l, OL K (cs.map colD))]) ((e_wrEq (C := T.c_Written) (b := b) (b' := b) (figs := ww.1) (figs' := ww.1) (last := ww.2) (last' := ww.2) (by exact e_add_with (P1 := ShF K T.c_Sheet b r (cs.map (turnC ord))) (P2 := D K (.list ((sl.map fun s => (s.1, deedIn ord s.2)).map slipD))) (ww := ww) (a_cons (EY.frzNew (y_mkSh (by walk_at "ev") (by walk_at "ev") (by walk_at "ev") lr_D gt)) (a_cons (e_var rfl) a_nil)) sr_F lr_D ⟨gt, by rw [List.length_map]; exact hsl, hA2⟩) (by exact e_add_with (P1 := ShI T.c_Sheet b r l) (P2 := D K (.list (sl.map slipD))) (ww := ww) (a_cons (e_var rfl) (a_cons (EO.frz (K := K) (o_list (e_var rfl) lr_D)) a_nil)) (sr_O 1 rfl) lr_D ⟨g, hsl, hA⟩)).cast (by rw [decide_eq_true rfl])) ?_
  exact backY_mk ⟨D1, rfl, rfl⟩ (Imp.refl _) (List.Sublist.refl _)
theorem y__law_rows_right {δ : En} {μ : Mp} {E : XK} {C : Addr} {dk l : Addr} {D0 : Deck} {b r : Int} {cs : List (List Int)} {sl : List (Int × Deed)} {ww : List Int × Int} {rest : Mp} {tA : TA} (h : EA tA δ μ [Av dk, ShI C b r l, D K (.list (cs.map colD)), D K (.list (sl.map slipD))] ((dk, DKo D0) :: (l, OL K (cs.map colD)) :: rest)) (hp : GoodSh b r cs ∧ cs.length ≤ 60 ∧ sl.length ≤ 10000 ∧ addV b r cs sl 0 0 = some ww ∧ (∀ s ∈ sl, s.2 ∈ allDeeds b r)) :
    EY (tCall (sp__law_rows_right K C) [] E tA) δ μ (fun Q μ' => ∃ D1, Q = D K (.bool true) ∧ μ' = (dk, DKo D1) :: (l, OL K (cs.map colD)) :: rest) :=
  (y_call (A := rrA K C) (m := rrM K) (pre := rrPre) (R := rrR K) (rest := rest) (dk, D0, l, b, r, cs, sl, ww) h hp).imp fun Q μ' z => by
    obtain ⟨_, ⟨D1, h1, rfl⟩, rfl⟩ := z
    exact ⟨D1, h1, rfl⟩
def sp__law_slips (K : PySem.W.Frag)  : Sp := spD (α := (List Deed)) (fun (ds : (List Deed)) => [D K (.list (ds.map deedD))]) (fun (ds : (List Deed)) => ds.length ≤ 10000) (fun (ds : (List Deed)) => D K (.list ((slipsOf ds).map slipD)))
theorem ok__law_slips (T : Txt K mg) : FnOk P w K mg base CX0 1 T.a__law_slips T.fd__law_slips ["deeds"] (sp__law_slips K ) := by
  refine fn_Y T.F__law_slips sc__law_slips (fun _ => rfl) fun cdv A outer s H E hr => ⟨_, (pss_one (ps_ret (pe_lc (own := [("i", 1)]) (g := gName 1) rfl sc__law_slips.nd (pi_range1 (by rfl) T.n_range (pa_cons (pe_callB (k_len (K := K) rfl) (by rfl) T.n_len (by decide +kernel) (pa_cons (pv 0) pa_nil)) pa_nil)) (blkOk_by (N := ["deeds", "i"]) (sc := defScope s__law_slips) (by decide +kernel)) (fun _ _ _ _ _ => pg_name (i := 1) sc__law_slips.nd rfl (Or.inl rfl)) (fun _ _ _ _ _ => pts_one (pt_cmpR (k_neD (K := K) rfl hr.units) (pe_ix (k_ixL (K := K) rfl) (pv 0) (pv 1) (fun _ _ => rfl)) (pe_tup (pa_cons (pe_str) pa_nil)) (nomark _))) (fun _ _ _ _ _ => pe_tup (pa_cons (pv 1) (pa_cons (pe_ix (k_ixL (K := K) rfl) (pv 0) (pv 1) (fun _ _ => rfl)) pa_nil)))))), ?_⟩
  rintro ds hp
  replace hp : ds.length ≤ 10000 := hp
  show S1 E _ [some (D K (.list (ds.map deedD))), none] [] { nx := fun _ μ => BackY (fun x Q μ => Q = (fun (ds : (List Deed)) => D K (.list ((slipsOf ds).map slipD))) x ∧ μ = []) ds (D K .none) μ, rt := BackY (fun x Q μ => Q = (fun (ds : (List Deed)) => D K (.list ((slipsOf ds).map slipD))) x ∧ μ = []) ds }
  try simp only [cx_K, cx_KX]
  refine s_ret (Q := D K (.list ((slipsOf ds).map slipD))) (μ1 := []) ?_ (back_D (imp_D rfl))
  unfold slipsOf
  rw [List.map_map]
  refine EO.frz ?_
  have h2 : ((ds.map deedD).length : Int).toNat = ds.length := by simp
  rw [← h2]
  refine o_filtR (K := K) (out := slipD ∘ fun (i : Nat) => ((i : Int), dAt ds i)) (p := fun i => !decide (dAt ds i = .right)) (i := ((ds.map deedD).length : Int)) (by walk_at "ev") (by rw [List.length_map]; omega) (fun x hx => ?_) (fun x hx _ => ?_)
  · have hx2 : 0 ≤ (x : Int) ∧ (x : Int) < ds.length := by omega
    refine t_test (K := K) (e_neD (K := K) (d := deedD (dAt ds x)) (e := deedD .right) (by exact e_ixLD (by walk_at "ev") (by walk_at "ev") lr_D hx2) (e_tup (d_cons e_cS d_nil) (by decide)) dr_D dr_D (sh_deed (n := 0) _).ok (sh_deed (n := 0) _).ok (eqv_deed _ _))
  · have hx2 : 0 ≤ (x : Int) ∧ (x : Int) < ds.length := by omega
    exact e_tup (d_cons (by walk_at "ev") (d_cons (by exact e_ixLD (by walk_at "ev") (by walk_at "ev") lr_D hx2) d_nil)) (by show 2 ≤ 1000; decide)
theorem e__law_slips  {δ : En} {μ μ' : Mp} {E : XK} {ds : List Deed} {tA : TA} (h : EA tA δ μ [D K (.list (ds.map deedD))] μ') (hp : ds.length ≤ 10000) : E1 (tCall (sp__law_slips K ) [] E tA) δ μ (D K (.list ((slipsOf ds).map slipD))) μ' := e_callD ds h hp
local macro_rules | `(tactic| walk_at "call") => `(tactic| ((with_reducible apply e__law_slips); (· walk_at "ea"); (· walk_at "sd")))
abbrev mvA (K : PySem.W.Frag) (x : Addr × Deck × Int × Int × List Int) : List Pr := match x with | (dk, D0, b, r, c) => [Av dk, D K (colD c), D K (.int b)]
abbrev mvM (x : Addr × Deck × Int × Int × List Int) : Mp := match x with | (dk, D0, b, r, c) => [(dk, DKo D0)]
abbrev mvPre (x : Addr × Deck × Int × Int × List Int) : Prop := match x with | (dk, D0, b, r, c) => (2 ≤ b ∧ b ≤ 12) ∧ (1 ≤ r ∧ r ≤ 4) ∧ GoodCol b r c
abbrev mvR (K : PySem.W.Frag) (x : Addr × Deck × Int × Int × List Int) (Q : Pr) (μ : Mp) : Prop := match x with | (dk, D0, b, r, c) => ∃ c1 D1, Q = D K (colD c1) ∧ GoodCol b r c1 ∧ c1.sum = c.sum ∧ μ = [(dk, DKo D1)]
def sp__law_moved (K : PySem.W.Frag) : Sp := sp (mvA K) mvM mvPre (mvR K)
theorem ok__law_moved (T : Txt K mg) : FnOk P w K mg base CX0 2 T.a__law_moved T.fd__law_moved ["deck", "column", "base"] (sp__law_moved K) := by
  refine fn_Y T.F__law_moved sc__law_moved (fun _ => rfl) fun cdv A outer s H E hr => ⟨_, (pss_cons (ps_set (i := 3) sc__law_moved.nd rfl (Or.inl rfl) (pe_callTy (k_list (K := K) rfl) (by rfl) T.n_list (by decide +kernel) (pa_cons (pv 1) pa_nil))) (pss_cons (ps_set (i := 4) sc__law_moved.nd rfl (Or.inl rfl) (pe_call (ok__law_draw T) (hr.mono (by decide)) (by rfl) T.m__law_draw T.F__law_draw.kp T.b__law_draw .nil pass0 (pa_cons (pv 0) (pa_cons (pe_callB (k_len (K := K) rfl) (by rfl) T.n_len (by decide +kernel) (pa_cons (pv 1) pa_nil)) pa_nil)))) (pss_cons (ps_set (i := 5) sc__law_moved.nd rfl (Or.inl rfl) (pe_call (ok__law_draw T) (hr.mono (by decide)) (by rfl) T.m__law_draw T.F__law_draw.kp T.b__law_draw .nil pass0 (pa_cons (pv 0) (pa_cons (pe_callB (k_len (K := K) rfl) (by rfl) T.n_len (by decide +kernel) (pa_cons (pv 1) pa_nil)) pa_nil)))) (pss_cons (ps_set (i := 6) sc__law_moved.nd rfl (Or.inl rfl) (pe_call (ok__law_draw T) (hr.mono (by decide)) (by rfl) T.m__law_draw T.F__law_draw.kp T.b__law_draw .nil pass0 (pa_cons (pv 0) (pa_cons (pe_op op_add (pe_int) (pe_callB (k_min2 rfl) (by rfl) T.n_min (by decide +kernel) (pa_cons (pe_callTy c_int (by rfl) T.n_int (by decide +kernel) (pa_cons (pe_ix (k_ixL (K := K) rfl) (pv 3) (pv 4) (fun _ _ => rfl)) pa_nil)) (pa_cons (pe_op op_sub (pe_op op_sub (pv 2) (pe_int)) (pe_callTy c_int (by rfl) T.n_int (by decide +kernel) (pa_cons (pe_ix (k_ixL (K := K) rfl) (pv 3) (pv 5) (fun _ _ => rfl)) pa_nil))) pa_nil)))) pa_nil)))) (pss_cons (ps_asg (pe_op op_sub (pe_ix (k_ixL (K := K) rfl) (pv 3) (pv 4) (fun _ _ => rfl)) (pv 6)) (pg_sub (pv 3) (pv 4) set_list)) (pss_cons (ps_asg (pe_op op_add (pe_ix (k_ixL (K := K) rfl) (pv 3) (pv 5) (fun _ _ => rfl)) (pv 6)) (pg_sub (pv 3) (pv 5) set_list)) (pss_one (ps_ret (pe_callTy (k_tup (K := K) rfl) (by rfl) T.n_tuple (by decide +kernel) (pa_cons (pv 3) pa_nil)))))))))), ?_⟩
  rintro ⟨dk, D0, b, r, c⟩ hp
  replace hp : (2 ≤ b ∧ b ≤ 12) ∧ (1 ≤ r ∧ r ≤ 4) ∧ GoodCol b r c := hp
  obtain ⟨hb, hr4, gc⟩ := hp
  show S1 E _ [some (Av dk), some (D K (colD c)), some (D K (.int b)), none, none, none, none] [(dk, DKo D0)] { nx := fun _ μ => BackY (mvR K) (dk, D0, b, r, c) (D K .none) μ, rt := BackY (mvR K) (dk, D0, b, r, c) }
  try simp only [cx_K, cx_KX]
  have hl := gc.1
  refine s_own (o_listC (e_var rfl)) fun fa => ?_
  simp only [List.set_cons_succ, List.set_cons_zero, List.cons_append, List.nil_append]
  have hlen : ∀ (DD : Deck) (q4 q5 q6 : Option Pr), E1 (tCB (rLenS K) (tCons (tVar 1) tNil)) [some (Av dk), some (D K (colD c)), some (D K (.int b)), some (Av fa), q4, q5, q6] [(dk, DKo DD), (fa, OL K (c.map .int))] (D K (.int (c.length : Int))) [(dk, DKo DD), (fa, OL K (c.map .int))] := fun DD q4 q5 q6 => e_lenC (e_var rfl)
  have hc0 : 0 < (c.length : Int) ∧ (c.length : Int) < 2 ^ 200 := by omega
  refine s_let (e_draw (a_cons (e_var rfl) (a_cons (hlen _ _ _ _) a_nil)) hc0) ?_
  have o0 : 0 ≤ dv D0 (c.length : Int) := dv_lo (by omega)
  have o1 : dv D0 (c.length : Int) < (c.length : Int) := dv_hi (by omega)
  generalize dv D0 (c.length : Int) = one at o0 o1 ⊢
  generalize dn D0 (c.length : Int) = D1
  simp only [List.set_cons_succ, List.set_cons_zero]
  refine s_let (e_draw (a_cons (e_var rfl) (a_cons (hlen _ _ _ _) a_nil)) hc0) ?_
  have t0 : 0 ≤ dv D1 (c.length : Int) := dv_lo (by omega)
  have t1 : dv D1 (c.length : Int) < (c.length : Int) := dv_hi (by omega)
  generalize dv D1 (c.length : Int) = oth at t0 t1 ⊢
  generalize dn D1 (c.length : Int) = D2
  simp only [List.set_cons_succ, List.set_cons_zero]
  have hfig : ∀ n : Nat, n < c.length → 0 ≤ c.getD n 0 ∧ c.getD n 0 < b := fun n hn => by
    have : c.getD n 0 = c[n] := by simp [List.getD, List.getElem?_eq_getElem hn]
    rw [this]
    exact gc.2 _ (List.getElem_mem hn)
  have f1 := hfig one.toNat (by omega)
  have f2 := hfig oth.toNat (by omega)
  obtain ⟨mn, hmn⟩ : ∃ mn : Int, mn = if b - 1 - c.getD oth.toNat 0 < c.getD one.toNat 0 then b - 1 - c.getD oth.toNat 0 else c.getD one.toNat 0 := ⟨_, rfl⟩
  have hm1 : 0 ≤ mn ∧ mn ≤ c.getD one.toNat 0 ∧ mn ≤ b - 1 - c.getD oth.toNat 0 := by
    rw [hmn]
    split <;> omega
  refine s_let (Q := D K (.int (dv D2 (1 + mn)))) (μ1 := [(dk, DKo (dn D2 (1 + mn))), (fa, OL K (c.map .int))]) (e_draw (a_cons (e_var rfl) (a_cons ?_ a_nil)) (by omega)) ?_
  · rw [hmn]
    exact e_add (K := K) e_cI (e_min2 (e_int (e_ixLI (K := K) (e_var rfl) (e_var rfl) (lr_O 1 rfl) ⟨o0, o1⟩)) (e_sub (K := K) (e_sub (K := K) (e_var rfl) e_cI) (e_int (e_ixLI (K := K) (e_var rfl) (e_var rfl) (lr_O 1 rfl) ⟨t0, t1⟩))))
  have p0 : 0 ≤ dv D2 (1 + mn) := dv_lo (by omega)
  have p1 : dv D2 (1 + mn) < 1 + mn := dv_hi (by omega)
  generalize dv D2 (1 + mn) = pt at p0 p1 ⊢
  generalize dn D2 (1 + mn) = D3
  simp only [List.set_cons_succ, List.set_cons_zero]
  refine s_then ?_
  refine s_setIx (n := 1) (ad := fa) (ds := c.map .int) (d := .int (c.getD one.toNat 0 - pt)) (i := one) (e_sub (K := K) (e_ixLI (K := K) (e_var rfl) (e_var rfl) (lr_O 1 rfl) ⟨o0, o1⟩) (e_var rfl)) (e_var rfl) (e_var rfl) rfl ⟨o0, by rw [List.length_map]; exact o1⟩ ?_
  rw [show (c.map PyData.int).set one.toNat (.int (c.getD one.toNat 0 - pt)) = (c.set one.toNat (c.getD one.toNat 0 - pt)).map .int from (List.map_set).symm]
  have hs1 := sum_set c one.toNat (c.getD one.toNat 0 - pt) (by omega)
  have hl2 : (c.set one.toNat (c.getD one.toNat 0 - pt)).length = c.length := List.length_set
  have g2 : (c.set one.toNat (c.getD one.toNat 0 - pt)).getD oth.toNat 0 = if one = oth then c.getD one.toNat 0 - pt else c.getD oth.toNat 0 := by
    by_cases h : one = oth
    · subst h
      rw [if_pos rfl]
      simp [List.getD, List.getElem?_set, show one.toNat < c.length by omega]
    · rw [if_neg h]
      have : one.toNat ≠ oth.toNat := by omega
      simp [List.getD, List.getElem?_set, this]
  have gm : ∀ x ∈ c.set one.toNat (c.getD one.toNat 0 - pt), 0 ≤ x ∧ x < b := fun x hx => by
    rcases set_mem hx with rfl | hx
    · omega
    · exact gc.2 x hx
  generalize c.set one.toNat (c.getD one.toNat 0 - pt) = c1 at hs1 hl2 g2 gm ⊢
  simp only [List.set_cons_succ, List.set_cons_zero]
  refine s_then ?_
  refine s_setIx (n := 1) (ad := fa) (ds := c1.map .int) (d := .int (c1.getD oth.toNat 0 + pt)) (i := oth) (e_add (K := K) (e_ixLI (K := K) (e_var rfl) (e_var rfl) (lr_O 1 rfl) ⟨t0, by omega⟩) (e_var rfl)) (e_var rfl) (e_var rfl) rfl ⟨t0, by rw [List.length_map]; omega⟩ ?_
  rw [show (c1.map PyData.int).set oth.toNat (.int (c1.getD oth.toNat 0 + pt)) = (c1.set oth.toNat (c1.getD oth.toNat 0 + pt)).map .int from (List.map_set).symm]
  have hs2 := sum_set c1 oth.toNat (c1.getD oth.toNat 0 + pt) (by omega)
  have gm2 : ∀ x ∈ c1.set oth.toNat (c1.getD oth.toNat 0 + pt), 0 ≤ x ∧ x < b := fun x hx => by
    rcases set_mem hx with rfl | hx
    · rw [g2]
      split <;> omega
    · exact gm x hx
  have gl2 : ((c1.set oth.toNat (c1.getD oth.toNat 0 + pt)).length : Int) = r := by rw [List.length_set]; omega
  have hsum : (c1.set oth.toNat (c1.getD oth.toNat 0 + pt)).sum = c.sum := by omega
  generalize c1.set oth.toNat (c1.getD oth.toNat 0 + pt) = cz at gm2 gl2 hsum ⊢
  simp only [List.set_cons_succ, List.set_cons_zero]
  refine s_ret (Q := D K (colD cz)) (μ1 := [(dk, DKo D3), (fa, OL K (cz.map .int))]) (e_tupL (K := K) (e_var rfl) (lr_O 1 rfl)) ?_
  exact backY_mk (R := mvR K) ⟨cz, D3, rfl, ⟨gl2, gm2⟩, hsum, rfl⟩ (Imp.refl _) (List.Sublist.cons₂ _ (List.nil_sublist _))
theorem y__law_moved {δ : En} {μ : Mp} {E : XK} {dk : Addr} {b r : Int} {D0 : Deck} {c : List Int} {rest : Mp} {tA : TA} (h : EA tA δ μ [Av dk, D K (colD c), D K (.int b)] ((dk, DKo D0) :: rest)) (hp : (2 ≤ b ∧ b ≤ 12) ∧ (1 ≤ r ∧ r ≤ 4) ∧ GoodCol b r c) : EY (tCall (sp__law_moved K) [] E tA) δ μ (fun Q μ' => ∃ c1 D1, Q = D K (colD c1) ∧ GoodCol b r c1 ∧ c1.sum = c.sum ∧ μ' = (dk, DKo D1) :: rest) :=
  (y_call (A := mvA K) (m := mvM) (pre := mvPre) (R := mvR K) (rest := rest) (dk, D0, b, r, c) h hp).permR fun Q μ' z => by
    obtain ⟨_, ⟨c1, D1, h1, h2, h3, rfl⟩, rfl⟩ := z
    exact ⟨_, ⟨c1, D1, h1, h2, h3, rfl⟩, List.Perm.refl _⟩
def sp__law_sums_right (K : PySem.W.Frag) (C : Addr) : Sp := sp (rrA K C) (rrM K) rrPre (rrR K)
theorem ok__law_sums_right (T : Txt K mg) : FnOk P w K mg base CX0 7 T.a__law_sums_right T.fd__law_sums_right ["deck", "sheet", "columns", "slips"] (sp__law_sums_right K T.c_Sheet) := by
  refine fn_Y T.F__law_sums_right sc__law_sums_right (fun _ => rfl) fun cdv A outer s H E hr => ⟨_, (pss_cons (ps_if (pt_cmpR (k_neD (K := K) rfl hr.units) (pe_lc (own := [("slip", 6)]) (g := gName 6) rfl sc__law_sums_right.nd (pi_list (pv 3)) (blkOk_by (N := ["deck", "sheet", "columns", "slips", "others", "column", "slip"]) (sc := defScope s__law_sums_right) (by decide +kernel)) (fun _ _ _ _ _ => pg_name (i := 6) sc__law_sums_right.nd rfl (Or.inl rfl)) (fun _ _ _ _ _ => pts_one (pt_cmpR (k_inSq (K := K) rfl) (pe_ix (k_ixT (K := K) rfl) (pe_ix (k_ixT (K := K) rfl) (pv 6) (pe_int) (fun _ _ => rfl)) (pe_int) (fun _ _ => rfl)) (pe_tup (pa_cons (pe_str) (pa_cons (pe_str) pa_nil))) (by with_unfolding_all rfl))) (fun _ _ _ _ _ => pv 6)) (pe_lst pa_nil) (nomark _)) (pss_one (ps_ret (pe_bl))) (pss_nil)) (pss_cons (ps_setLc (i := 4) (own := [("column", 5)]) (g := gName 5) (tt := tYes) rfl sc__law_sums_right.nd rfl rfl (sw_true rfl rfl rfl (by decide +kernel)) (pi_list (pv 2)) (blkOk_by (N := ["deck", "sheet", "columns", "slips", "others", "column", "slip"]) (sc := defScope s__law_sums_right) (by decide +kernel)) (fun _ _ _ _ _ => pg_name (i := 5) sc__law_sums_right.nd rfl (Or.inl rfl)) (fun _ _ _ _ _ => pts_nil) (fun _ _ _ _ _ => pe_call (ok__law_moved T) (hr.mono (by decide)) (by rfl) T.m__law_moved T.F__law_moved.kp T.b__law_moved .nil pass0 (pa_cons (pv 0) (pa_cons (pv 5) (pa_cons (pe_prop (pv 1) T.cl_Sheet T.p_Sheet_base (ok_Sheet_base T) (hr.mono (by decide)) T.b_Sheet_base .nil pass0 rfl) pa_nil))))) (pss_one (ps_ret (pe_cmpR (opO_Written___eq__ T (hr := hr.mono (by decide))) (pe_call (ok_add_with T) (hr.mono (by decide)) (by rfl) T.m_add_with T.F_add_with.kp T.b_add_with .nil pass0 (pa_cons (pe_make T.k_Sheet (okG_Sheet___init__ T) (hr.mono (by decide)) (by rfl) T.m_Sheet T.b_Sheet___init__ .nil passL (pa_cons (pe_prop (pv 1) T.cl_Sheet T.p_Sheet_base (ok_Sheet_base T) (hr.mono (by decide)) T.b_Sheet_base .nil pass0 rfl) (pa_cons (pe_prop (pv 1) T.cl_Sheet T.p_Sheet_rows (ok_Sheet_rows T) (hr.mono (by decide)) T.b_Sheet_rows .nil pass0 rfl) (pa_cons (pv 4) pa_nil)))) (pa_cons (pe_callTy (k_list (K := K) rfl) (by rfl) T.n_list (by decide +kernel) (pa_cons (pv 3) pa_nil)) pa_nil))) (pe_call (ok_add_with T) (hr.mono (by decide)) (by rfl) T.m_add_with T.F_add_with.kp T.b_add_with .nil pass0 (pa_cons (pv 1) (pa_cons (pe_callTy (k_list (K := K) rfl) (by rfl) T.n_list (by decide +kernel) (pa_cons (pv 3) pa_nil)) pa_nil))) (nomark _)))))), ?_⟩
  rintro ⟨dk, D0, l, b, r, cs, sl, ww⟩ hp
  replace hp : GoodSh b r cs ∧ cs.length ≤ 60 ∧ sl.length ≤ 10000 ∧ addV b r cs sl 0 0 = some ww ∧ (∀ s ∈ sl, s.2 ∈ allDeeds b r) := hp
  obtain ⟨g, hl, hsl, hA, hds⟩ := hp
  show S1 E _ [some (Av dk), some (ShI T.c_Sheet b r l), some (D K (.list (cs.map colD))), some (D K (.list (sl.map slipD))), none, none, none] [(dk, DKo D0), (l, OL K (cs.map colD))] { nx := fun _ μ => BackY (rrR K) (dk, D0, l, b, r, cs, sl, ww) (D K .none) μ, rt := BackY (rrR K) (dk, D0, l, b, r, cs, sl, ww) }
  try simp only [cx_K, cx_KX]
  have hr4 : 1 ≤ r ∧ r ≤ 4 := ⟨g.r1, g.r4⟩
  have hb : 2 ≤ b ∧ b ≤ 12 := ⟨g.b2, g.b12⟩
  have hw : ∀ s ∈ sl, E1 (tOp (rIn K false) (tOp (rIxT K) (tOp (rIxT K) (tVar 6) (tC (V.int 1))) (tC (V.int 0))) (tTup (tCons (tC (V.str "read")) (tCons (tC (V.str "copy")) tNil)))) [some (Av dk), some (ShI T.c_Sheet b r l), some (D K (.list (cs.map colD))), some (D K (.list (sl.map slipD))), none, none, some (D K (slipD s))] [(dk, DKo D0), (l, OL K (cs.map colD))] (D K (.bool (!noRow s.2))) [(dk, DKo D0), (l, OL K (cs.map colD))] := fun s hs => by
    have e : (!noRow s.2) = decide (s.2.word ∈ (["read", "copy"] : List Str)) := by
      have hx := hds s hs
      generalize s.2 = x at hx ⊢
      cases x <;> first | decide | rfl | (clear hx; simp only [noRow, Deed.word]; with_unfolding_all rfl)
    rw [e]
    exact e_inStrs (e_word (e_ixT (K := K) (i := 1) (ds := [.int s.1, deedD s.2]) (e_var rfl) e_cI rfl)) (e_tup (ds := (["read", "copy"] : List Str).map .str) (d_cons e_cS (d_cons e_cS d_nil)) (by show 2 ≤ 1000; decide))
  refine s_ifr (a := !((sl.filter fun s => !noRow s.2).map slipD).isEmpty) (μ1 := [(dk, DKo D0), (l, OL K (cs.map colD))]) (t_test (e_neNil (K := K) (EO.frz (o_filtL (K := K) (enc := slipD) (out := slipD) (p := fun s => !noRow s.2) (xs := sl) (e_var rfl) (by omega) (fun s hs => t_test (hw s hs)) (fun s hs _ => e_var rfl))) lr_D (shd_slips _))) (fun _ => ?_) (fun h => ?_)
  · exact s_ret (Q := D K (.bool true)) (e_cB (K := K)) (backY_mk ⟨D0, rfl, rfl⟩ (Imp.refl _) (List.Sublist.refl _))
  have hno : ∀ s ∈ sl, noRow s.2 = true := fun s hs => by
    cases hq : noRow s.2 with
    | true => rfl
    | false =>
      have hm : s ∈ sl.filter fun s => !noRow s.2 := List.mem_filter.mpr ⟨hs, by rw [hq]; rfl⟩
      cases hf : (sl.filter fun s => !noRow s.2) with
      | nil => rw [hf] at hm; cases hm
      | cons a t => rw [hf] at h; cases h
  refine s_letY (y_lcE (K := K) (kp := []) (n := cs.length) (X := fun i => D K (((cs.map colD)[i]?).getD .none)) (μ1 := [(dk, DKo D0), (l, OL K (cs.map colD))]) (fun i ds μx => ∃ (ds' : List (List Int)) (D1 : Deck), ds = ds'.map colD ∧ ds'.length = i ∧ (∀ c ∈ ds', GoodCol b r c) ∧ ds'.map List.sum = (cs.take i).map List.sum ∧ μx = [(dk, DKo D1), (l, OL K (cs.map colD))]) ?_ (by omega) ⟨[], D0, rfl, rfl, fun c hc => (by cases hc), rfl, rfl⟩ ?_ (fun _ _ _ _ => List.nil_sublist _) ?_) ?_
  · have := i_list (K := K) (δ := [some (Av dk), some (ShI T.c_Sheet b r l), some (D K (.list (cs.map colD))), some (D K (.list (sl.map slipD))), none, none, none]) (μ := [(dk, DKo D0), (l, OL K (cs.map colD))]) (te := tVar 2) (ds := cs.map colD) (e_var rfl)
    rw [List.length_map] at this
    exact this
  · rintro i ds _ hi ⟨ds', D1, rfl, hl', hg', hs', rfl⟩
    have hx : cs[i]? = some cs[i] := List.getElem?_eq_getElem hi
    have gc := g.col _ (List.getElem_mem hi)
    refine ⟨_, by rw [getD_map hx]; exact g_name (k := 5), ?_⟩
    refine (y__law_moved (dk := dk) (D0 := D1) (b := b) (r := r) (c := cs[i]) (rest := [(l, OL K (cs.map colD))]) (a_cons (e_var rfl) (a_cons (e_var rfl) (a_cons (by walk_at "ev") a_nil))) ⟨hb, hr4, gc⟩).imp fun Q μy z => ?_
    obtain ⟨c1, D2, rfl, gc1, hsum, rfl⟩ := z
    refine ⟨colD c1, rfl, ds' ++ [c1], D2, by rw [List.map_append]; rfl, by rw [List.length_append, hl']; rfl, fun c hc => ?_, ?_, rfl⟩
    · rcases List.mem_append.mp hc with hc | hc
      · exact hg' c hc
      · obtain rfl := List.mem_singleton.mp hc
        exact gc1
    · rw [List.map_append, hs', List.take_add_one, hx, List.map_append]
      simp [hsum]
  · rintro i ds μx ⟨ds', D1, rfl, hl', _⟩
    rw [List.length_map, hl']
  rintro _ _ ⟨p, ds, μx, ⟨ds', D1, rfl, hl', hg', hs', rfl⟩, rfl, rfl⟩
  simp only [List.set_cons_succ, List.set_cons_zero, List.cons_append, List.nil_append]
  rw [List.take_length] at hs'
  have gt : GoodSh b r ds' := ⟨g.b2, g.b12, g.r1, g.r4, by have := g.len; omega, hg'⟩
  have hA2 : addV b r ds' sl 0 0 = some ww := by rw [addV_sums hs' sl 0 0 hno]; exact hA
  refine s_ret (Q := D K (.bool true)) (μ1 := [(dk, DKo D1), (l, OL K (cs.map colD)), (p, OL K (ds'.map colD))]) ((e_wrEq (C := T.c_Written) (b := b) (b' := b) (figs := ww.1) (figs' := ww.1) (last := ww.2) (last' := ww.2) (by exact e_add_with (P1 := ShF K T.c_Sheet b r ds') (P2 := D K (.list (sl.map slipD))) (ww := ww) (a_cons (EY.frzNew (y_mkSh (by walk_at "ev") (by walk_at "ev") (by walk_at "ev") (lr_O 2 rfl) gt)) (a_cons (EO.frz (K := K) (o_list (e_var rfl) lr_D)) a_nil)) sr_F lr_D ⟨gt, hsl, hA2⟩) (by exact e_add_with (P1 := ShI T.c_Sheet b r l) (P2 := D K (.list (sl.map slipD))) (ww := ww) (a_cons (e_var rfl) (a_cons (EO.frz (K := K) (o_list (e_var rfl) lr_D)) a_nil)) (sr_O 1 rfl) lr_D ⟨g, hsl, hA⟩)).cast (by rw [decide_eq_true rfl])) ?_
  exact backY_mk ⟨D1, rfl, rfl⟩ (Imp.refl _) (by first | exact List.Sublist.refl _ | (refine List.Sublist.cons₂ _ (List.Sublist.cons₂ _ (List.nil_sublist _))))
theorem y__law_sums_right {δ : En} {μ : Mp} {E : XK} {C : Addr} {dk l : Addr} {D0 : Deck} {b r : Int} {cs : List (List Int)} {sl : List (Int × Deed)} {ww : List Int × Int} {rest : Mp} {tA : TA} (h : EA tA δ μ [Av dk, ShI C b r l, D K (.list (cs.map colD)), D K (.list (sl.map slipD))] ((dk, DKo D0) :: (l, OL K (cs.map colD)) :: rest)) (hp : GoodSh b r cs ∧ cs.length ≤ 60 ∧ sl.length ≤ 10000 ∧ addV b r cs sl 0 0 = some ww ∧ (∀ s ∈ sl, s.2 ∈ allDeeds b r)) :
    EY (tCall (sp__law_sums_right K C) [] E tA) δ μ (fun Q μ' => ∃ D1, Q = D K (.bool true) ∧ μ' = (dk, DKo D1) :: (l, OL K (cs.map colD)) :: rest) :=
  (y_call (A := rrA K C) (m := rrM K) (pre := rrPre) (R := rrR K) (rest := rest) (dk, D0, l, b, r, cs, sl, ww) h hp).imp fun Q μ' z => by
    obtain ⟨_, ⟨D1, h1, rfl⟩, rfl⟩ := z
    exact ⟨D1, h1, rfl⟩
theorem ok_Sheet___setitem__ (T : Txt K mg) : FnOk P w K mg base (L2.CX P w) 3 T.a_Sheet___setitem__ T.fd_Sheet___setitem__ ["self", "at", "worth"] (specX (setPre K T.c_Sheet) (setPost K) (setExc T.c_InvalidColumn)) := by
  refine fn_svX T.F_Sheet___setitem__ sc_Sheet___setitem__ (fun x G M vs h => by obtain ⟨rfl, _⟩ := h; rfl) fun cdv A outer s H E hr => ⟨_, (pss_cons (ps_if (pt_not (pt_val (pe_call (ok_is_column T) (hr.mono (by decide)) (by rfl) T.m_is_column T.F_is_column.kp T.b_is_column .nil pass0 (pa_cons (k_fld (K := K) rfl (pv 0) rfl) (pa_cons (k_fld (K := K) rfl (pv 0) rfl) (pa_cons (pv 2) pa_nil)))))) (pss_one (ps_raise rfl (takes_of rfl rfl rfl rfl) (pmk_own PySem.F.excBase_ValueError T.x_InvalidColumn T.m_InvalidColumn T.xk_InvalidColumn (raises_own T.xb_InvalidColumn T.xt_InvalidColumn) rfl))) (pss_nil)) (pss_one (ps_asg (pe_callTy (k_tup (K := K) rfl) (by rfl) T.n_tuple (by decide +kernel) (pa_cons (pv 2) pa_nil)) (pg_sub (k_fld (K := K) rfl (pv 0) rfl) (pv 1) set_list)))), ?_⟩
  rintro ⟨p, dx, l, n, b, r, xs, i, j, v, d⟩ G M vs ⟨rfl, (hp : At G M p _), (hl : M[n]? = some (l, .lst xs)), (hj : ixN xs.length i = some j), (hd : Dp K G v d), (hz : dlen d ≤ 100000)⟩
  refine sv_ifs (et_not (et_B (ev_col (K := K) (f := isCol) (ea_cons (ev_fld (ev_var rfl) hp T.cl_Sheet T.na_Sheet__base shF_b) (ea_cons (ev_fld (ev_var rfl) hp T.cl_Sheet T.na_Sheet__rows shF_r) (ea_cons (ev_varP rfl hd) ea_nil))) hz))) (fun G1 e1 hb => sv_raise fun G2 e2 => ?_) fun G1 e1 hb => sv_next fun G2 e2 => ?_
  · exact ⟨by simpa using hb, rfl, rfl, rfl⟩
  have hc : isCol b r d = true := by simpa using hb
  obtain ⟨c, rfl, _⟩ := isCol_of hc
  have e12 := e1.trans e2
  refine sv_setIxP (n := n) (ev_tupT (K := K) (ev_varP rfl (dm hd e12))) (ev_fld (ev_var rfl) (hp.ex e12) T.cl_Sheet T.na_Sheet__columns shF_c) (ev_var rfl) hl hj fun y G' e hy => ⟨hc, rfl, y, hy, rfl⟩
theorem setO_Sheet___setitem__ (T : Txt K mg) {X : Cx} (hP : X.prog = P := by rfl) (hw : X.w = w := by rfl) (hK : X.K = K := by rfl) (hm : X.mg = mg := by rfl) (hr : Room 3 X.A) : PSet X (rSetO T.c_Sheet (spec (setGPre K T.c_Sheet) (setPost K)) E0) := by
  subst hP hw hK hm
  exact set_own T.me_Sheet___setitem__ T.ns_Sheet (FnOk.calm (ok_Sheet___setitem__ T) (fun x G M vs h => h.1) (fun x G M vs c d G' M' h z => by
    have h1 := h.2
    have z1 := z.1
    rw [h1] at z1
    cases z1)) hr T.b_Sheet___setitem__ passL
def sp_add_right (K : PySem.W.Frag) (c_Sheet : Addr) (c_Written : Addr) : Sp := sp (α := Mp × (Pr) × (Int) × (Int) × (List (List Int))) (fun (x : Mp × (Pr) × (Int) × (Int) × (List (List Int))) => match x with | (ms, P1, b, r, cs) => [P1]) (fun (x : Mp × (Pr) × (Int) × (Int) × (List (List Int))) => match x with | (ms, P1, b, r, cs) => ms) (fun (x : Mp × (Pr) × (Int) × (Int) × (List (List Int))) => match x with | (ms, P1, b, r, cs) => (SR K c_Sheet P1 ms b r cs) ∧ (GoodSh b r cs)) (fun x Q μ => Q = (fun (x : Mp × (Pr) × (Int) × (Int) × (List (List Int))) => match x with | (ms, P1, b, r, cs) => (WrP K c_Written b (doCols b cs 0).1 (doCols b cs 0).2)) x ∧ μ = (fun (x : Mp × (Pr) × (Int) × (Int) × (List (List Int))) => match x with | (ms, P1, b, r, cs) => ms) x)
theorem ok_add_right (T : Txt K mg) : FnOk P w K mg base CX0 6 T.a_add_right T.fd_add_right ["sheet"] (sp_add_right K T.c_Sheet T.c_Written) := by
  refine fn_Y T.F_add_right sc_add_right (fun _ => rfl) fun cdv A outer s H E hr => ⟨_, (pss_one (ps_ret (pe_call (ok_add_with T) (hr.mono (by decide)) (by rfl) T.m_add_with T.F_add_with.kp T.b_add_with .nil pass0 (pa_cons (pv 0) (pa_cons (pe_lst pa_nil) pa_nil))))), ?_⟩
  rintro ⟨ms, P1, b, r, cs⟩ hp
  replace hp : (SR K T.c_Sheet P1 ms b r cs) ∧ (GoodSh b r cs) := hp
  obtain ⟨hS, hp⟩ := hp
  show S1 E _ [some (P1)] ms { nx := fun _ μ => BackY (fun x Q μ => Q = (fun (x : Mp × (Pr) × (Int) × (Int) × (List (List Int))) => match x with | (ms, P1, b, r, cs) => (WrP K T.c_Written b (doCols b cs 0).1 (doCols b cs 0).2)) x ∧ μ = (fun (x : Mp × (Pr) × (Int) × (Int) × (List (List Int))) => match x with | (ms, P1, b, r, cs) => ms) x) (ms, P1, b, r, cs) (D K .none) μ, rt := BackY (fun x Q μ => Q = (fun (x : Mp × (Pr) × (Int) × (Int) × (List (List Int))) => match x with | (ms, P1, b, r, cs) => (WrP K T.c_Written b (doCols b cs 0).1 (doCols b cs 0).2)) x ∧ μ = (fun (x : Mp × (Pr) × (Int) × (Int) × (List (List Int))) => match x with | (ms, P1, b, r, cs) => ms) x) (ms, P1, b, r, cs) }
  try simp only [cx_K, cx_KX]
  refine s_ret (Q := WrP K T.c_Written b (doCols b cs 0).1 (doCols b cs 0).2) (μ1 := ms) ?_ (backY_mk ⟨rfl, rfl⟩ (Imp.refl _) (List.Sublist.refl _))
  exact e_add_with (P2 := D K (.list ([].map slipD))) (sl := []) (ww := doCols b cs 0) (a_cons (by walk_at "ev") (a_cons (EO.frz (o_lst (K := K) d_nil (by decide))) a_nil)) hS lr_D ⟨hp, by simp, rfl⟩
theorem e_add_right {c_Sheet : Addr} {c_Written : Addr} {tA : TA} {δ : En} {μ ms : Mp} {E : XK} {P1 : Pr} {b : Int} {r : Int} {cs : List (List Int)} (h : EA tA δ μ [P1] ms) (hS : SR K c_Sheet P1 ms b r cs) (hp : GoodSh b r cs) : E1 (tCall (sp_add_right K c_Sheet c_Written) [] E tA) δ μ ((WrP K c_Written b (doCols b cs 0).1 (doCols b cs 0).2)) ms := e_callR (ms, P1, b, r, cs) (by simpa using h) ⟨hS, hp⟩
local macro_rules | `(tactic| walk_at "call") => `(tactic| ((with_reducible apply e_add_right); (· walk_at "ea"); (· walk_at "sr"); (· walk_at "sd")))
def sp__law_twins_right (K : PySem.W.Frag) (C : Addr) : Sp := sp (twA K C) (twM0 K) twPre (twR K)
theorem ok__law_twins_right (T : Txt K mg) : FnOk P w K mg base CX0 8 T.a__law_twins_right T.fd__law_twins_right ["deck", "sheet", "base", "rows", "columns"] (sp__law_twins_right K T.c_Sheet) := by
  refine fn_Y T.F__law_twins_right sc__law_twins_right (fun _ => rfl) fun cdv A outer s H E hr => ⟨_, (pss_cons (ps_set (i := 5) sc__law_twins_right.nd rfl (Or.inl rfl) (pe_call (ok__law_draw T) (hr.mono (by decide)) (by rfl) T.m__law_draw T.F__law_draw.kp T.b__law_draw .nil pass0 (pa_cons (pv 0) (pa_cons (pe_op op_add (pe_callB (k_len (K := K) rfl) (by rfl) T.n_len (by decide +kernel) (pa_cons (pv 4) pa_nil)) (pe_int)) pa_nil)))) (pss_cons (ps_set (i := 6) sc__law_twins_right.nd rfl (Or.inl rfl) (pe_lst (pa_cons (pv 1) (pa_cons (pe_meth (pv 1) T.cl_Sheet T.me_Sheet_cut (ok_Sheet_cut T) (hr.mono (by decide)) T.b_Sheet_cut .nil pass0 (pa_cons (pe_int) (pa_cons (pe_callB (k_len (K := K) rfl) (by rfl) T.n_len (by decide +kernel) (pa_cons (pv 4) pa_nil)) pa_nil))) (pa_cons (pe_op (opO_Sheet___add__ T (hr := hr.mono (by decide))) (pe_meth (pv 1) T.cl_Sheet T.me_Sheet_cut (ok_Sheet_cut T) (hr.mono (by decide)) T.b_Sheet_cut .nil pass0 (pa_cons (pe_int) (pa_cons (pv 5) pa_nil))) (pe_meth (pv 1) T.cl_Sheet T.me_Sheet_cut (ok_Sheet_cut T) (hr.mono (by decide)) T.b_Sheet_cut .nil pass0 (pa_cons (pv 5) (pa_cons (pe_callB (k_len (K := K) rfl) (by rfl) T.n_len (by decide +kernel) (pa_cons (pv 4) pa_nil)) pa_nil)))) pa_nil))))) (pss_cons (ps_setLc (i := 7) (own := [("twin", 14)]) (g := gName 14) (tt := tYes) rfl sc__law_twins_right.nd rfl rfl (sw_true rfl rfl rfl (by decide +kernel)) (pi_list (pv 6)) (blkOk_by (N := ["deck", "sheet", "base", "rows", "columns", "split", "twins", "every", "turn", "which", "start", "k", "at", "column", "twin", "fresh"]) (sc := defScope s__law_twins_right) (by decide +kernel)) (fun _ _ _ _ _ => pg_name (i := 14) sc__law_twins_right.nd rfl (Or.inl rfl)) (fun _ _ _ _ _ => pts_nil) (fun _ _ _ _ _ => pe_callTy (k_list (K := K) rfl) (by rfl) T.n_list (by decide +kernel) (pa_cons (pv 4) pa_nil))) (pss_cons (ps_for PassesOwn.never rfl (pi_range1 (by rfl) T.n_range (pa_cons (pe_int) pa_nil)) (pg_name (i := 8) sc__law_twins_right.nd rfl (Or.inl rfl)) (pss_cons (ps_set (i := 9) sc__law_twins_right.nd rfl (Or.inl rfl) (pe_call (ok__law_draw T) (hr.mono (by decide)) (by rfl) T.m__law_draw T.F__law_draw.kp T.b__law_draw .nil pass0 (pa_cons (pv 0) (pa_cons (pe_int) pa_nil)))) (pss_cons (ps_set (i := 10) sc__law_twins_right.nd rfl (Or.inl rfl) (pe_call (ok__law_draw T) (hr.mono (by decide)) (by rfl) T.m__law_draw T.F__law_draw.kp T.b__law_draw .nil pass0 (pa_cons (pv 0) (pa_cons (pe_int) pa_nil)))) (pss_cons (ps_if (PW.pt (pw_and (pt_cmpR op_gt (pv 8) (pe_int) (nomark _)) (pw_and1 (pt_cmpR (k_neD (K := K) rfl hr.units) (pv 4) (pe_lst pa_nil) (nomark _))))) (pss_cons (ps_set (i := 12) sc__law_twins_right.nd rfl (Or.inl rfl) (pe_call (ok__law_draw T) (hr.mono (by decide)) (by rfl) T.m__law_draw T.F__law_draw.kp T.b__law_draw .nil pass0 (pa_cons (pv 0) (pa_cons (pe_callB (k_len (K := K) rfl) (by rfl) T.n_len (by decide +kernel) (pa_cons (pv 4) pa_nil)) pa_nil)))) (pss_cons (ps_set (i := 13) sc__law_twins_right.nd rfl (Or.inl rfl) (pe_call (ok__law_column T) (hr.mono (by decide)) (by rfl) T.m__law_column T.F__law_column.kp T.b__law_column .nil pass0 (pa_cons (pv 0) (pa_cons (pv 2) (pa_cons (pv 3) pa_nil))))) (pss_cons (ps_asg (pv 13) (pg_sub (pe_ix (k_ixL (K := K) rfl) (pv 7) (pv 9) (fun _ _ => rfl)) (pv 12) set_list)) (pss_cons (ps_set (i := 14) sc__law_twins_right.nd rfl (Or.inl rfl) (pe_ix (k_ixL (K := K) rfl) (pv 6) (pv 9) (fun _ _ => rfl))) (pss_one (ps_asg (pv 13) (pg_sub (pv 14) (pv 12) (setO_Sheet___setitem__ T (hr := hr.mono (by decide)))))))))) (pss_nil)) (pss_one (ps_for PassesOwn.never rfl (pi_range1 (by rfl) T.n_range (pa_cons (pe_int) pa_nil)) (pg_name (i := 11) sc__law_twins_right.nd rfl (Or.inl rfl)) (pss_cons (ps_set (i := 12) sc__law_twins_right.nd rfl (Or.inl rfl) (pe_op op_mod (pe_callTy c_int (by rfl) T.n_int (by decide +kernel) (pa_cons (pe_op op_add (pv 10) (pv 11)) pa_nil)) (pe_int))) (pss_cons (ps_set (i := 15) sc__law_twins_right.nd rfl (Or.inl rfl) (pe_make T.k_Sheet (okG_Sheet___init__ T) (hr.mono (by decide)) (by rfl) T.m_Sheet T.b_Sheet___init__ .nil passL (pa_cons (pv 2) (pa_cons (pv 3) (pa_cons (pe_callTy (k_list (K := K) rfl) (by rfl) T.n_list (by decide +kernel) (pa_cons (pe_ix (k_ixL (K := K) rfl) (pv 7) (pv 12) (fun _ _ => rfl)) pa_nil)) pa_nil))))) (pss_cons (ps_if (PW.pt (pw_or (pt_not (pt_cmpR (opO_Written___eq__ T (hr := hr.mono (by decide))) (pe_call (ok_add_right T) (hr.mono (by decide)) (by rfl) T.m_add_right T.F_add_right.kp T.b_add_right .nil pass0 (pa_cons (pe_ix (k_ixL (K := K) rfl) (pv 6) (pv 12) (fun _ _ => rfl)) pa_nil)) (pe_call (ok_add_right T) (hr.mono (by decide)) (by rfl) T.m_add_right T.F_add_right.kp T.b_add_right .nil pass0 (pa_cons (pv 15) pa_nil)) (nomark _))) (pw_or1 (pt_cmpR op_ne (pe_op (op2_Written___sub__ T (hr := hr.mono (by decide))) (pe_call (ok_add_right T) (hr.mono (by decide)) (by rfl) T.m_add_right T.F_add_right.kp T.b_add_right .nil pass0 (pa_cons (pe_ix (k_ixL (K := K) rfl) (pv 6) (pv 12) (fun _ _ => rfl)) pa_nil)) (pe_ix (k_ixL (K := K) rfl) (pv 6) (pv 12) (fun _ _ => rfl))) (pe_int) (nomark _))))) (pss_one (ps_ret (pe_bl))) (pss_nil)) (pss_one (ps_if (pt_cmpR op_ne (pe_op (op2_Written___sub__ T (hr := hr.mono (by decide))) (pe_call (ok_add_with T) (hr.mono (by decide)) (by rfl) T.m_add_with T.F_add_with.kp T.b_add_with .nil pass0 (pa_cons (pe_ix (k_ixL (K := K) rfl) (pv 6) (pv 12) (fun _ _ => rfl)) (pa_cons (pe_lst pa_nil) pa_nil))) (pv 15)) (pe_int) (nomark _)) (pss_one (ps_ret (pe_bl))) (pss_nil)))))))))))) (pss_one (ps_ret (pe_bl))))))), ?_⟩
  rintro ⟨dk, D0, l, b, r, cs⟩ hp
  replace hp : GoodSh b r cs ∧ cs.length ≤ 60 := hp
  obtain ⟨g, hl⟩ := hp
  have hb : 2 ≤ b ∧ b ≤ 12 := ⟨g.b2, g.b12⟩
  have hr4 : 1 ≤ r ∧ r ≤ 4 := ⟨g.r1, g.r4⟩
  have hbb : -(2 ^ 64) < b ∧ b < 2 ^ 64 := by omega
  show S1 E _ [some (Av dk), some (ShI T.c_Sheet b r l), some (D K (.int b)), some (D K (.int r)), some (D K (.list (cs.map colD))), none, none, none, none, none, none, none, none, none, none, none] [(dk, DKo D0), (l, OL K (cs.map colD))] { nx := fun _ μ => BackY (twR K) (dk, D0, l, b, r, cs) (D K .none) μ, rt := BackY (twR K) (dk, D0, l, b, r, cs) }
  try simp only [cx_K, cx_KX]
  have hlm : ((cs.map colD).length : Int) = (cs.length : Int) := by rw [List.length_map]
  have hn : 0 < (cs.length : Int) + 1 ∧ (cs.length : Int) + 1 < 2 ^ 200 := by omega
  have s0 : 0 ≤ dv D0 ((cs.length : Int) + 1) := dv_lo (by omega)
  have s1 : dv D0 ((cs.length : Int) + 1) < (cs.length : Int) + 1 := dv_hi (by omega)
  refine s_let (Q := D K (.int (dv D0 ((cs.length : Int) + 1)))) (μ1 := [(dk, DKo (dn D0 ((cs.length : Int) + 1))), (l, OL K (cs.map colD))]) (by rw [← hlm]; exact e_draw (by walk_at "ea") (by rw [hlm]; exact hn)) ?_
  generalize dv D0 ((cs.length : Int) + 1) = sp at s0 s1 ⊢
  generalize dn D0 ((cs.length : Int) + 1) = D1
  simp only [List.set_cons_succ, List.set_cons_zero]
  have hn0 : (0 : Int) ≤ (cs.length : Int) := by omega
  have e1 : cutL cs 0 (cs.length : Int) = cs := by
    have := cutL_all (cs := cs) (hi := 0) (Int.le_refl _)
    have h0 : cutL cs 0 0 = [] := List.length_eq_zero_iff.mp (by have := cutL_len (cs := cs) (lo := 0) (hi := 0) (Int.le_refl _) (Int.le_refl _) hn0; omega)
    rw [h0, List.nil_append] at this
    exact this
  have e2 : cutL cs 0 sp ++ cutL cs sp (cs.length : Int) = cs := cutL_all s0
  refine s_letY (y_lstX (X := fun Ps μ => ∃ l1 l2, Ps = [ShI T.c_Sheet b r l, ShI T.c_Sheet b r l1, ShI T.c_Sheet b r l2] ∧ μ = [(dk, DKo D1), (l, OL K (cs.map colD)), (l1, OL K (cs.map colD)), (l2, OL K (cs.map colD))]) (ax_1 (e_var rfl) (ax_Y (y_shCut (b := b) (r := r) (cs := cs) (i := 0) (j := (cs.length : Int)) (e_var rfl) e_cI (by rw [← hlm]; exact e_len (e_var rfl) lr_D) (sr_O 1 rfl) g (Int.le_refl _) hn0) ?_)) ?_) ?_
  · rintro _ _ ⟨l1, rfl, rfl⟩
    rw [e1]
    refine ax_Y (y_shAdd (b := b) (r := r) (cs := cutL cs 0 sp) (cs' := cutL cs sp (cs.length : Int)) (EY.frzNew (y_shCut (b := b) (r := r) (cs := cs) (i := 0) (j := sp) (e_var rfl) e_cI (e_var rfl) (sr_O 1 rfl) g (Int.le_refl _) s0)) (EY.frzNew (y_shCut (b := b) (r := r) (cs := cs) (i := sp) (j := (cs.length : Int)) (e_var rfl) (e_var rfl) (by rw [← hlm]; exact e_len (e_var rfl) lr_D) (sr_O 1 rfl) g s0 hn0)) sr_F sr_F (g.cut _ _) (g.cut _ _) (by have := congrArg List.length e2; rw [List.length_append] at this; omega)) ?_
    rintro _ _ ⟨l2, rfl, rfl⟩
    rw [e2]
    exact ax_nil ⟨l1, l2, rfl, rfl⟩
  · rintro Ps μ2 ⟨l1, l2, rfl, _⟩
    rw [sizeLine_eq]
    show 3 ≤ _
    omega
  rintro _ _ ⟨tw, _, _, ⟨l1, l2, rfl, rfl⟩, rfl, rfl⟩
  simp only [List.set_cons_succ, List.set_cons_zero, List.cons_append, List.nil_append]
  refine s_frzP (ad := tw) (Ps := [ShI T.c_Sheet b r l, ShI T.c_Sheet b r l1, ShI T.c_Sheet b r l2]) (μa := [(dk, DKo D1), (l, OL K (cs.map colD)), (l1, OL K (cs.map colD)), (l2, OL K (cs.map colD))]) (μb := []) 6 rfl ?_
  simp only [List.set_cons_succ, List.set_cons_zero, List.append_nil]
  refine s_letY (y_lcX (kp := []) (n := 3) (X := fun i => ([ShI T.c_Sheet b r l, ShI T.c_Sheet b r l1, ShI T.c_Sheet b r l2][i]?).getD (D K .none)) (μ1 := [(dk, DKo D1), (l, OL K (cs.map colD)), (l1, OL K (cs.map colD)), (l2, OL K (cs.map colD))]) (fun i Ps μx => ∃ es : List Addr, es.length = i ∧ Ps = es.map Av ∧ μx = [(dk, DKo D1), (l, OL K (cs.map colD)), (l1, OL K (cs.map colD)), (l2, OL K (cs.map colD))] ++ es.map fun e => (e, OL K (cs.map colD))) (i_lp (K := K) (Ps := [ShI T.c_Sheet b r l, ShI T.c_Sheet b r l1, ShI T.c_Sheet b r l2]) (e_var rfl)) (by omega) ⟨[], rfl, rfl, rfl⟩ ?_ (fun _ _ _ _ => List.nil_sublist _) ?_) ?_
  · rintro i Ps _ hi ⟨es, he, rfl, rfl⟩
    refine ⟨_, g_name (k := 14), ((o_list (K := K) (ds := cs.map colD) (e_var rfl) lr_D).own).imp fun Q μy z => ?_⟩
    obtain ⟨e, rfl, rfl⟩ := z
    exact ⟨es ++ [e], by rw [List.length_append, he]; rfl, by rw [List.map_append]; rfl, by rw [List.map_append, List.append_assoc]; rfl⟩
  · rintro i Ps μx ⟨es, he, rfl, _⟩
    rw [List.length_map, he]
  rintro _ _ ⟨ev, _, _, ⟨es, he, rfl, rfl⟩, rfl, rfl⟩
  match es, he with
  | [x0, x1, x2], _ =>
  simp only [List.set_cons_succ, List.set_cons_zero, List.cons_append, List.nil_append, List.map_cons, List.map_nil]
  refine s_frzP (ad := ev) (Ps := [Av x0, Av x1, Av x2]) (μa := [(dk, DKo D1), (l, OL K (cs.map colD)), (l1, OL K (cs.map colD)), (l2, OL K (cs.map colD)), (x0, OL K (cs.map colD)), (x1, OL K (cs.map colD)), (x2, OL K (cs.map colD))]) (μb := []) 7 rfl ?_
  simp only [List.set_cons_succ, List.set_cons_zero, List.append_nil]
  obtain ⟨ls, hls⟩ : ∃ ls, ls = [l, l1, l2] := ⟨_, rfl⟩
  obtain ⟨es, hes⟩ : ∃ es, es = [x0, x1, x2] := ⟨_, rfl⟩
  have hl3 : ls.length = 3 := by rw [hls]; rfl
  have he3 : es.length = 3 := by rw [hes]; rfl
  have hLs : [ShI T.c_Sheet b r l, ShI T.c_Sheet b r l1, ShI T.c_Sheet b r l2] = ls.map (ShI T.c_Sheet b r) := by rw [hls]; rfl
  have hEs : [Av x0, Av x1, Av x2] = es.map Av := by rw [hes]; rfl
  have hM : [(dk, DKo D1), (l, OL K (cs.map colD)), (l1, OL K (cs.map colD)), (l2, OL K (cs.map colD)), (x0, OL K (cs.map colD)), (x1, OL K (cs.map colD)), (x2, OL K (cs.map colD))] = twM K dk D1 ls [cs, cs, cs] es [cs, cs, cs] := by rw [hls, hes]; rfl
  have hend : ∀ (D2 : Deck) (css : CssT), List.length css = 3 → ∃ c1 : List (List Int), [(dk, DKo D2), (l, OL K (c1.map colD))].Sublist (twM K dk D2 ls css es css) := fun D2 css h => by
    match css, h with
    | [c1, _, _], _ =>
      refine ⟨c1, ?_⟩
      rw [hls]
      exact List.Sublist.cons₂ _ (List.Sublist.cons₂ _ (List.nil_sublist _))
  rw [hLs, hEs, hM]
  clear hLs hEs hM hls hes
  have hok0 : ∀ c ∈ ([cs, cs, cs] : CssT), GoodSh b r c ∧ c.length = cs.length := fun c hc => by
    have : c = cs := by simpa using hc
    rw [this]
    exact ⟨g, rfl⟩
  have hc0 : List.length ([cs, cs, cs] : CssT) = 3 := rfl
  generalize ([cs, cs, cs] : CssT) = css0 at hok0 hc0 ⊢
  have get : ∀ (css : CssT) (w : Nat), List.length css = 3 → (∀ c ∈ css, GoodSh b r c ∧ c.length = cs.length) → w < 3 → ∃ (lw ew : Addr) (cw : List (List Int)), ls[w]? = some lw ∧ es[w]? = some ew ∧ css[w]? = some cw ∧ GoodSh b r cw ∧ cw.length = cs.length := fun css w h3 hg h1 => by
    have a1 : w < ls.length := by omega
    have a2 : w < es.length := by omega
    have a3 : w < List.length css := by omega
    exact ⟨_, _, _, List.getElem?_eq_getElem a1, List.getElem?_eq_getElem a2, List.getElem?_eq_getElem a3, (hg _ (List.getElem_mem a3)).1, (hg _ (List.getElem_mem a3)).2⟩
  have at3 : ∀ {α : Type} {f : Addr → α} {xs : List Addr} {w : Nat} {x : Addr}, xs[w]? = some x → atI (xs.map f) (w : Int) = some (f x) := fun h => L2.atI_nat (by rw [List.getElem?_map, h]; rfl)
  have nat3 : ∀ D2 : Deck, ∃ w : Nat, dv D2 3 = (w : Int) ∧ w < 3 := fun D2 => by
    have h0 : 0 ≤ dv D2 3 := dv_lo (by decide)
    have h1 : dv D2 3 < 3 := dv_hi (by decide)
    exact ⟨(dv D2 3).toNat, by omega, by omega⟩
  refine s_seq (N := fun δ μ => ∃ (D2 : Deck) (css : CssT), List.length css = 3 ∧ (∀ c ∈ css, GoodSh b r c ∧ c.length = cs.length) ∧ μ = twM K dk D2 ls css es css) ?_ ?_
  · refine s_for (fun i δ μ => ∃ (D2 : Deck) (css : CssT), List.length css = 3 ∧ (∀ c ∈ css, GoodSh b r c ∧ c.length = cs.length) ∧ μ = twM K dk D2 ls css es css ∧ Le δ [some (Av dk), none, some (D K (.int b)), some (D K (.int r)), some (D K (.list (cs.map colD))), none, some (Lp (ls.map (ShI T.c_Sheet b r))), some (Lp (es.map Av)), none, none, none, none, none, none, none, none]) (i_rng1 (K := K) (i := 4) (μ' := twM K dk D1 ls css0 es css0) e_cI (by omega)) ⟨D1, css0, hc0, hok0, rfl, by walk_at "le"⟩ ?_ ?_
    · rintro i δ' _ hi ⟨D2, css, hc3, hok, rfl, hle⟩
      refine ⟨_, [8], G1.le g_name hle, ?_⟩
      simp only [List.set_cons_succ, List.set_cons_zero]
      obtain ⟨w, hw, hw3⟩ := nat3 D2
      refine s_let (Q := D K (.int (w : Int))) (μ1 := twM K dk (dn D2 3) ls css es css) (by rw [← hw]; exact e_draw (a_cons (e_var rfl) (a_cons e_cI a_nil)) (by omega)) ?_
      obtain ⟨st, hst, hst3⟩ := nat3 (dn D2 3)
      refine s_let (Q := D K (.int (st : Int))) (μ1 := twM K dk (dn (dn D2 3) 3) ls css es css) (by rw [← hst]; exact e_draw (a_cons (e_var rfl) (a_cons e_cI a_nil)) (by omega)) ?_
      generalize dn (dn D2 3) 3 = D3
      clear hw hst
      simp only [List.set_cons_succ, List.set_cons_zero]
      refine s_ifj (a := decide ((0 : Int) < (i : Int)) && !(cs.map colD).isEmpty) (μ1 := twM K dk D3 ls css es css) (N := fun δ μ => ∃ (D2 : Deck) (css : CssT), List.length css = 3 ∧ (∀ c ∈ css, GoodSh b r c ∧ c.length = cs.length) ∧ μ = twM K dk D2 ls css es css ∧ Le δ [some (Av dk), none, some (D K (.int b)), some (D K (.int r)), some (D K (.list (cs.map colD))), none, some (Lp (ls.map (ShI T.c_Sheet b r))), some (Lp (es.map Av)), none, none, some (D K (.int (st : Int))), none, none, none, none, none]) (t_and (t_test (e_gt (e_var rfl) e_cI)) fun _ => t_test (e_neNil (K := K) (e_var rfl) lr_D (by walk_at "sh"))) (fun h => ?_) (fun _ => s_next ⟨D3, css, hc3, hok, rfl, by walk_at "le"⟩) ?_
      · have hpos : 0 < cs.length := by
          cases cs with
          | nil => simp at h
          | cons x xs => simp
        have hn2 : 0 < (cs.length : Int) ∧ (cs.length : Int) < 2 ^ 200 := by omega
        have t0 : 0 ≤ dv D3 (cs.length : Int) := dv_lo (by omega)
        have t1 : dv D3 (cs.length : Int) < (cs.length : Int) := dv_hi (by omega)
        refine s_let (Q := D K (.int (dv D3 (cs.length : Int)))) (μ1 := twM K dk (dn D3 (cs.length : Int)) ls css es css) (by rw [← hlm]; exact e_draw (a_cons (e_var rfl) (a_cons (e_len (e_var rfl) lr_D) a_nil)) (by rw [hlm]; exact hn2)) ?_
        generalize dv D3 (cs.length : Int) = t at t0 t1 ⊢
        generalize dn D3 (cs.length : Int) = D4
        have gcol := colOf_good (D := D4) (b := b) (r := r) (by omega) (by omega)
        refine s_let (Q := D K (colD (colOf D4 b r))) (μ1 := twM K dk (colDk D4 b r) ls css es css) (by exact e_lcol (a_cons (e_var rfl) (a_cons (e_var rfl) (a_cons (e_var rfl) a_nil))) (by omega) (by omega)) ?_
        generalize colOf D4 b r = col at gcol ⊢
        generalize colDk D4 b r = D5
        simp only [List.set_cons_succ, List.set_cons_zero]
        obtain ⟨lw, ew, cw, q1, q2, q3, gw, lw2⟩ := get css w hc3 hok hw3
        have hcl : col.length ≤ 100000 := by have := gcol.1; omega
        have hti : 0 ≤ t ∧ t < (cw.length : Int) := by omega
        have hti2 : 0 ≤ t ∧ t < ((cw.map colD).length : Int) := by rw [List.length_map]; exact hti
        refine s_then ?_
        refine s_setIx (K := K) (n := w + 4) (ad := ew) (ds := cw.map colD) (d := colD col) (i := t) (μ1 := twM K dk D5 ls css es css) (e_var rfl) (e_ixLp (e_var rfl) (e_var rfl) (at3 q2)) (e_var rfl) (twM_e hl3 hc3 q2 q3) hti2 ?_
        rw [show (cw.map colD).set t.toNat (colD col) = (cw.set t.toNat col).map colD from (List.map_set).symm, twM_sete hl3 hc3 q2]
        refine s_let (Q := ShI T.c_Sheet b r lw) (μ1 := twM K dk D5 ls css es (css.set w (cw.set t.toNat col))) (e_ixLp (e_var rfl) (e_var rfl) (at3 q1)) ?_
        refine s_shSet (n := w + 1) (l := lw) (cs := cw) (c := col) (i := t) (e_var rfl) (e_var rfl) (e_var rfl) (twM_l q1 q3) hti gcol hcl ?_
        rw [twM_setl hl3 hc3 q1]
        refine ⟨D5, css.set w (cw.set t.toNat col), by rw [List.length_set]; exact hc3, fun c hc => ?_, rfl, by walk_at "le"⟩
        rcases set_mem hc with rfl | hc
        · exact ⟨GoodSh.set gw gcol, by rw [List.length_set]; exact lw2⟩
        · exact hok c hc
      · clear hc3 hok hle
        rintro δ'' _ ⟨D4, css, hc3, hok, rfl, hle⟩
        refine S1.le ?_ hle
        refine s_for (fun i δ μ => μ = twM K dk D4 ls css es css ∧ Le δ [some (Av dk), none, some (D K (.int b)), some (D K (.int r)), some (D K (.list (cs.map colD))), none, some (Lp (ls.map (ShI T.c_Sheet b r))), some (Lp (es.map Av)), none, none, some (D K (.int (st : Int))), none, none, none, none, none]) (i_rng1 (K := K) (i := 3) (μ' := twM K dk D4 ls css es css) e_cI (by omega)) ⟨rfl, by walk_at "le"⟩ ?_ ?_
        · rintro k δ3 _ hk ⟨rfl, hle⟩
          refine ⟨_, [11], G1.le g_name hle, ?_⟩
          simp only [List.set_cons_succ, List.set_cons_zero]
          have hv : ((st : Int) + (k : Int)) % 3 = ((((st + k) % 3 : Nat)) : Int) := by omega
          have hv3 : (st + k) % 3 < 3 := Nat.mod_lt _ (by decide)
          refine s_let (Q := D K (.int (((st + k) % 3 : Nat) : Int))) (μ1 := twM K dk D4 ls css es css) (by rw [← hv]; exact e_mod (e_int (e_add (e_var rfl) (e_var rfl))) e_cI (by decide)) ?_
          generalize (st + k) % 3 = v at hv3 ⊢
          clear hv
          simp only [List.set_cons_succ, List.set_cons_zero]
          obtain ⟨lv, ev2, cv, q1, q2, q3, gv, lv2⟩ := get css v hc3 hok hv3
          refine s_let (Q := ShF K T.c_Sheet b r cv) (μ1 := twM K dk D4 ls css es css) (EY.frzNew (y_mkSh (e_var rfl) (e_var rfl) (EO.frz (o_list (K := K) (ds := cv.map colD) (e_ixLp (e_var rfl) (e_var rfl) (at3 q2)) (lr_O (v + 4) (twM_e hl3 hc3 q2 q3)))) lr_D gv)) ?_
          simp only [List.set_cons_succ, List.set_cons_zero]
          have hlv : cv.length ≤ 100000 := by omega
          have hS1 : SR K T.c_Sheet (ShI T.c_Sheet b r lv) (twM K dk D4 ls css es css) b r cv := sr_O (v + 1) (twM_l q1 q3)
          obtain ⟨δs, hδs⟩ : ∃ δs : En, δs = [some (Av dk), none, some (D K (.int b)), some (D K (.int r)), some (D K (.list (cs.map colD))), none, some (Lp (ls.map (ShI T.c_Sheet b r))), some (Lp (es.map Av)), none, none, some (D K (.int (st : Int))), some (D K (.int (k : Int))), some (D K (.int (v : Int))), none, none, some (ShF K T.c_Sheet b r cv)] := ⟨_, rfl⟩
          have hT : E1 (tOp (rIxL K) (tVar 6) (tVar 12)) δs (twM K dk D4 ls css es css) (ShI T.c_Sheet b r lv) (twM K dk D4 ls css es css) := by
            rw [hδs]
            exact e_ixLp (e_var rfl) (e_var rfl) (at3 q1)
          have hF : E1 (tVar 15) δs (twM K dk D4 ls css es css) (ShF K T.c_Sheet b r cv) (twM K dk D4 ls css es css) := by
            rw [hδs]
            exact e_var rfl
          have hδ := hδs.symm
          refine S1.le (δ' := δs) ?_ (by rw [hδs]; walk_at "le")
          have h0 := right_less gv
          have hA1 : E1 (tCall (sp_add_right K T.c_Sheet T.c_Written) [] E0 (tCons (tOp (rIxL K) (tVar 6) (tVar 12)) tNil)) δs (twM K dk D4 ls css es css) (WrP K T.c_Written b (doCols b cv 0).1 (doCols b cv 0).2) (twM K dk D4 ls css es css) := by
            exact e_add_right (a_cons hT a_nil) hS1 gv
          have hA2 : E1 (tCall (sp_add_right K T.c_Sheet T.c_Written) [] E0 (tCons (tVar 15) tNil)) δs (twM K dk D4 ls css es css) (WrP K T.c_Written b (doCols b cv 0).1 (doCols b cv 0).2) (twM K dk D4 ls css es css) := by
            exact e_add_right (a_cons hF a_nil) sr_F gv
          have hA3 : E1 (tCall (sp_add_with K T.c_Sheet T.c_Written) [] E0 (tCons (tOp (rIxL K) (tVar 6) (tVar 12)) (tCons (tLst tNil) tNil))) δs (twM K dk D4 ls css es css) (WrP K T.c_Written b (doCols b cv 0).1 (doCols b cv 0).2) (twM K dk D4 ls css es css) := by
            exact e_add_with0 (a_cons hT (a_cons (EO.frz (o_lst (K := K) d_nil (by decide))) a_nil)) hS1 gv
          refine s_ifr (a := !true || false) (μ1 := twM K dk D4 ls css es css) (t_or (t_not (t_B (K := K) ((e_wrEq hA1 hA2).cast (by rw [decide_eq_true rfl])))) fun _ => t_test (K := K) ?_) (fun h => by cases h) (fun _ => ?_)
          · have := e_neI (e_wrSub (E := E0) hA1 hT hS1 hbb hbb hlv) (e_cI (K := K) (i := 0))
            rw [h0] at this
            exact this
          refine s_if (a := false) (μ1 := twM K dk D4 ls css es css) (t_test (K := K) ?_) (fun h => by cases h) (fun _ => s_next ⟨rfl, by rw [hδs]; walk_at "le"⟩)
          have := e_neI (e_wrSub (E := E0) hA3 hF (sr_F (μ := twM K dk D4 ls css es css)) hbb hbb hlv) (e_cI (K := K) (i := 0))
          rw [h0] at this
          exact this
        · rintro δ3 _ ⟨rfl, hle⟩
          exact ⟨D4, css, hc3, hok, rfl, hle.trans (by walk_at "le")⟩
    · rintro δ' _ ⟨D2, css, hc3, hok, rfl, _⟩
      exact ⟨D2, css, hc3, hok, rfl⟩
  · rintro δ' _ ⟨D2, css, hc3, hok, rfl⟩
    obtain ⟨c1, hc1⟩ := hend D2 css hc3
    exact s_ret (Q := D K (.bool true)) (e_cB (K := K)) (backY_mk ⟨D2, c1, rfl, rfl⟩ (Imp.refl _) hc1)
theorem y__law_twins_right {δ : En} {μ : Mp} {E : XK} {C : Addr} {dk l : Addr} {D0 : Deck} {b r : Int} {cs : List (List Int)} {rest : Mp} {tA : TA} (h : EA tA δ μ [Av dk, ShI C b r l, D K (.int b), D K (.int r), D K (.list (cs.map colD))] ((dk, DKo D0) :: (l, OL K (cs.map colD)) :: rest)) (hp : GoodSh b r cs ∧ cs.length ≤ 60) :
    EY (tCall (sp__law_twins_right K C) [] E tA) δ μ (fun Q μ' => ∃ (D1 : Deck) (c1 : List (List Int)), Q = D K (.bool true) ∧ μ' = (dk, DKo D1) :: (l, OL K (c1.map colD)) :: rest) :=
  (y_call (A := twA K C) (m := twM0 K) (pre := twPre) (R := twR K) (rest := rest) (dk, D0, l, b, r, cs) h hp).imp fun Q μ' z => by
    obtain ⟨_, ⟨D1, c1, h1, rfl⟩, rfl⟩ := z
    exact ⟨D1, c1, h1, rfl⟩
theorem ok_law (T : Txt K mg) : FnOk P w K mg base CX0 9 T.a_law T.fd_law ["script"] (spec (lawPre K) lawPost) := by
  refine law_Y T.F_law sc_law rfl fun cdv A outer s H E hr => ⟨_, (pss_cons (ps_for PassesOwn.never rfl (pi_list (pe_call (ok__law_cells T) (hr.mono (by decide)) (by rfl) T.m__law_cells T.F__law_cells.kp T.b__law_cells .nil pass0 (pa_cons (pv 0) pa_nil))) (pg_name (i := 1) sc_law.nd rfl (Or.inl rfl)) (pss_cons (ps_set (i := 2) sc_law.nd rfl (Or.inl rfl) (pe_call (ok__law_deck T) (hr.mono (by decide)) (by rfl) T.m__law_deck T.F__law_deck.kp T.b__law_deck .nil pass0 (pa_cons (pv 1) pa_nil))) (pss_cons (ps_set (i := 3) sc_law.nd rfl (Or.inl rfl) (pe_ix (k_ixL (K := K) rfl) (pe_lst (pa_cons (pe_int) (pa_cons (pe_int) (pa_cons (pe_int) (pa_cons (pe_int) pa_nil))))) (pe_call (ok__law_draw T) (hr.mono (by decide)) (by rfl) T.m__law_draw T.F__law_draw.kp T.b__law_draw .nil pass0 (pa_cons (pv 2) (pa_cons (pe_int) pa_nil))) (fun _ _ => rfl))) (pss_cons (ps_set (i := 4) sc_law.nd rfl (Or.inl rfl) (pe_op op_add (pe_int) (pe_call (ok__law_draw T) (hr.mono (by decide)) (by rfl) T.m__law_draw T.F__law_draw.kp T.b__law_draw .nil pass0 (pa_cons (pv 2) (pa_cons (pe_int) pa_nil))))) (pss_cons (ps_set (i := 5) sc_law.nd rfl (Or.inl rfl) (pe_op op_add (pe_int) (pe_call (ok__law_draw T) (hr.mono (by decide)) (by rfl) T.m__law_draw T.F__law_draw.kp T.b__law_draw .nil pass0 (pa_cons (pv 2) (pa_cons (pe_int) pa_nil))))) (pss_cons (ps_set (i := 6) sc_law.nd rfl (Or.inl rfl) (pe_call (ok__law_columns T) (hr.mono (by decide)) (by rfl) T.m__law_columns T.F__law_columns.kp T.b__law_columns .nil pass0 (pa_cons (pv 2) (pa_cons (pv 4) (pa_cons (pv 5) (pa_cons (pe_int) pa_nil)))))) (pss_cons (ps_set (i := 7) sc_law.nd rfl (Or.inl rfl) (pe_make T.k_Sheet (okG_Sheet___init__ T) (hr.mono (by decide)) (by rfl) T.m_Sheet T.b_Sheet___init__ .nil passL (pa_cons (pv 4) (pa_cons (pv 5) (pa_cons (pe_call (ok__law_columns T) (hr.mono (by decide)) (by rfl) T.m__law_columns T.F__law_columns.kp T.b__law_columns .nil pass0 (pa_cons (pv 2) (pa_cons (pv 4) (pa_cons (pv 5) (pa_cons (pe_int) pa_nil))))) pa_nil))))) (pss_cons (ps_set (i := 8) sc_law.nd rfl (Or.inl rfl) (pe_call (ok__law_plan T) (hr.mono (by decide)) (by rfl) T.m__law_plan T.F__law_plan.kp T.b__law_plan .nil pass0 (pa_cons (pv 2) (pa_cons (pv 4) (pa_cons (pv 5) (pa_cons (pv 6) (pa_cons (pv 3) pa_nil))))))) (pss_cons (ps_set (i := 9) sc_law.nd rfl (Or.inl rfl) (pe_call (ok__law_slips T) (hr.mono (by decide)) (by rfl) T.m__law_slips T.F__law_slips.kp T.b__law_slips .nil pass0 (pa_cons (pv 8) pa_nil))) (pss_cons (ps_set (i := 10) sc_law.nd rfl (Or.inl rfl) (pe_make T.k_Sheet (okG_Sheet___init__ T) (hr.mono (by decide)) (by rfl) T.m_Sheet T.b_Sheet___init__ .nil passL (pa_cons (pv 4) (pa_cons (pv 5) (pa_cons (pv 6) pa_nil))))) (pss_cons (ps_if (PW.pt (pw_or (pt_not (pt_val (pe_call (ok__law_behind_right T) (hr.mono (by decide)) (by rfl) T.m__law_behind_right T.F__law_behind_right.kp T.b__law_behind_right .nil pass0 (pa_cons (pv 10) (pa_cons (pv 9) (pa_cons (pv 7) (pa_cons (pv 4) pa_nil))))))) (pw_or1 (pt_not (pt_val (pe_call (ok__law_rows_right T) (hr.mono (by decide)) (by rfl) T.m__law_rows_right T.F__law_rows_right.kp T.b__law_rows_right .nil pass0 (pa_cons (pv 2) (pa_cons (pv 10) (pa_cons (pv 6) (pa_cons (pv 9) pa_nil)))))))))) (pss_one (ps_ret (pe_bl))) (pss_nil)) (pss_cons (ps_if (PW.pt (pw_or (pt_not (pt_val (pe_call (ok__law_sums_right T) (hr.mono (by decide)) (by rfl) T.m__law_sums_right T.F__law_sums_right.kp T.b__law_sums_right .nil pass0 (pa_cons (pv 2) (pa_cons (pv 10) (pa_cons (pv 6) (pa_cons (pv 9) pa_nil))))))) (pw_or1 (pt_not (pt_val (pe_call (ok__law_parts_right T) (hr.mono (by decide)) (by rfl) T.m__law_parts_right T.F__law_parts_right.kp T.b__law_parts_right .nil pass0 (pa_cons (pv 10) (pa_cons (pv 8) (pa_cons (pv 9) pa_nil))))))))) (pss_one (ps_ret (pe_bl))) (pss_nil)) (pss_one (ps_if (pt_not (pt_val (pe_call (ok__law_twins_right T) (hr.mono (by decide)) (by rfl) T.m__law_twins_right T.F__law_twins_right.kp T.b__law_twins_right .nil pass0 (pa_cons (pv 2) (pa_cons (pv 10) (pa_cons (pv 4) (pa_cons (pv 5) (pa_cons (pv 6) pa_nil)))))))) (pss_one (ps_ret (pe_bl))) (pss_nil))))))))))))))) (pss_one (ps_ret (pe_bl)))), ?_⟩
  intro ns hns
  show S1 E _ [some (D K (.list (ns.map .int))), none, none, none, none, none, none, none, none, none, none] [] { nx := fun _ _ => False, rt := fun Q _ => Q = D K (.bool true) }
  try simp only [cx_K, cx_KX]
  refine s_seq (N := fun _ _ => True) (s_for (fun i δ μ => Le δ [some (D K (.list (ns.map .int))), none, none, none, none, none, none, none, none, none, none]) (i_list (μ' := []) (by exact e_cells (by walk_at "ea") hns)) ?_ ?_ ?_) ?_
  · walk_at "le"
  · rintro i δ' μ' hi hle
    rw [List.length_map] at hi
    refine ⟨_, [1], G1.le (by rw [getD_map (x := (cellsOf ns)[i]) (List.getElem?_eq_getElem hi)]; exact g_name) hle, ?_⟩
    refine s_less (μ' := []) (List.nil_sublist _) ?_
    generalize (cellsOf ns)[i] = c
    refine s_letY (y_deck (by walk_at "ea")) ?_
    rintro _ _ ⟨dk, rfl, rfl⟩
    generalize deckOf c = Dk
    have w0 : 0 ≤ dv Dk 4 := dv_lo (by decide)
    have w1 : dv Dk 4 < 4 := dv_hi (by decide)
    have w2 : 0 ≤ dv Dk 4 ∧ dv Dk 4 < (([1, 2, 4, 9] : List Int).length : Int) := ⟨w0, w1⟩
    refine s_let (Q := D K (.int (([1, 2, 4, 9] : List Int).getD (dv Dk 4).toNat 0))) (μ1 := [(dk, DKo (dn Dk 4))]) (e_ixLI (P1 := D K (.list (([1, 2, 4, 9] : List Int).map .int))) (EO.frz (o_lst (K := K) (d_cons e_cI (d_cons e_cI (d_cons e_cI (d_cons e_cI d_nil)))) (by show 4 ≤ 100000; decide))) (by walk_at "ev") lr_D w2) ?_
    have hn : 0 < ([1, 2, 4, 9] : List Int).getD (dv Dk 4).toNat 0 ∧ ([1, 2, 4, 9] : List Int).getD (dv Dk 4).toNat 0 < 2 ^ 200 := by
      have : dv Dk 4 = 0 ∨ dv Dk 4 = 1 ∨ dv Dk 4 = 2 ∨ dv Dk 4 = 3 := by omega
      rcases this with h | h | h | h <;> rw [h] <;> decide
    generalize ([1, 2, 4, 9] : List Int).getD (dv Dk 4).toNat 0 = n at hn ⊢
    clear w0 w1 w2
    generalize dn Dk 4 = Dk
    have b0 : 0 ≤ dv Dk 11 := dv_lo (by decide)
    have b1 : dv Dk 11 < 11 := dv_hi (by decide)
    walk_at "let"
    generalize hb : (2 : Int) + dv Dk 11 = b
    generalize dn Dk 11 = Dk
    have r0 : 0 ≤ dv Dk 4 := dv_lo (by decide)
    have r1 : dv Dk 4 < 4 := dv_hi (by decide)
    walk_at "let"
    generalize hr' : (1 : Int) + dv Dk 4 = r
    generalize dn Dk 4 = Dk
    have hb2 : 2 ≤ b ∧ b ≤ 12 := by omega
    have hr4 : 1 ≤ r ∧ r ≤ 4 := by omega
    clear hb hr' b0 b1 r0 r1
    walk_at "Let"
    have hgood := colsOf_good (D := Dk) (b := b) (r := r) (most := 30) (by omega) (by omega)
    have hlen := colsOf_len (D := Dk) (b := b) (r := r) (most := 30) (by decide)
    generalize colsEnd Dk b r 30 = Dk2
    generalize colsOf Dk b r 30 = cs at hgood hlen ⊢
    have hl60 : cs.length ≤ 60 := by omega
    have g : GoodSh b r cs := ⟨hb2.1, hb2.2, hr4.1, hr4.2, by omega, hgood⟩
    clear hgood hlen
    have hgood := colsOf_good (D := Dk2) (b := b) (r := r) (most := 30) (by omega) (by omega)
    have hlen := colsOf_len (D := Dk2) (b := b) (r := r) (most := 30) (by decide)
    have g2 : GoodSh b r (colsOf Dk2 b r 30) := ⟨hb2.1, hb2.2, hr4.1, hr4.2, by omega, hgood⟩
    refine s_let (Q := ShF K T.c_Sheet b r (colsOf Dk2 b r 30)) (μ1 := [(dk, DKo (colsEnd Dk2 b r 30))]) (EY.frzNew (y_mkSh (by walk_at "ev") (by walk_at "ev") (by walk_at "ev") lr_D g2)) ?_
    have hl2 : (colsOf Dk2 b r 30).length ≤ 60 := by omega
    generalize colsEnd Dk2 b r 30 = Dk3
    generalize colsOf Dk2 b r 30 = cn at g2 hl2 ⊢
    clear hgood hlen
    have hpre : GoodSh b r cs ∧ (0 < n ∧ n < 2 ^ 200) := ⟨g, hn⟩
    walk_at "Let"
    obtain ⟨F, ca, hF, hA⟩ := plan_add (n := n) (D := Dk3) g
    obtain ⟨hpl, _, hpd⟩ := planS_ok (n := n) (D := Dk3) g cs.length (Nat.le_refl _)
    generalize (planS b r n cs Dk3 cs.length).2.2 = Dk4
    generalize (planS b r n cs Dk3 cs.length).1 = ds at hF hA hpl hpd ⊢
    have hds : ds.length ≤ 10000 := by omega
    walk_at "Let"
    have hso : (slipsOf ds).length ≤ 10000 := by
      have := slipsOf_len ds
      omega
    have hs2 : ∀ s ∈ slipsOf ds, ds[s.1.toNat]? = some s.2 ∧ s.2 ∈ allDeeds b r := fun s hs => by
      unfold slipsOf at hs
      obtain ⟨i, hi, rfl⟩ := List.mem_map.mp hs
      rw [List.mem_filter, List.mem_range] at hi
      have hm := dAt_mem hi.1
      have hne : ¬ dAt ds i = .right := by simpa using hi.2
      refine ⟨?_, (hpd _ hm).resolve_left hne⟩
      show ds[((i : Int)).toNat]? = some (dAt ds i)
      rw [Int.toNat_natCast]
      unfold dAt
      rw [List.getD_eq_getElem?_getD, List.getElem?_eq_getElem hi.1]
      rfl
    generalize slipsOf ds = sl at hA hso hs2 ⊢
    clear hF hpd
    refine s_letY (y_mkSh (by walk_at "ev") (by walk_at "ev") (by walk_at "ev") lr_D g) ?_
    rintro _ _ ⟨l, rfl, rfl⟩
    simp only [List.cons_append, List.nil_append]
    simp only [List.set_cons_succ, List.set_cons_zero]
    have hR : GoodSh b r cs ∧ cs.length ≤ 60 ∧ sl.length ≤ 10000 ∧ addV b r cs sl 0 0 = some (F, ca) ∧ (∀ s ∈ sl, s.2 ∈ allDeeds b r) := ⟨g, hl60, hso, hA, fun s hs => (hs2 s hs).2⟩
    refine sY_ifr (N := fun bb μ' => bb = false ∧ ∃ Dn : Deck, μ' = [(dk, DKo Dn), (l, OL K (cs.map colD))]) (ty_or (N1 := fun bb μ' => bb = false ∧ μ' = [(dk, DKo Dk4), (l, OL K (cs.map colD))]) (ty_1 (a := !true) (μ1 := [(dk, DKo Dk4), (l, OL K (cs.map colD))]) (t_not (t_B (K := K) (by exact e__law_behind_right (cs := cs) (cn := cn) (sl := sl) (ww := (F, ca)) (by walk_at "ea") (sr_O 1 rfl) sr_F ⟨g, hl60, g2, hl2, hso, hA⟩))) ⟨rfl, rfl⟩) ?_ fun _ h => by cases h.1) (fun _ h => by cases h.1) ?_
    · rintro _ ⟨_, rfl⟩
      refine ty_not (ty_B (K := K) (y__law_rows_right (rest := []) (ww := (F, ca)) (by walk_at "ea") hR) ?_)
      rintro _ _ ⟨D5, rfl, rfl⟩
      exact ⟨true, rfl, rfl, D5, rfl⟩
    rintro _ ⟨_, D5, rfl⟩
    refine sY_ifr (N := fun bb μ' => bb = false ∧ ∃ Dn : Deck, μ' = [(dk, DKo Dn), (l, OL K (cs.map colD))]) (ty_or (N1 := fun bb μ' => bb = false ∧ ∃ Dn : Deck, μ' = [(dk, DKo Dn), (l, OL K (cs.map colD))]) (ty_not (ty_B (K := K) (y__law_sums_right (rest := []) (ww := (F, ca)) (by walk_at "ea") hR) ?_)) ?_ fun _ h => by cases h.1) (fun _ h => by cases h.1) ?_
    · rintro _ _ ⟨D6, rfl, rfl⟩
      exact ⟨true, rfl, rfl, D6, rfl⟩
    · rintro _ ⟨_, D6, rfl⟩
      exact ty_1 (a := !true) (μ1 := [(dk, DKo D6), (l, OL K (cs.map colD))]) (t_not (t_B (K := K) (by exact e__law_parts_right (cs := cs) (ds := ds) (sl := sl) (ww := (F, ca)) (by walk_at "ea") (sr_O 1 rfl) ⟨g, hl60, hpl, hso, hA, fun s hs => (hs2 s hs).1⟩))) ⟨rfl, D6, rfl⟩
    rintro _ ⟨_, D6, rfl⟩
    refine sY_if (N := fun bb μ' => bb = false) (ty_not (ty_B (K := K) (y__law_twins_right (rest := []) (by walk_at "ea") ⟨g, hl60⟩) ?_)) (fun _ h => by cases h) (fun _ _ => s_next (by walk_at "le"))
    rintro _ _ ⟨D7, c1, rfl, rfl⟩
    exact ⟨true, rfl, rfl⟩
  · rintro _ _ _
    trivial
  · rintro δ' μ' _
    exact s_ret (e_cB (K := K)) rfl
end
def txt_mk {K : PySem.W.Frag} {h : Heap} {mg : Str → Option Value} (X : K.In h) (G : h.Ns mainGlobals mg) {c_Sheet : Addr} {c_Written : Addr} {c_InvalidSheet : Addr} {c_InvalidColumn : Addr} {c_NotAlike : Addr} {a_is_whole : Addr} {oc_is_whole kV_is_whole dc_is_whole pm_is_whole cd_is_whole ct_is_whole : Value} {od_is_whole an_is_whole : Option Addr} {sl_is_whole : Array (Option Value)} {a_is_column : Addr} {oc_is_column kV_is_column dc_is_column pm_is_column cd_is_column ct_is_column : Value} {od_is_column an_is_column : Option Addr} {sl_is_column : Array (Option Value)} {a__are_columns : Addr} {oc__are_columns kV__are_columns dc__are_columns pm__are_columns cd__are_columns ct__are_columns : Value} {od__are_columns an__are_columns : Option Addr} {sl__are_columns : Array (Option Value)} {a_is_base : Addr} {oc_is_base kV_is_base dc_is_base pm_is_base cd_is_base ct_is_base : Value} {od_is_base an_is_base : Option Addr} {sl_is_base : Array (Option Value)} {a_is_rows : Addr} {oc_is_rows kV_is_rows dc_is_rows pm_is_rows cd_is_rows ct_is_rows : Value} {od_is_rows an_is_rows : Option Addr} {sl_is_rows : Array (Option Value)} {a_Sheet___init__ : Addr} {oc_Sheet___init__ kV_Sheet___init__ dc_Sheet___init__ pm_Sheet___init__ cd_Sheet___init__ ct_Sheet___init__ : Value} {od_Sheet___init__ an_Sheet___init__ : Option Addr} {sl_Sheet___init__ : Array (Option Value)} {a_Sheet_base : Addr} {oc_Sheet_base kV_Sheet_base dc_Sheet_base pm_Sheet_base cd_Sheet_base ct_Sheet_base : Value} {od_Sheet_base an_Sheet_base : Option Addr} {sl_Sheet_base : Array (Option Value)} {pa_Sheet_base : Addr} {re_Sheet_base : List Value} {a_Sheet_rows : Addr} {oc_Sheet_rows kV_Sheet_rows dc_Sheet_rows pm_Sheet_rows cd_Sheet_rows ct_Sheet_rows : Value} {od_Sheet_rows an_Sheet_rows : Option Addr} {sl_Sheet_rows : Array (Option Value)} {pa_Sheet_rows : Addr} {re_Sheet_rows : List Value} {a_check_alike : Addr} {oc_check_alike kV_check_alike dc_check_alike pm_check_alike cd_check_alike ct_check_alike : Value} {od_check_alike an_check_alike : Option Addr} {sl_check_alike : Array (Option Value)} {a_Sheet___add__ : Addr} {oc_Sheet___add__ kV_Sheet___add__ dc_Sheet___add__ pm_Sheet___add__ cd_Sheet___add__ ct_Sheet___add__ : Value} {od_Sheet___add__ an_Sheet___add__ : Option Addr} {sl_Sheet___add__ : Array (Option Value)} {a_Sheet___len__ : Addr} {oc_Sheet___len__ kV_Sheet___len__ dc_Sheet___len__ pm_Sheet___len__ cd_Sheet___len__ ct_Sheet___len__ : Value} {od_Sheet___len__ an_Sheet___len__ : Option Addr} {sl_Sheet___len__ : Array (Option Value)} {a_place_value : Addr} {oc_place_value kV_place_value dc_place_value pm_place_value cd_place_value ct_place_value : Value} {od_place_value an_place_value : Option Addr} {sl_place_value : Array (Option Value)} {a_Sheet_value : Addr} {oc_Sheet_value kV_Sheet_value dc_Sheet_value pm_Sheet_value cd_Sheet_value ct_Sheet_value : Value} {od_Sheet_value an_Sheet_value : Option Addr} {sl_Sheet_value : Array (Option Value)} {pa_Sheet_value : Addr} {re_Sheet_value : List Value} {a_Written_value : Addr} {oc_Written_value kV_Written_value dc_Written_value pm_Written_value cd_Written_value ct_Written_value : Value} {od_Written_value an_Written_value : Option Addr} {sl_Written_value : Array (Option Value)} {pa_Written_value : Addr} {re_Written_value : List Value} {a_Written___sub__ : Addr} {oc_Written___sub__ kV_Written___sub__ dc_Written___sub__ pm_Written___sub__ cd_Written___sub__ ct_Written___sub__ : Value} {od_Written___sub__ an_Written___sub__ : Option Addr} {sl_Written___sub__ : Array (Option Value)} {a_Written_figures : Addr} {oc_Written_figures kV_Written_figures dc_Written_figures pm_Written_figures cd_Written_figures ct_Written_figures : Value} {od_Written_figures an_Written_figures : Option Addr} {sl_Written_figures : Array (Option Value)} {pa_Written_figures : Addr} {re_Written_figures : List Value} {a__law_power : Addr} {oc__law_power kV__law_power dc__law_power pm__law_power cd__law_power ct__law_power : Value} {od__law_power an__law_power : Option Addr} {sl__law_power : Array (Option Value)} {a_Sheet_columns : Addr} {oc_Sheet_columns kV_Sheet_columns dc_Sheet_columns pm_Sheet_columns cd_Sheet_columns ct_Sheet_columns : Value} {od_Sheet_columns an_Sheet_columns : Option Addr} {sl_Sheet_columns : Array (Option Value)} {pa_Sheet_columns : Addr} {re_Sheet_columns : List Value} {a_Written___init__ : Addr} {oc_Written___init__ kV_Written___init__ dc_Written___init__ pm_Written___init__ cd_Written___init__ ct_Written___init__ : Value} {od_Written___init__ an_Written___init__ : Option Addr} {sl_Written___init__ : Array (Option Value)} {a_do_sum : Addr} {oc_do_sum kV_do_sum dc_do_sum pm_do_sum cd_do_sum ct_do_sum : Value} {od_do_sum an_do_sum : Option Addr} {sl_do_sum : Array (Option Value)} {a_do_columns : Addr} {oc_do_columns kV_do_columns dc_do_columns pm_do_columns cd_do_columns ct_do_columns : Value} {od_do_columns an_do_columns : Option Addr} {sl_do_columns : Array (Option Value)} {a_sum_taken : Addr} {oc_sum_taken kV_sum_taken dc_sum_taken pm_sum_taken cd_sum_taken ct_sum_taken : Value} {od_sum_taken an_sum_taken : Option Addr} {sl_sum_taken : Array (Option Value)} {a_do_slip : Addr} {oc_do_slip kV_do_slip dc_do_slip pm_do_slip cd_do_slip ct_do_slip : Value} {od_do_slip an_do_slip : Option Addr} {sl_do_slip : Array (Option Value)} {a__is_plain : Addr} {oc__is_plain kV__is_plain dc__is_plain pm__is_plain cd__is_plain ct__is_plain : Value} {od__is_plain an__is_plain : Option Addr} {sl__is_plain : Array (Option Value)} {a_deeds_of : Addr} {oc_deeds_of kV_deeds_of dc_deeds_of pm_deeds_of cd_deeds_of ct_deeds_of : Value} {od_deeds_of an_deeds_of : Option Addr} {sl_deeds_of : Array (Option Value)} {a_is_deed : Addr} {oc_is_deed kV_is_deed dc_is_deed pm_is_deed cd_is_deed ct_is_deed : Value} {od_is_deed an_is_deed : Option Addr} {sl_is_deed : Array (Option Value)} {a_is_slip : Addr} {oc_is_slip kV_is_slip dc_is_slip pm_is_slip cd_is_slip ct_is_slip : Value} {od_is_slip an_is_slip : Option Addr} {sl_is_slip : Array (Option Value)} {a_add_with : Addr} {oc_add_with kV_add_with dc_add_with pm_add_with cd_add_with ct_add_with : Value} {od_add_with an_add_with : Option Addr} {sl_add_with : Array (Option Value)} {a__law_behind_right : Addr} {oc__law_behind_right kV__law_behind_right dc__law_behind_right pm__law_behind_right cd__law_behind_right ct__law_behind_right : Value} {od__law_behind_right an__law_behind_right : Option Addr} {sl__law_behind_right : Array (Option Value)} {a__law_cells : Addr} {oc__law_cells kV__law_cells dc__law_cells pm__law_cells cd__law_cells ct__law_cells : Value} {od__law_cells an__law_cells : Option Addr} {sl__law_cells : Array (Option Value)} {a__law_draw : Addr} {oc__law_draw kV__law_draw dc__law_draw pm__law_draw cd__law_draw ct__law_draw : Value} {od__law_draw an__law_draw : Option Addr} {sl__law_draw : Array (Option Value)} {a__law_column : Addr} {oc__law_column kV__law_column dc__law_column pm__law_column cd__law_column ct__law_column : Value} {od__law_column an__law_column : Option Addr} {sl__law_column : Array (Option Value)} {a__law_columns : Addr} {oc__law_columns kV__law_columns dc__law_columns pm__law_columns cd__law_columns ct__law_columns : Value} {od__law_columns an__law_columns : Option Addr} {sl__law_columns : Array (Option Value)} {a__law_deck : Addr} {oc__law_deck kV__law_deck dc__law_deck pm__law_deck cd__law_deck ct__law_deck : Value} {od__law_deck an__law_deck : Option Addr} {sl__law_deck : Array (Option Value)} {a_Sheet_cut : Addr} {oc_Sheet_cut kV_Sheet_cut dc_Sheet_cut pm_Sheet_cut cd_Sheet_cut ct_Sheet_cut : Value} {od_Sheet_cut an_Sheet_cut : Option Addr} {sl_Sheet_cut : Array (Option Value)} {a__law_parts_right : Addr} {oc__law_parts_right kV__law_parts_right dc__law_parts_right pm__law_parts_right cd__law_parts_right ct__law_parts_right : Value} {od__law_parts_right an__law_parts_right : Option Addr} {sl__law_parts_right : Array (Option Value)} {a__law_deed : Addr} {oc__law_deed kV__law_deed dc__law_deed pm__law_deed cd__law_deed ct__law_deed : Value} {od__law_deed an__law_deed : Option Addr} {sl__law_deed : Array (Option Value)} {a__law_taken : Addr} {oc__law_taken kV__law_taken dc__law_taken pm__law_taken cd__law_taken ct__law_taken : Value} {od__law_taken an__law_taken : Option Addr} {sl__law_taken : Array (Option Value)} {a__law_step : Addr} {oc__law_step kV__law_step dc__law_step pm__law_step cd__law_step ct__law_step : Value} {od__law_step an__law_step : Option Addr} {sl__law_step : Array (Option Value)} {a__law_plan : Addr} {oc__law_plan kV__law_plan dc__law_plan pm__law_plan cd__law_plan ct__law_plan : Value} {od__law_plan an__law_plan : Option Addr} {sl__law_plan : Array (Option Value)} {a_Written___eq__ : Addr} {oc_Written___eq__ kV_Written___eq__ dc_Written___eq__ pm_Written___eq__ cd_Written___eq__ ct_Written___eq__ : Value} {od_Written___eq__ an_Written___eq__ : Option Addr} {sl_Written___eq__ : Array (Option Value)} {a__law_deed_in : Addr} {oc__law_deed_in kV__law_deed_in dc__law_deed_in pm__law_deed_in cd__law_deed_in ct__law_deed_in : Value} {od__law_deed_in an__law_deed_in : Option Addr} {sl__law_deed_in : Array (Option Value)} {a__law_rows_order : Addr} {oc__law_rows_order kV__law_rows_order dc__law_rows_order pm__law_rows_order cd__law_rows_order ct__law_rows_order : Value} {od__law_rows_order an__law_rows_order : Option Addr} {sl__law_rows_order : Array (Option Value)} {a__law_rows_right : Addr} {oc__law_rows_right kV__law_rows_right dc__law_rows_right pm__law_rows_right cd__law_rows_right ct__law_rows_right : Value} {od__law_rows_right an__law_rows_right : Option Addr} {sl__law_rows_right : Array (Option Value)} {a__law_slips : Addr} {oc__law_slips kV__law_slips dc__law_slips pm__law_slips cd__law_slips ct__law_slips : Value} {od__law_slips an__law_slips : Option Addr} {sl__law_slips : Array (Option Value)} {a__law_moved : Addr} {oc__law_moved kV__law_moved dc__law_moved pm__law_moved cd__law_moved ct__law_moved : Value} {od__law_moved an__law_moved : Option Addr} {sl__law_moved : Array (Option Value)} {a__law_sums_right : Addr} {oc__law_sums_right kV__law_sums_right dc__law_sums_right pm__law_sums_right cd__law_sums_right ct__law_sums_right : Value} {od__law_sums_right an__law_sums_right : Option Addr} {sl__law_sums_right : Array (Option Value)} {a_Sheet___setitem__ : Addr} {oc_Sheet___setitem__ kV_Sheet___setitem__ dc_Sheet___setitem__ pm_Sheet___setitem__ cd_Sheet___setitem__ ct_Sheet___setitem__ : Value} {od_Sheet___setitem__ an_Sheet___setitem__ : Option Addr} {sl_Sheet___setitem__ : Array (Option Value)} {a_add_right : Addr} {oc_add_right kV_add_right dc_add_right pm_add_right cd_add_right ct_add_right : Value} {od_add_right an_add_right : Option Addr} {sl_add_right : Array (Option Value)} {a__law_twins_right : Addr} {oc__law_twins_right kV__law_twins_right dc__law_twins_right pm__law_twins_right cd__law_twins_right ct__law_twins_right : Value} {od__law_twins_right an__law_twins_right : Option Addr} {sl__law_twins_right : Array (Option Value)} {a_law : Addr} {oc_law kV_law dc_law pm_law cd_law ct_law : Value} {od_law an_law : Option Addr} {sl_law : Array (Option Value)} {cd_of_Sheet : ClassData} {tk_MOST_BASE : Tok} {tk_MOST_ROWS : Tok}
    (ac_Sheet : PySem.W.nsIn K mainGlobals "Sheet" = some (some (.ref c_Sheet)))
    (ac_Written : PySem.W.nsIn K mainGlobals "Written" = some (some (.ref c_Written)))
    (ac_InvalidSheet : PySem.W.nsIn K mainGlobals "InvalidSheet" = some (some (.ref c_InvalidSheet)))
    (ac_InvalidColumn : PySem.W.nsIn K mainGlobals "InvalidColumn" = some (some (.ref c_InvalidColumn)))
    (ac_NotAlike : PySem.W.nsIn K mainGlobals "NotAlike" = some (some (.ref c_NotAlike)))
    (af_is_whole : PySem.W.nsIn K mainGlobals "is_whole" = some (some (.ref a_is_whole)))
    (lf_is_whole : K.lookup a_is_whole = some ⟨oc_is_whole, od_is_whole, .func (PySem.W.fnOf "is_whole" "is_whole" (defArgs s_is_whole) (defBody s_is_whole) (defScope s_is_whole) .none kV_is_whole dc_is_whole pm_is_whole an_is_whole cd_is_whole ct_is_whole), sl_is_whole⟩)
    (cf_is_whole : PySem.W.codeIn K cd_is_whole "is_whole" = true)
    (kf_is_whole : PySem.W.keepIn K (.ref a_is_whole) = true)
    (af_is_column : PySem.W.nsIn K mainGlobals "is_column" = some (some (.ref a_is_column)))
    (lf_is_column : K.lookup a_is_column = some ⟨oc_is_column, od_is_column, .func (PySem.W.fnOf "is_column" "is_column" (defArgs s_is_column) (defBody s_is_column) (defScope s_is_column) .none kV_is_column dc_is_column pm_is_column an_is_column cd_is_column ct_is_column), sl_is_column⟩)
    (cf_is_column : PySem.W.codeIn K cd_is_column "is_column" = true)
    (kf_is_column : PySem.W.keepIn K (.ref a_is_column) = true)
    (af__are_columns : PySem.W.nsIn K mainGlobals "_are_columns" = some (some (.ref a__are_columns)))
    (lf__are_columns : K.lookup a__are_columns = some ⟨oc__are_columns, od__are_columns, .func (PySem.W.fnOf "_are_columns" "_are_columns" (defArgs s__are_columns) (defBody s__are_columns) (defScope s__are_columns) .none kV__are_columns dc__are_columns pm__are_columns an__are_columns cd__are_columns ct__are_columns), sl__are_columns⟩)
    (cf__are_columns : PySem.W.codeIn K cd__are_columns "_are_columns" = true)
    (kf__are_columns : PySem.W.keepIn K (.ref a__are_columns) = true)
    (af_is_base : PySem.W.nsIn K mainGlobals "is_base" = some (some (.ref a_is_base)))
    (lf_is_base : K.lookup a_is_base = some ⟨oc_is_base, od_is_base, .func (PySem.W.fnOf "is_base" "is_base" (defArgs s_is_base) (defBody s_is_base) (defScope s_is_base) .none kV_is_base dc_is_base pm_is_base an_is_base cd_is_base ct_is_base), sl_is_base⟩)
    (cf_is_base : PySem.W.codeIn K cd_is_base "is_base" = true)
    (kf_is_base : PySem.W.keepIn K (.ref a_is_base) = true)
    (af_is_rows : PySem.W.nsIn K mainGlobals "is_rows" = some (some (.ref a_is_rows)))
    (lf_is_rows : K.lookup a_is_rows = some ⟨oc_is_rows, od_is_rows, .func (PySem.W.fnOf "is_rows" "is_rows" (defArgs s_is_rows) (defBody s_is_rows) (defScope s_is_rows) .none kV_is_rows dc_is_rows pm_is_rows an_is_rows cd_is_rows ct_is_rows), sl_is_rows⟩)
    (cf_is_rows : PySem.W.codeIn K cd_is_rows "is_rows" = true)
    (kf_is_rows : PySem.W.keepIn K (.ref a_is_rows) = true)
    (af_Sheet___init__ : PySem.W.findIn K (.ref c_Sheet) "__init__" = some (some (.ref a_Sheet___init__)))
    (if_Sheet___init__ : PySem.W.isFn K (.ref a_Sheet___init__) = true)
    (lf_Sheet___init__ : K.lookup a_Sheet___init__ = some ⟨oc_Sheet___init__, od_Sheet___init__, .func (PySem.W.fnOf "__init__" "Sheet.__init__" (defArgs s_Sheet___init__) (defBody s_Sheet___init__) (defScope s_Sheet___init__) .none kV_Sheet___init__ dc_Sheet___init__ pm_Sheet___init__ an_Sheet___init__ cd_Sheet___init__ ct_Sheet___init__), sl_Sheet___init__⟩)
    (cf_Sheet___init__ : PySem.W.codeIn K cd_Sheet___init__ "Sheet.__init__" = true)
    (kf_Sheet___init__ : PySem.W.keepIn K (.ref a_Sheet___init__) = true)
    (pf_Sheet_base : PySem.W.findIn K (.ref c_Sheet) "base" = some (some (.ref pa_Sheet_base)))
    (pg_Sheet_base : PySem.W.specialIn K (.ref pa_Sheet_base) "__get__" = some (some (.builtin "property.__get__")))
    (pt_Sheet_base : PySem.W.takesIn K (.ref pa_Sheet_base) = some true)
    (pr_Sheet_base : PySem.W.recIn K pa_Sheet_base "property" = some (.ref a_Sheet_base :: re_Sheet_base))
    (lf_Sheet_base : K.lookup a_Sheet_base = some ⟨oc_Sheet_base, od_Sheet_base, .func (PySem.W.fnOf "base" "Sheet.base" (defArgs s_Sheet_base) (defBody s_Sheet_base) (defScope s_Sheet_base) .none kV_Sheet_base dc_Sheet_base pm_Sheet_base an_Sheet_base cd_Sheet_base ct_Sheet_base), sl_Sheet_base⟩)
    (cf_Sheet_base : PySem.W.codeIn K cd_Sheet_base "Sheet.base" = true)
    (kf_Sheet_base : PySem.W.keepIn K (.ref a_Sheet_base) = true)
    (pf_Sheet_rows : PySem.W.findIn K (.ref c_Sheet) "rows" = some (some (.ref pa_Sheet_rows)))
    (pg_Sheet_rows : PySem.W.specialIn K (.ref pa_Sheet_rows) "__get__" = some (some (.builtin "property.__get__")))
    (pt_Sheet_rows : PySem.W.takesIn K (.ref pa_Sheet_rows) = some true)
    (pr_Sheet_rows : PySem.W.recIn K pa_Sheet_rows "property" = some (.ref a_Sheet_rows :: re_Sheet_rows))
    (lf_Sheet_rows : K.lookup a_Sheet_rows = some ⟨oc_Sheet_rows, od_Sheet_rows, .func (PySem.W.fnOf "rows" "Sheet.rows" (defArgs s_Sheet_rows) (defBody s_Sheet_rows) (defScope s_Sheet_rows) .none kV_Sheet_rows dc_Sheet_rows pm_Sheet_rows an_Sheet_rows cd_Sheet_rows ct_Sheet_rows), sl_Sheet_rows⟩)
    (cf_Sheet_rows : PySem.W.codeIn K cd_Sheet_rows "Sheet.rows" = true)
    (kf_Sheet_rows : PySem.W.keepIn K (.ref a_Sheet_rows) = true)
    (af_check_alike : PySem.W.nsIn K mainGlobals "check_alike" = some (some (.ref a_check_alike)))
    (lf_check_alike : K.lookup a_check_alike = some ⟨oc_check_alike, od_check_alike, .func (PySem.W.fnOf "check_alike" "check_alike" (defArgs s_check_alike) (defBody s_check_alike) (defScope s_check_alike) .none kV_check_alike dc_check_alike pm_check_alike an_check_alike cd_check_alike ct_check_alike), sl_check_alike⟩)
    (cf_check_alike : PySem.W.codeIn K cd_check_alike "check_alike" = true)
    (kf_check_alike : PySem.W.keepIn K (.ref a_check_alike) = true)
    (af_Sheet___add__ : PySem.W.findIn K (.ref c_Sheet) "__add__" = some (some (.ref a_Sheet___add__)))
    (if_Sheet___add__ : PySem.W.isFn K (.ref a_Sheet___add__) = true)
    (lf_Sheet___add__ : K.lookup a_Sheet___add__ = some ⟨oc_Sheet___add__, od_Sheet___add__, .func (PySem.W.fnOf "__add__" "Sheet.__add__" (defArgs s_Sheet___add__) (defBody s_Sheet___add__) (defScope s_Sheet___add__) .none kV_Sheet___add__ dc_Sheet___add__ pm_Sheet___add__ an_Sheet___add__ cd_Sheet___add__ ct_Sheet___add__), sl_Sheet___add__⟩)
    (cf_Sheet___add__ : PySem.W.codeIn K cd_Sheet___add__ "Sheet.__add__" = true)
    (kf_Sheet___add__ : PySem.W.keepIn K (.ref a_Sheet___add__) = true)
    (af_Sheet___len__ : PySem.W.findIn K (.ref c_Sheet) "__len__" = some (some (.ref a_Sheet___len__)))
    (if_Sheet___len__ : PySem.W.isFn K (.ref a_Sheet___len__) = true)
    (lf_Sheet___len__ : K.lookup a_Sheet___len__ = some ⟨oc_Sheet___len__, od_Sheet___len__, .func (PySem.W.fnOf "__len__" "Sheet.__len__" (defArgs s_Sheet___len__) (defBody s_Sheet___len__) (defScope s_Sheet___len__) .none kV_Sheet___len__ dc_Sheet___len__ pm_Sheet___len__ an_Sheet___len__ cd_Sheet___len__ ct_Sheet___len__), sl_Sheet___len__⟩)
    (cf_Sheet___len__ : PySem.W.codeIn K cd_Sheet___len__ "Sheet.__len__" = true)
    (kf_Sheet___len__ : PySem.W.keepIn K (.ref a_Sheet___len__) = true)
    (af_place_value : PySem.W.nsIn K mainGlobals "place_value" = some (some (.ref a_place_value)))
    (lf_place_value : K.lookup a_place_value = some ⟨oc_place_value, od_place_value, .func (PySem.W.fnOf "place_value" "place_value" (defArgs s_place_value) (defBody s_place_value) (defScope s_place_value) .none kV_place_value dc_place_value pm_place_value an_place_value cd_place_value ct_place_value), sl_place_value⟩)
    (cf_place_value : PySem.W.codeIn K cd_place_value "place_value" = true)
    (kf_place_value : PySem.W.keepIn K (.ref a_place_value) = true)
    (pf_Sheet_value : PySem.W.findIn K (.ref c_Sheet) "value" = some (some (.ref pa_Sheet_value)))
    (pg_Sheet_value : PySem.W.specialIn K (.ref pa_Sheet_value) "__get__" = some (some (.builtin "property.__get__")))
    (pt_Sheet_value : PySem.W.takesIn K (.ref pa_Sheet_value) = some true)
    (pr_Sheet_value : PySem.W.recIn K pa_Sheet_value "property" = some (.ref a_Sheet_value :: re_Sheet_value))
    (lf_Sheet_value : K.lookup a_Sheet_value = some ⟨oc_Sheet_value, od_Sheet_value, .func (PySem.W.fnOf "value" "Sheet.value" (defArgs s_Sheet_value) (defBody s_Sheet_value) (defScope s_Sheet_value) .none kV_Sheet_value dc_Sheet_value pm_Sheet_value an_Sheet_value cd_Sheet_value ct_Sheet_value), sl_Sheet_value⟩)
    (cf_Sheet_value : PySem.W.codeIn K cd_Sheet_value "Sheet.value" = true)
    (kf_Sheet_value : PySem.W.keepIn K (.ref a_Sheet_value) = true)
    (pf_Written_value : PySem.W.findIn K (.ref c_Written) "value" = some (some (.ref pa_Written_value)))
    (pg_Written_value : PySem.W.specialIn K (.ref pa_Written_value) "__get__" = some (some (.builtin "property.__get__")))
    (pt_Written_value : PySem.W.takesIn K (.ref pa_Written_value) = some true)
    (pr_Written_value : PySem.W.recIn K pa_Written_value "property" = some (.ref a_Written_value :: re_Written_value))
    (lf_Written_value : K.lookup a_Written_value = some ⟨oc_Written_value, od_Written_value, .func (PySem.W.fnOf "value" "Written.value" (defArgs s_Written_value) (defBody s_Written_value) (defScope s_Written_value) .none kV_Written_value dc_Written_value pm_Written_value an_Written_value cd_Written_value ct_Written_value), sl_Written_value⟩)
    (cf_Written_value : PySem.W.codeIn K cd_Written_value "Written.value" = true)
    (kf_Written_value : PySem.W.keepIn K (.ref a_Written_value) = true)
    (af_Written___sub__ : PySem.W.findIn K (.ref c_Written) "__sub__" = some (some (.ref a_Written___sub__)))
    (if_Written___sub__ : PySem.W.isFn K (.ref a_Written___sub__) = true)
    (lf_Written___sub__ : K.lookup a_Written___sub__ = some ⟨oc_Written___sub__, od_Written___sub__, .func (PySem.W.fnOf "__sub__" "Written.__sub__" (defArgs s_Written___sub__) (defBody s_Written___sub__) (defScope s_Written___sub__) .none kV_Written___sub__ dc_Written___sub__ pm_Written___sub__ an_Written___sub__ cd_Written___sub__ ct_Written___sub__), sl_Written___sub__⟩)
    (cf_Written___sub__ : PySem.W.codeIn K cd_Written___sub__ "Written.__sub__" = true)
    (kf_Written___sub__ : PySem.W.keepIn K (.ref a_Written___sub__) = true)
    (pf_Written_figures : PySem.W.findIn K (.ref c_Written) "figures" = some (some (.ref pa_Written_figures)))
    (pg_Written_figures : PySem.W.specialIn K (.ref pa_Written_figures) "__get__" = some (some (.builtin "property.__get__")))
    (pt_Written_figures : PySem.W.takesIn K (.ref pa_Written_figures) = some true)
    (pr_Written_figures : PySem.W.recIn K pa_Written_figures "property" = some (.ref a_Written_figures :: re_Written_figures))
    (lf_Written_figures : K.lookup a_Written_figures = some ⟨oc_Written_figures, od_Written_figures, .func (PySem.W.fnOf "figures" "Written.figures" (defArgs s_Written_figures) (defBody s_Written_figures) (defScope s_Written_figures) .none kV_Written_figures dc_Written_figures pm_Written_figures an_Written_figures cd_Written_figures ct_Written_figures), sl_Written_figures⟩)
    (cf_Written_figures : PySem.W.codeIn K cd_Written_figures "Written.figures" = true)
    (kf_Written_figures : PySem.W.keepIn K (.ref a_Written_figures) = true)
    (af__law_power : PySem.W.nsIn K mainGlobals "_law_power" = some (some (.ref a__law_power)))
    (lf__law_power : K.lookup a__law_power = some ⟨oc__law_power, od__law_power, .func (PySem.W.fnOf "_law_power" "_law_power" (defArgs s__law_power) (defBody s__law_power) (defScope s__law_power) .none kV__law_power dc__law_power pm__law_power an__law_power cd__law_power ct__law_power), sl__law_power⟩)
    (cf__law_power : PySem.W.codeIn K cd__law_power "_law_power" = true)
    (kf__law_power : PySem.W.keepIn K (.ref a__law_power) = true)
    (pf_Sheet_columns : PySem.W.findIn K (.ref c_Sheet) "columns" = some (some (.ref pa_Sheet_columns)))
    (pg_Sheet_columns : PySem.W.specialIn K (.ref pa_Sheet_columns) "__get__" = some (some (.builtin "property.__get__")))
    (pt_Sheet_columns : PySem.W.takesIn K (.ref pa_Sheet_columns) = some true)
    (pr_Sheet_columns : PySem.W.recIn K pa_Sheet_columns "property" = some (.ref a_Sheet_columns :: re_Sheet_columns))
    (lf_Sheet_columns : K.lookup a_Sheet_columns = some ⟨oc_Sheet_columns, od_Sheet_columns, .func (PySem.W.fnOf "columns" "Sheet.columns" (defArgs s_Sheet_columns) (defBody s_Sheet_columns) (defScope s_Sheet_columns) .none kV_Sheet_columns dc_Sheet_columns pm_Sheet_columns an_Sheet_columns cd_Sheet_columns ct_Sheet_columns), sl_Sheet_columns⟩)
    (cf_Sheet_columns : PySem.W.codeIn K cd_Sheet_columns "Sheet.columns" = true)
    (kf_Sheet_columns : PySem.W.keepIn K (.ref a_Sheet_columns) = true)
    (af_Written___init__ : PySem.W.findIn K (.ref c_Written) "__init__" = some (some (.ref a_Written___init__)))
    (if_Written___init__ : PySem.W.isFn K (.ref a_Written___init__) = true)
    (lf_Written___init__ : K.lookup a_Written___init__ = some ⟨oc_Written___init__, od_Written___init__, .func (PySem.W.fnOf "__init__" "Written.__init__" (defArgs s_Written___init__) (defBody s_Written___init__) (defScope s_Written___init__) .none kV_Written___init__ dc_Written___init__ pm_Written___init__ an_Written___init__ cd_Written___init__ ct_Written___init__), sl_Written___init__⟩)
    (cf_Written___init__ : PySem.W.codeIn K cd_Written___init__ "Written.__init__" = true)
    (kf_Written___init__ : PySem.W.keepIn K (.ref a_Written___init__) = true)
    (af_do_sum : PySem.W.nsIn K mainGlobals "do_sum" = some (some (.ref a_do_sum)))
    (lf_do_sum : K.lookup a_do_sum = some ⟨oc_do_sum, od_do_sum, .func (PySem.W.fnOf "do_sum" "do_sum" (defArgs s_do_sum) (defBody s_do_sum) (defScope s_do_sum) .none kV_do_sum dc_do_sum pm_do_sum an_do_sum cd_do_sum ct_do_sum), sl_do_sum⟩)
    (cf_do_sum : PySem.W.codeIn K cd_do_sum "do_sum" = true)
    (kf_do_sum : PySem.W.keepIn K (.ref a_do_sum) = true)
    (af_do_columns : PySem.W.nsIn K mainGlobals "do_columns" = some (some (.ref a_do_columns)))
    (lf_do_columns : K.lookup a_do_columns = some ⟨oc_do_columns, od_do_columns, .func (PySem.W.fnOf "do_columns" "do_columns" (defArgs s_do_columns) (defBody s_do_columns) (defScope s_do_columns) .none kV_do_columns dc_do_columns pm_do_columns an_do_columns cd_do_columns ct_do_columns), sl_do_columns⟩)
    (cf_do_columns : PySem.W.codeIn K cd_do_columns "do_columns" = true)
    (kf_do_columns : PySem.W.keepIn K (.ref a_do_columns) = true)
    (af_sum_taken : PySem.W.nsIn K mainGlobals "sum_taken" = some (some (.ref a_sum_taken)))
    (lf_sum_taken : K.lookup a_sum_taken = some ⟨oc_sum_taken, od_sum_taken, .func (PySem.W.fnOf "sum_taken" "sum_taken" (defArgs s_sum_taken) (defBody s_sum_taken) (defScope s_sum_taken) .none kV_sum_taken dc_sum_taken pm_sum_taken an_sum_taken cd_sum_taken ct_sum_taken), sl_sum_taken⟩)
    (cf_sum_taken : PySem.W.codeIn K cd_sum_taken "sum_taken" = true)
    (kf_sum_taken : PySem.W.keepIn K (.ref a_sum_taken) = true)
    (af_do_slip : PySem.W.nsIn K mainGlobals "do_slip" = some (some (.ref a_do_slip)))
    (lf_do_slip : K.lookup a_do_slip = some ⟨oc_do_slip, od_do_slip, .func (PySem.W.fnOf "do_slip" "do_slip" (defArgs s_do_slip) (defBody s_do_slip) (defScope s_do_slip) .none kV_do_slip dc_do_slip pm_do_slip an_do_slip cd_do_slip ct_do_slip), sl_do_slip⟩)
    (cf_do_slip : PySem.W.codeIn K cd_do_slip "do_slip" = true)
    (kf_do_slip : PySem.W.keepIn K (.ref a_do_slip) = true)
    (af__is_plain : PySem.W.nsIn K mainGlobals "_is_plain" = some (some (.ref a__is_plain)))
    (lf__is_plain : K.lookup a__is_plain = some ⟨oc__is_plain, od__is_plain, .func (PySem.W.fnOf "_is_plain" "_is_plain" (defArgs s__is_plain) (defBody s__is_plain) (defScope s__is_plain) .none kV__is_plain dc__is_plain pm__is_plain an__is_plain cd__is_plain ct__is_plain), sl__is_plain⟩)
    (cf__is_plain : PySem.W.codeIn K cd__is_plain "_is_plain" = true)
    (kf__is_plain : PySem.W.keepIn K (.ref a__is_plain) = true)
    (af_deeds_of : PySem.W.nsIn K mainGlobals "deeds_of" = some (some (.ref a_deeds_of)))
    (lf_deeds_of : K.lookup a_deeds_of = some ⟨oc_deeds_of, od_deeds_of, .func (PySem.W.fnOf "deeds_of" "deeds_of" (defArgs s_deeds_of) (defBody s_deeds_of) (defScope s_deeds_of) .none kV_deeds_of dc_deeds_of pm_deeds_of an_deeds_of cd_deeds_of ct_deeds_of), sl_deeds_of⟩)
    (cf_deeds_of : PySem.W.codeIn K cd_deeds_of "deeds_of" = true)
    (kf_deeds_of : PySem.W.keepIn K (.ref a_deeds_of) = true)
    (af_is_deed : PySem.W.nsIn K mainGlobals "is_deed" = some (some (.ref a_is_deed)))
    (lf_is_deed : K.lookup a_is_deed = some ⟨oc_is_deed, od_is_deed, .func (PySem.W.fnOf "is_deed" "is_deed" (defArgs s_is_deed) (defBody s_is_deed) (defScope s_is_deed) .none kV_is_deed dc_is_deed pm_is_deed an_is_deed cd_is_deed ct_is_deed), sl_is_deed⟩)
    (cf_is_deed : PySem.W.codeIn K cd_is_deed "is_deed" = true)
    (kf_is_deed : PySem.W.keepIn K (.ref a_is_deed) = true)
    (af_is_slip : PySem.W.nsIn K mainGlobals "is_slip" = some (some (.ref a_is_slip)))
    (lf_is_slip : K.lookup a_is_slip = some ⟨oc_is_slip, od_is_slip, .func (PySem.W.fnOf "is_slip" "is_slip" (defArgs s_is_slip) (defBody s_is_slip) (defScope s_is_slip) .none kV_is_slip dc_is_slip pm_is_slip an_is_slip cd_is_slip ct_is_slip), sl_is_slip⟩)
    (cf_is_slip : PySem.W.codeIn K cd_is_slip "is_slip" = true)
    (kf_is_slip : PySem.W.keepIn K (.ref a_is_slip) = true)
    (af_add_with : PySem.W.nsIn K mainGlobals "add_with" = some (some (.ref a_add_with)))
    (lf_add_with : K.lookup a_add_with = some ⟨oc_add_with, od_add_with, .func (PySem.W.fnOf "add_with" "add_with" (defArgs s_add_with) (defBody s_add_with) (defScope s_add_with) .none kV_add_with dc_add_with pm_add_with an_add_with cd_add_with ct_add_with), sl_add_with⟩)
    (cf_add_with : PySem.W.codeIn K cd_add_with "add_with" = true)
    (kf_add_with : PySem.W.keepIn K (.ref a_add_with) = true)
    (af__law_behind_right : PySem.W.nsIn K mainGlobals "_law_behind_right" = some (some (.ref a__law_behind_right)))
    (lf__law_behind_right : K.lookup a__law_behind_right = some ⟨oc__law_behind_right, od__law_behind_right, .func (PySem.W.fnOf "_law_behind_right" "_law_behind_right" (defArgs s__law_behind_right) (defBody s__law_behind_right) (defScope s__law_behind_right) .none kV__law_behind_right dc__law_behind_right pm__law_behind_right an__law_behind_right cd__law_behind_right ct__law_behind_right), sl__law_behind_right⟩)
    (cf__law_behind_right : PySem.W.codeIn K cd__law_behind_right "_law_behind_right" = true)
    (kf__law_behind_right : PySem.W.keepIn K (.ref a__law_behind_right) = true)
    (af__law_cells : PySem.W.nsIn K mainGlobals "_law_cells" = some (some (.ref a__law_cells)))
    (lf__law_cells : K.lookup a__law_cells = some ⟨oc__law_cells, od__law_cells, .func (PySem.W.fnOf "_law_cells" "_law_cells" (defArgs s__law_cells) (defBody s__law_cells) (defScope s__law_cells) .none kV__law_cells dc__law_cells pm__law_cells an__law_cells cd__law_cells ct__law_cells), sl__law_cells⟩)
    (cf__law_cells : PySem.W.codeIn K cd__law_cells "_law_cells" = true)
    (kf__law_cells : PySem.W.keepIn K (.ref a__law_cells) = true)
    (af__law_draw : PySem.W.nsIn K mainGlobals "_law_draw" = some (some (.ref a__law_draw)))
    (lf__law_draw : K.lookup a__law_draw = some ⟨oc__law_draw, od__law_draw, .func (PySem.W.fnOf "_law_draw" "_law_draw" (defArgs s__law_draw) (defBody s__law_draw) (defScope s__law_draw) .none kV__law_draw dc__law_draw pm__law_draw an__law_draw cd__law_draw ct__law_draw), sl__law_draw⟩)
    (cf__law_draw : PySem.W.codeIn K cd__law_draw "_law_draw" = true)
    (kf__law_draw : PySem.W.keepIn K (.ref a__law_draw) = true)
    (af__law_column : PySem.W.nsIn K mainGlobals "_law_column" = some (some (.ref a__law_column)))
    (lf__law_column : K.lookup a__law_column = some ⟨oc__law_column, od__law_column, .func (PySem.W.fnOf "_law_column" "_law_column" (defArgs s__law_column) (defBody s__law_column) (defScope s__law_column) .none kV__law_column dc__law_column pm__law_column an__law_column cd__law_column ct__law_column), sl__law_column⟩)
    (cf__law_column : PySem.W.codeIn K cd__law_column "_law_column" = true)
    (kf__law_column : PySem.W.keepIn K (.ref a__law_column) = true)
    (af__law_columns : PySem.W.nsIn K mainGlobals "_law_columns" = some (some (.ref a__law_columns)))
    (lf__law_columns : K.lookup a__law_columns = some ⟨oc__law_columns, od__law_columns, .func (PySem.W.fnOf "_law_columns" "_law_columns" (defArgs s__law_columns) (defBody s__law_columns) (defScope s__law_columns) .none kV__law_columns dc__law_columns pm__law_columns an__law_columns cd__law_columns ct__law_columns), sl__law_columns⟩)
    (cf__law_columns : PySem.W.codeIn K cd__law_columns "_law_columns" = true)
    (kf__law_columns : PySem.W.keepIn K (.ref a__law_columns) = true)
    (af__law_deck : PySem.W.nsIn K mainGlobals "_law_deck" = some (some (.ref a__law_deck)))
    (lf__law_deck : K.lookup a__law_deck = some ⟨oc__law_deck, od__law_deck, .func (PySem.W.fnOf "_law_deck" "_law_deck" (defArgs s__law_deck) (defBody s__law_deck) (defScope s__law_deck) .none kV__law_deck dc__law_deck pm__law_deck an__law_deck cd__law_deck ct__law_deck), sl__law_deck⟩)
    (cf__law_deck : PySem.W.codeIn K cd__law_deck "_law_deck" = true)
    (kf__law_deck : PySem.W.keepIn K (.ref a__law_deck) = true)
    (af_Sheet_cut : PySem.W.findIn K (.ref c_Sheet) "cut" = some (some (.ref a_Sheet_cut)))
    (if_Sheet_cut : PySem.W.isFn K (.ref a_Sheet_cut) = true)
    (lf_Sheet_cut : K.lookup a_Sheet_cut = some ⟨oc_Sheet_cut, od_Sheet_cut, .func (PySem.W.fnOf "cut" "Sheet.cut" (defArgs s_Sheet_cut) (defBody s_Sheet_cut) (defScope s_Sheet_cut) .none kV_Sheet_cut dc_Sheet_cut pm_Sheet_cut an_Sheet_cut cd_Sheet_cut ct_Sheet_cut), sl_Sheet_cut⟩)
    (cf_Sheet_cut : PySem.W.codeIn K cd_Sheet_cut "Sheet.cut" = true)
    (kf_Sheet_cut : PySem.W.keepIn K (.ref a_Sheet_cut) = true)
    (af__law_parts_right : PySem.W.nsIn K mainGlobals "_law_parts_right" = some (some (.ref a__law_parts_right)))
    (lf__law_parts_right : K.lookup a__law_parts_right = some ⟨oc__law_parts_right, od__law_parts_right, .func (PySem.W.fnOf "_law_parts_right" "_law_parts_right" (defArgs s__law_parts_right) (defBody s__law_parts_right) (defScope s__law_parts_right) .none kV__law_parts_right dc__law_parts_right pm__law_parts_right an__law_parts_right cd__law_parts_right ct__law_parts_right), sl__law_parts_right⟩)
    (cf__law_parts_right : PySem.W.codeIn K cd__law_parts_right "_law_parts_right" = true)
    (kf__law_parts_right : PySem.W.keepIn K (.ref a__law_parts_right) = true)
    (af__law_deed : PySem.W.nsIn K mainGlobals "_law_deed" = some (some (.ref a__law_deed)))
    (lf__law_deed : K.lookup a__law_deed = some ⟨oc__law_deed, od__law_deed, .func (PySem.W.fnOf "_law_deed" "_law_deed" (defArgs s__law_deed) (defBody s__law_deed) (defScope s__law_deed) .none kV__law_deed dc__law_deed pm__law_deed an__law_deed cd__law_deed ct__law_deed), sl__law_deed⟩)
    (cf__law_deed : PySem.W.codeIn K cd__law_deed "_law_deed" = true)
    (kf__law_deed : PySem.W.keepIn K (.ref a__law_deed) = true)
    (af__law_taken : PySem.W.nsIn K mainGlobals "_law_taken" = some (some (.ref a__law_taken)))
    (lf__law_taken : K.lookup a__law_taken = some ⟨oc__law_taken, od__law_taken, .func (PySem.W.fnOf "_law_taken" "_law_taken" (defArgs s__law_taken) (defBody s__law_taken) (defScope s__law_taken) .none kV__law_taken dc__law_taken pm__law_taken an__law_taken cd__law_taken ct__law_taken), sl__law_taken⟩)
    (cf__law_taken : PySem.W.codeIn K cd__law_taken "_law_taken" = true)
    (kf__law_taken : PySem.W.keepIn K (.ref a__law_taken) = true)
    (af__law_step : PySem.W.nsIn K mainGlobals "_law_step" = some (some (.ref a__law_step)))
    (lf__law_step : K.lookup a__law_step = some ⟨oc__law_step, od__law_step, .func (PySem.W.fnOf "_law_step" "_law_step" (defArgs s__law_step) (defBody s__law_step) (defScope s__law_step) .none kV__law_step dc__law_step pm__law_step an__law_step cd__law_step ct__law_step), sl__law_step⟩)
    (cf__law_step : PySem.W.codeIn K cd__law_step "_law_step" = true)
    (kf__law_step : PySem.W.keepIn K (.ref a__law_step) = true)
    (af__law_plan : PySem.W.nsIn K mainGlobals "_law_plan" = some (some (.ref a__law_plan)))
    (lf__law_plan : K.lookup a__law_plan = some ⟨oc__law_plan, od__law_plan, .func (PySem.W.fnOf "_law_plan" "_law_plan" (defArgs s__law_plan) (defBody s__law_plan) (defScope s__law_plan) .none kV__law_plan dc__law_plan pm__law_plan an__law_plan cd__law_plan ct__law_plan), sl__law_plan⟩)
    (cf__law_plan : PySem.W.codeIn K cd__law_plan "_law_plan" = true)
    (kf__law_plan : PySem.W.keepIn K (.ref a__law_plan) = true)
    (af_Written___eq__ : PySem.W.findIn K (.ref c_Written) "__eq__" = some (some (.ref a_Written___eq__)))
    (if_Written___eq__ : PySem.W.isFn K (.ref a_Written___eq__) = true)
    (lf_Written___eq__ : K.lookup a_Written___eq__ = some ⟨oc_Written___eq__, od_Written___eq__, .func (PySem.W.fnOf "__eq__" "Written.__eq__" (defArgs s_Written___eq__) (defBody s_Written___eq__) (defScope s_Written___eq__) .none kV_Written___eq__ dc_Written___eq__ pm_Written___eq__ an_Written___eq__ cd_Written___eq__ ct_Written___eq__), sl_Written___eq__⟩)
    (cf_Written___eq__ : PySem.W.codeIn K cd_Written___eq__ "Written.__eq__" = true)
    (kf_Written___eq__ : PySem.W.keepIn K (.ref a_Written___eq__) = true)
    (af__law_deed_in : PySem.W.nsIn K mainGlobals "_law_deed_in" = some (some (.ref a__law_deed_in)))
    (lf__law_deed_in : K.lookup a__law_deed_in = some ⟨oc__law_deed_in, od__law_deed_in, .func (PySem.W.fnOf "_law_deed_in" "_law_deed_in" (defArgs s__law_deed_in) (defBody s__law_deed_in) (defScope s__law_deed_in) .none kV__law_deed_in dc__law_deed_in pm__law_deed_in an__law_deed_in cd__law_deed_in ct__law_deed_in), sl__law_deed_in⟩)
    (cf__law_deed_in : PySem.W.codeIn K cd__law_deed_in "_law_deed_in" = true)
    (kf__law_deed_in : PySem.W.keepIn K (.ref a__law_deed_in) = true)
    (af__law_rows_order : PySem.W.nsIn K mainGlobals "_law_rows_order" = some (some (.ref a__law_rows_order)))
    (lf__law_rows_order : K.lookup a__law_rows_order = some ⟨oc__law_rows_order, od__law_rows_order, .func (PySem.W.fnOf "_law_rows_order" "_law_rows_order" (defArgs s__law_rows_order) (defBody s__law_rows_order) (defScope s__law_rows_order) .none kV__law_rows_order dc__law_rows_order pm__law_rows_order an__law_rows_order cd__law_rows_order ct__law_rows_order), sl__law_rows_order⟩)
    (cf__law_rows_order : PySem.W.codeIn K cd__law_rows_order "_law_rows_order" = true)
    (kf__law_rows_order : PySem.W.keepIn K (.ref a__law_rows_order) = true)
    (af__law_rows_right : PySem.W.nsIn K mainGlobals "_law_rows_right" = some (some (.ref a__law_rows_right)))
    (lf__law_rows_right : K.lookup a__law_rows_right = some ⟨oc__law_rows_right, od__law_rows_right, .func (PySem.W.fnOf "_law_rows_right" "_law_rows_right" (defArgs s__law_rows_right) (defBody s__law_rows_right) (defScope s__law_rows_right) .none kV__law_rows_right dc__law_rows_right pm__law_rows_right an__law_rows_right cd__law_rows_right ct__law_rows_right), sl__law_rows_right⟩)
    (cf__law_rows_right : PySem.W.codeIn K cd__law_rows_right "_law_rows_right" = true)
    (kf__law_rows_right : PySem.W.keepIn K (.ref a__law_rows_right) = true)
    (af__law_slips : PySem.W.nsIn K mainGlobals "_law_slips" = some (some (.ref a__law_slips)))
    (lf__law_slips : K.lookup a__law_slips = some ⟨oc__law_slips, od__law_slips, .func (PySem.W.fnOf "_law_slips" "_law_slips" (defArgs s__law_slips) (defBody s__law_slips) (defScope s__law_slips) .none kV__law_slips dc__law_slips pm__law_slips an__law_slips cd__law_slips ct__law_slips), sl__law_slips⟩)
    (cf__law_slips : PySem.W.codeIn K cd__law_slips "_law_slips" = true)
    (kf__law_slips : PySem.W.keepIn K (.ref a__law_slips) = true)
    (af__law_moved : PySem.W.nsIn K mainGlobals "_law_moved" = some (some (.ref a__law_moved)))
    (lf__law_moved : K.lookup a__law_moved = some ⟨oc__law_moved, od__law_moved, .func (PySem.W.fnOf "_law_moved" "_law_moved" (defArgs s__law_moved) (defBody s__law_moved) (defScope s__law_moved) .none kV__law_moved dc__law_moved pm__law_moved an__law_moved cd__law_moved ct__law_moved), sl__law_moved⟩)
    (cf__law_moved : PySem.W.codeIn K cd__law_moved "_law_moved" = true)
    (kf__law_moved : PySem.W.keepIn K (.ref a__law_moved) = true)
    (af__law_sums_right : PySem.W.nsIn K mainGlobals "_law_sums_right" = some (some (.ref a__law_sums_right)))
    (lf__law_sums_right : K.lookup a__law_sums_right = some ⟨oc__law_sums_right, od__law_sums_right, .func (PySem.W.fnOf "_law_sums_right" "_law_sums_right" (defArgs s__law_sums_right) (defBody s__law_sums_right) (defScope s__law_sums_right) .none kV__law_sums_right dc__law_sums_right pm__law_sums_right an__law_sums_right cd__law_sums_right ct__law_sums_right), sl__law_sums_right⟩)
    (cf__law_sums_right : PySem.W.codeIn K cd__law_sums_right "_law_sums_right" = true)
    (kf__law_sums_right : PySem.W.keepIn K (.ref a__law_sums_right) = true)
    (af_Sheet___setitem__ : PySem.W.findIn K (.ref c_Sheet) "__setitem__" = some (some (.ref a_Sheet___setitem__)))
    (if_Sheet___setitem__ : PySem.W.isFn K (.ref a_Sheet___setitem__) = true)
    (lf_Sheet___setitem__ : K.lookup a_Sheet___setitem__ = some ⟨oc_Sheet___setitem__, od_Sheet___setitem__, .func (PySem.W.fnOf "__setitem__" "Sheet.__setitem__" (defArgs s_Sheet___setitem__) (defBody s_Sheet___setitem__) (defScope s_Sheet___setitem__) .none kV_Sheet___setitem__ dc_Sheet___setitem__ pm_Sheet___setitem__ an_Sheet___setitem__ cd_Sheet___setitem__ ct_Sheet___setitem__), sl_Sheet___setitem__⟩)
    (cf_Sheet___setitem__ : PySem.W.codeIn K cd_Sheet___setitem__ "Sheet.__setitem__" = true)
    (kf_Sheet___setitem__ : PySem.W.keepIn K (.ref a_Sheet___setitem__) = true)
    (af_add_right : PySem.W.nsIn K mainGlobals "add_right" = some (some (.ref a_add_right)))
    (lf_add_right : K.lookup a_add_right = some ⟨oc_add_right, od_add_right, .func (PySem.W.fnOf "add_right" "add_right" (defArgs s_add_right) (defBody s_add_right) (defScope s_add_right) .none kV_add_right dc_add_right pm_add_right an_add_right cd_add_right ct_add_right), sl_add_right⟩)
    (cf_add_right : PySem.W.codeIn K cd_add_right "add_right" = true)
    (kf_add_right : PySem.W.keepIn K (.ref a_add_right) = true)
    (af__law_twins_right : PySem.W.nsIn K mainGlobals "_law_twins_right" = some (some (.ref a__law_twins_right)))
    (lf__law_twins_right : K.lookup a__law_twins_right = some ⟨oc__law_twins_right, od__law_twins_right, .func (PySem.W.fnOf "_law_twins_right" "_law_twins_right" (defArgs s__law_twins_right) (defBody s__law_twins_right) (defScope s__law_twins_right) .none kV__law_twins_right dc__law_twins_right pm__law_twins_right an__law_twins_right cd__law_twins_right ct__law_twins_right), sl__law_twins_right⟩)
    (cf__law_twins_right : PySem.W.codeIn K cd__law_twins_right "_law_twins_right" = true)
    (kf__law_twins_right : PySem.W.keepIn K (.ref a__law_twins_right) = true)
    (af_law : PySem.W.nsIn K mainGlobals "law" = some (some (.ref a_law)))
    (lf_law : K.lookup a_law = some ⟨oc_law, od_law, .func (PySem.W.fnOf "law" "law" (defArgs s_law) (defBody s_law) (defScope s_law) .none kV_law dc_law pm_law an_law cd_law ct_law), sl_law⟩)
    (cf_law : PySem.W.codeIn K cd_law "law" = true)
    (kf_law : PySem.W.keepIn K (.ref a_law) = true)
    (pg_Sheet : PySem.W.plainGet K c_Sheet Str.empty = true)
    (hd_Sheet : PySem.W.hasDictIn K c_Sheet = true)
    (po_Sheet : PySem.W.plainOver K c_Sheet = true)
    (sa_Sheet : PySem.W.findIn K (.ref c_Sheet) "__setattr__" = some (some (.builtin "object.__setattr__")))
    (mk_Sheet : PySem.W.makesIn K c_Sheet = true)
    (kc_Sheet : PySem.W.keepIn K (.ref c_Sheet) = true)
    (na_Sheet__base : PySem.W.findIn K (.ref c_Sheet) "_base" = some none)
    (na_Sheet__columns : PySem.W.findIn K (.ref c_Sheet) "_columns" = some none)
    (na_Sheet__rows : PySem.W.findIn K (.ref c_Sheet) "_rows" = some none)
    (ns_Sheet : PySem.W.noSeq K c_Sheet = true)
    (sf_Sheet : PySem.W.selfFirst K c_Sheet = true)
    (pg_Written : PySem.W.plainGet K c_Written Str.empty = true)
    (hd_Written : PySem.W.hasDictIn K c_Written = true)
    (po_Written : PySem.W.plainOver K c_Written = true)
    (sa_Written : PySem.W.findIn K (.ref c_Written) "__setattr__" = some (some (.builtin "object.__setattr__")))
    (mk_Written : PySem.W.makesIn K c_Written = true)
    (kc_Written : PySem.W.keepIn K (.ref c_Written) = true)
    (na_Written__base : PySem.W.findIn K (.ref c_Written) "_base" = some none)
    (na_Written__figures : PySem.W.findIn K (.ref c_Written) "_figures" = some none)
    (na_Written__last : PySem.W.findIn K (.ref c_Written) "_last" = some none)
    (sf_Written : PySem.W.selfFirst K c_Written = true)
    (ic1_Sheet : PySem.W.findIn K (.ref c_Sheet) "__class__" = some (some (.builtin "object.__class__")))
    (ic4_Sheet : PySem.W.mroIn K c_Sheet (.type "object") = some true)
    (icn : PySem.W.specialIn K (.builtin "object.__class__") "__get__" = some (some (.builtin "getset_descriptor.__get__")))
    (ict : PySem.W.takesIn K (.builtin "object.__class__") = some true)
    (io_Sheet : PySem.W.kitOne K (.ref c_Sheet) (.ref c_Sheet) = some true)
    (ic1_Written : PySem.W.findIn K (.ref c_Written) "__class__" = some (some (.builtin "object.__class__")))
    (ic4_Written : PySem.W.mroIn K c_Written (.type "object") = some true)
    (io_Written : PySem.W.kitOne K (.ref c_Written) (.ref c_Written) = some true)
    (nc_Sheet : PySem.W.clsIn K c_Sheet = some cd_of_Sheet)
    (nmr_Sheet : cd_of_Sheet.mro = [.ref c_Sheet, .type "object"])
    (no0_Sheet_sub : PySem.W.findIn K (.ref c_Sheet) (PySem.dunder "sub") = some none)
    (no1_Sheet_sub : PySem.W.findIn K (.ref c_Sheet) (PySem.dunderR "sub") = some none)
    (no2_Sheet_sub : PySem.W.findIn K (.type "object") (PySem.dunder "sub") = some none)
    (no3_Sheet_sub : PySem.W.findIn K (.type "object") (PySem.dunderR "sub") = some none)
    (ne_Written_Sheet : c_Written ≠ c_Sheet)
    (nf_Written_NoneType : PySem.W.notFirst K c_Written (.type "NoneType") = true)
    (nf_Written_bool : PySem.W.notFirst K c_Written (.type "bool") = true)
    (nf_Written_int : PySem.W.notFirst K c_Written (.type "int") = true)
    (nf_Written_str : PySem.W.notFirst K c_Written (.type "str") = true)
    (nf_Written_list : PySem.W.notFirst K c_Written (.type "list") = true)
    (nf_Written_tuple : PySem.W.notFirst K c_Written (.type "tuple") = true)
    (nf_Written_dict : PySem.W.notFirst K c_Written (.type "dict") = true)
    (ki_Written_NoneType : PySem.W.kitOne K (.type "NoneType") (.ref c_Written) = some false)
    (ki_Written_bool : PySem.W.kitOne K (.type "bool") (.ref c_Written) = some false)
    (ki_Written_int : PySem.W.kitOne K (.type "int") (.ref c_Written) = some false)
    (ki_Written_str : PySem.W.kitOne K (.type "str") (.ref c_Written) = some false)
    (ki_Written_list : PySem.W.kitOne K (.type "list") (.ref c_Written) = some false)
    (ki_Written_tuple : PySem.W.kitOne K (.type "tuple") (.ref c_Written) = some false)
    (ki_Written_dict : PySem.W.kitOne K (.type "dict") (.ref c_Written) = some false)
    (x_InvalidColumn : PySem.W.excIn K c_InvalidColumn [.type "ValueError", .type "Exception", .type "BaseException", .type "object"] "ValueError.__new__" = true)
    (xk_InvalidColumn : PySem.W.keepIn K (.ref c_InvalidColumn) = true)
    (xb_InvalidColumn : PySem.W.subIn K (.ref c_InvalidColumn) (.type "BaseException") = some true)
    (xt_InvalidColumn : PySem.W.typeIn K (.ref c_InvalidColumn) = some (.type "type"))
    (x_InvalidSheet : PySem.W.excIn K c_InvalidSheet [.type "ValueError", .type "Exception", .type "BaseException", .type "object"] "ValueError.__new__" = true)
    (xk_InvalidSheet : PySem.W.keepIn K (.ref c_InvalidSheet) = true)
    (xb_InvalidSheet : PySem.W.subIn K (.ref c_InvalidSheet) (.type "BaseException") = some true)
    (xt_InvalidSheet : PySem.W.typeIn K (.ref c_InvalidSheet) = some (.type "type"))
    (x_NotAlike : PySem.W.excIn K c_NotAlike [.type "ValueError", .type "Exception", .type "BaseException", .type "object"] "ValueError.__new__" = true)
    (xk_NotAlike : PySem.W.keepIn K (.ref c_NotAlike) = true)
    (xb_NotAlike : PySem.W.subIn K (.ref c_NotAlike) (.type "BaseException") = some true)
    (xt_NotAlike : PySem.W.typeIn K (.ref c_NotAlike) = some (.type "type"))
    (nb_all : PySem.W.nsIn K mainGlobals "all" = some none)
    (nb_bool : PySem.W.nsIn K mainGlobals "bool" = some none)
    (nb_enumerate : PySem.W.nsIn K mainGlobals "enumerate" = some none)
    (nb_int : PySem.W.nsIn K mainGlobals "int" = some none)
    (nb_isinstance : PySem.W.nsIn K mainGlobals "isinstance" = some none)
    (nb_len : PySem.W.nsIn K mainGlobals "len" = some none)
    (nb_list : PySem.W.nsIn K mainGlobals "list" = some none)
    (nb_min : PySem.W.nsIn K mainGlobals "min" = some none)
    (nb_range : PySem.W.nsIn K mainGlobals "range" = some none)
    (nb_str : PySem.W.nsIn K mainGlobals "str" = some none)
    (nb_sum : PySem.W.nsIn K mainGlobals "sum" = some none)
    (nb_tuple : PySem.W.nsIn K mainGlobals "tuple" = some none)
    (ak_MOST_BASE : PySem.W.nsIn K mainGlobals "MOST_BASE" = some (some (.int 12 tk_MOST_BASE)))
    (ak_MOST_ROWS : PySem.W.nsIn K mainGlobals "MOST_ROWS" = some (some (.int 4 tk_MOST_ROWS)))
    : Txt K mg where
  c_Sheet := c_Sheet
  m_Sheet := PySem.W.mg_of X G ac_Sheet
  c_Written := c_Written
  m_Written := PySem.W.mg_of X G ac_Written
  c_InvalidSheet := c_InvalidSheet
  m_InvalidSheet := PySem.W.mg_of X G ac_InvalidSheet
  c_InvalidColumn := c_InvalidColumn
  m_InvalidColumn := PySem.W.mg_of X G ac_InvalidColumn
  c_NotAlike := c_NotAlike
  m_NotAlike := PySem.W.mg_of X G ac_NotAlike
  a_is_whole := a_is_whole
  fd_is_whole := PySem.W.fnOf "is_whole" "is_whole" (defArgs s_is_whole) (defBody s_is_whole) (defScope s_is_whole) .none kV_is_whole dc_is_whole pm_is_whole an_is_whole cd_is_whole ct_is_whole
  F_is_whole := fun_mk (st := s_is_whole) lf_is_whole cf_is_whole kf_is_whole
  b_is_whole := (fun_mk (st := s_is_whole) lf_is_whole cf_is_whole kf_is_whole).binds (ps := ["value", "low", "high"]) fun _ _ _ _ _ _ us hl => match us, hl with | [_, _, _], _ => rfl
  m_is_whole := PySem.W.mg_of X G af_is_whole
  a_is_column := a_is_column
  fd_is_column := PySem.W.fnOf "is_column" "is_column" (defArgs s_is_column) (defBody s_is_column) (defScope s_is_column) .none kV_is_column dc_is_column pm_is_column an_is_column cd_is_column ct_is_column
  F_is_column := fun_mk (st := s_is_column) lf_is_column cf_is_column kf_is_column
  b_is_column := (fun_mk (st := s_is_column) lf_is_column cf_is_column kf_is_column).binds (ps := ["base", "rows", "value"]) fun _ _ _ _ _ _ us hl => match us, hl with | [_, _, _], _ => rfl
  m_is_column := PySem.W.mg_of X G af_is_column
  a__are_columns := a__are_columns
  fd__are_columns := PySem.W.fnOf "_are_columns" "_are_columns" (defArgs s__are_columns) (defBody s__are_columns) (defScope s__are_columns) .none kV__are_columns dc__are_columns pm__are_columns an__are_columns cd__are_columns ct__are_columns
  F__are_columns := fun_mk (st := s__are_columns) lf__are_columns cf__are_columns kf__are_columns
  b__are_columns := (fun_mk (st := s__are_columns) lf__are_columns cf__are_columns kf__are_columns).binds (ps := ["base", "rows", "value"]) fun _ _ _ _ _ _ us hl => match us, hl with | [_, _, _], _ => rfl
  m__are_columns := PySem.W.mg_of X G af__are_columns
  a_is_base := a_is_base
  fd_is_base := PySem.W.fnOf "is_base" "is_base" (defArgs s_is_base) (defBody s_is_base) (defScope s_is_base) .none kV_is_base dc_is_base pm_is_base an_is_base cd_is_base ct_is_base
  F_is_base := fun_mk (st := s_is_base) lf_is_base cf_is_base kf_is_base
  b_is_base := (fun_mk (st := s_is_base) lf_is_base cf_is_base kf_is_base).binds (ps := ["value"]) fun _ _ _ _ _ _ us hl => match us, hl with | [_], _ => rfl
  m_is_base := PySem.W.mg_of X G af_is_base
  a_is_rows := a_is_rows
  fd_is_rows := PySem.W.fnOf "is_rows" "is_rows" (defArgs s_is_rows) (defBody s_is_rows) (defScope s_is_rows) .none kV_is_rows dc_is_rows pm_is_rows an_is_rows cd_is_rows ct_is_rows
  F_is_rows := fun_mk (st := s_is_rows) lf_is_rows cf_is_rows kf_is_rows
  b_is_rows := (fun_mk (st := s_is_rows) lf_is_rows cf_is_rows kf_is_rows).binds (ps := ["value"]) fun _ _ _ _ _ _ us hl => match us, hl with | [_], _ => rfl
  m_is_rows := PySem.W.mg_of X G af_is_rows
  a_Sheet___init__ := a_Sheet___init__
  fd_Sheet___init__ := PySem.W.fnOf "__init__" "Sheet.__init__" (defArgs s_Sheet___init__) (defBody s_Sheet___init__) (defScope s_Sheet___init__) .none kV_Sheet___init__ dc_Sheet___init__ pm_Sheet___init__ an_Sheet___init__ cd_Sheet___init__ ct_Sheet___init__
  F_Sheet___init__ := fun_mk (st := s_Sheet___init__) lf_Sheet___init__ cf_Sheet___init__ kf_Sheet___init__
  b_Sheet___init__ := (fun_mk (st := s_Sheet___init__) lf_Sheet___init__ cf_Sheet___init__ kf_Sheet___init__).binds (ps := ["self", "base", "rows", "columns"]) fun _ _ _ _ _ _ us hl => match us, hl with | [_, _, _, _], _ => rfl
  me_Sheet___init__ := ⟨af_Sheet___init__, if_Sheet___init__, kf_Sheet___init__⟩
  a_Sheet_base := a_Sheet_base
  fd_Sheet_base := PySem.W.fnOf "base" "Sheet.base" (defArgs s_Sheet_base) (defBody s_Sheet_base) (defScope s_Sheet_base) .none kV_Sheet_base dc_Sheet_base pm_Sheet_base an_Sheet_base cd_Sheet_base ct_Sheet_base
  F_Sheet_base := fun_mk (st := s_Sheet_base) lf_Sheet_base cf_Sheet_base kf_Sheet_base
  b_Sheet_base := (fun_mk (st := s_Sheet_base) lf_Sheet_base cf_Sheet_base kf_Sheet_base).binds (ps := ["self"]) fun _ _ _ _ _ _ us hl => match us, hl with | [_], _ => rfl
  pa_Sheet_base := pa_Sheet_base
  p_Sheet_base := ⟨pf_Sheet_base, pg_Sheet_base, pt_Sheet_base, ⟨_, pr_Sheet_base⟩⟩
  a_Sheet_rows := a_Sheet_rows
  fd_Sheet_rows := PySem.W.fnOf "rows" "Sheet.rows" (defArgs s_Sheet_rows) (defBody s_Sheet_rows) (defScope s_Sheet_rows) .none kV_Sheet_rows dc_Sheet_rows pm_Sheet_rows an_Sheet_rows cd_Sheet_rows ct_Sheet_rows
  F_Sheet_rows := fun_mk (st := s_Sheet_rows) lf_Sheet_rows cf_Sheet_rows kf_Sheet_rows
  b_Sheet_rows := (fun_mk (st := s_Sheet_rows) lf_Sheet_rows cf_Sheet_rows kf_Sheet_rows).binds (ps := ["self"]) fun _ _ _ _ _ _ us hl => match us, hl with | [_], _ => rfl
  pa_Sheet_rows := pa_Sheet_rows
  p_Sheet_rows := ⟨pf_Sheet_rows, pg_Sheet_rows, pt_Sheet_rows, ⟨_, pr_Sheet_rows⟩⟩
  a_check_alike := a_check_alike
  fd_check_alike := PySem.W.fnOf "check_alike" "check_alike" (defArgs s_check_alike) (defBody s_check_alike) (defScope s_check_alike) .none kV_check_alike dc_check_alike pm_check_alike an_check_alike cd_check_alike ct_check_alike
  F_check_alike := fun_mk (st := s_check_alike) lf_check_alike cf_check_alike kf_check_alike
  b_check_alike := (fun_mk (st := s_check_alike) lf_check_alike cf_check_alike kf_check_alike).binds (ps := ["one", "other"]) fun _ _ _ _ _ _ us hl => match us, hl with | [_, _], _ => rfl
  m_check_alike := PySem.W.mg_of X G af_check_alike
  a_Sheet___add__ := a_Sheet___add__
  fd_Sheet___add__ := PySem.W.fnOf "__add__" "Sheet.__add__" (defArgs s_Sheet___add__) (defBody s_Sheet___add__) (defScope s_Sheet___add__) .none kV_Sheet___add__ dc_Sheet___add__ pm_Sheet___add__ an_Sheet___add__ cd_Sheet___add__ ct_Sheet___add__
  F_Sheet___add__ := fun_mk (st := s_Sheet___add__) lf_Sheet___add__ cf_Sheet___add__ kf_Sheet___add__
  b_Sheet___add__ := (fun_mk (st := s_Sheet___add__) lf_Sheet___add__ cf_Sheet___add__ kf_Sheet___add__).binds (ps := ["self", "other"]) fun _ _ _ _ _ _ us hl => match us, hl with | [_, _], _ => rfl
  me_Sheet___add__ := ⟨af_Sheet___add__, if_Sheet___add__, kf_Sheet___add__⟩
  a_Sheet___len__ := a_Sheet___len__
  fd_Sheet___len__ := PySem.W.fnOf "__len__" "Sheet.__len__" (defArgs s_Sheet___len__) (defBody s_Sheet___len__) (defScope s_Sheet___len__) .none kV_Sheet___len__ dc_Sheet___len__ pm_Sheet___len__ an_Sheet___len__ cd_Sheet___len__ ct_Sheet___len__
  F_Sheet___len__ := fun_mk (st := s_Sheet___len__) lf_Sheet___len__ cf_Sheet___len__ kf_Sheet___len__
  b_Sheet___len__ := (fun_mk (st := s_Sheet___len__) lf_Sheet___len__ cf_Sheet___len__ kf_Sheet___len__).binds (ps := ["self"]) fun _ _ _ _ _ _ us hl => match us, hl with | [_], _ => rfl
  me_Sheet___len__ := ⟨af_Sheet___len__, if_Sheet___len__, kf_Sheet___len__⟩
  a_place_value := a_place_value
  fd_place_value := PySem.W.fnOf "place_value" "place_value" (defArgs s_place_value) (defBody s_place_value) (defScope s_place_value) .none kV_place_value dc_place_value pm_place_value an_place_value cd_place_value ct_place_value
  F_place_value := fun_mk (st := s_place_value) lf_place_value cf_place_value kf_place_value
  b_place_value := (fun_mk (st := s_place_value) lf_place_value cf_place_value kf_place_value).binds (ps := ["base", "figures", "last"]) fun _ _ _ _ _ _ us hl => match us, hl with | [_, _, _], _ => rfl
  m_place_value := PySem.W.mg_of X G af_place_value
  a_Sheet_value := a_Sheet_value
  fd_Sheet_value := PySem.W.fnOf "value" "Sheet.value" (defArgs s_Sheet_value) (defBody s_Sheet_value) (defScope s_Sheet_value) .none kV_Sheet_value dc_Sheet_value pm_Sheet_value an_Sheet_value cd_Sheet_value ct_Sheet_value
  F_Sheet_value := fun_mk (st := s_Sheet_value) lf_Sheet_value cf_Sheet_value kf_Sheet_value
  b_Sheet_value := (fun_mk (st := s_Sheet_value) lf_Sheet_value cf_Sheet_value kf_Sheet_value).binds (ps := ["self"]) fun _ _ _ _ _ _ us hl => match us, hl with | [_], _ => rfl
  pa_Sheet_value := pa_Sheet_value
  p_Sheet_value := ⟨pf_Sheet_value, pg_Sheet_value, pt_Sheet_value, ⟨_, pr_Sheet_value⟩⟩
  a_Written_value := a_Written_value
  fd_Written_value := PySem.W.fnOf "value" "Written.value" (defArgs s_Written_value) (defBody s_Written_value) (defScope s_Written_value) .none kV_Written_value dc_Written_value pm_Written_value an_Written_value cd_Written_value ct_Written_value
  F_Written_value := fun_mk (st := s_Written_value) lf_Written_value cf_Written_value kf_Written_value
  b_Written_value := (fun_mk (st := s_Written_value) lf_Written_value cf_Written_value kf_Written_value).binds (ps := ["self"]) fun _ _ _ _ _ _ us hl => match us, hl with | [_], _ => rfl
  pa_Written_value := pa_Written_value
  p_Written_value := ⟨pf_Written_value, pg_Written_value, pt_Written_value, ⟨_, pr_Written_value⟩⟩
  a_Written___sub__ := a_Written___sub__
  fd_Written___sub__ := PySem.W.fnOf "__sub__" "Written.__sub__" (defArgs s_Written___sub__) (defBody s_Written___sub__) (defScope s_Written___sub__) .none kV_Written___sub__ dc_Written___sub__ pm_Written___sub__ an_Written___sub__ cd_Written___sub__ ct_Written___sub__
  F_Written___sub__ := fun_mk (st := s_Written___sub__) lf_Written___sub__ cf_Written___sub__ kf_Written___sub__
  b_Written___sub__ := (fun_mk (st := s_Written___sub__) lf_Written___sub__ cf_Written___sub__ kf_Written___sub__).binds (ps := ["self", "other"]) fun _ _ _ _ _ _ us hl => match us, hl with | [_, _], _ => rfl
  me_Written___sub__ := ⟨af_Written___sub__, if_Written___sub__, kf_Written___sub__⟩
  a_Written_figures := a_Written_figures
  fd_Written_figures := PySem.W.fnOf "figures" "Written.figures" (defArgs s_Written_figures) (defBody s_Written_figures) (defScope s_Written_figures) .none kV_Written_figures dc_Written_figures pm_Written_figures an_Written_figures cd_Written_figures ct_Written_figures
  F_Written_figures := fun_mk (st := s_Written_figures) lf_Written_figures cf_Written_figures kf_Written_figures
  b_Written_figures := (fun_mk (st := s_Written_figures) lf_Written_figures cf_Written_figures kf_Written_figures).binds (ps := ["self"]) fun _ _ _ _ _ _ us hl => match us, hl with | [_], _ => rfl
  pa_Written_figures := pa_Written_figures
  p_Written_figures := ⟨pf_Written_figures, pg_Written_figures, pt_Written_figures, ⟨_, pr_Written_figures⟩⟩
  a__law_power := a__law_power
  fd__law_power := PySem.W.fnOf "_law_power" "_law_power" (defArgs s__law_power) (defBody s__law_power) (defScope s__law_power) .none kV__law_power dc__law_power pm__law_power an__law_power cd__law_power ct__law_power
  F__law_power := fun_mk (st := s__law_power) lf__law_power cf__law_power kf__law_power
  b__law_power := (fun_mk (st := s__law_power) lf__law_power cf__law_power kf__law_power).binds (ps := ["base", "many"]) fun _ _ _ _ _ _ us hl => match us, hl with | [_, _], _ => rfl
  m__law_power := PySem.W.mg_of X G af__law_power
  a_Sheet_columns := a_Sheet_columns
  fd_Sheet_columns := PySem.W.fnOf "columns" "Sheet.columns" (defArgs s_Sheet_columns) (defBody s_Sheet_columns) (defScope s_Sheet_columns) .none kV_Sheet_columns dc_Sheet_columns pm_Sheet_columns an_Sheet_columns cd_Sheet_columns ct_Sheet_columns
  F_Sheet_columns := fun_mk (st := s_Sheet_columns) lf_Sheet_columns cf_Sheet_columns kf_Sheet_columns
  b_Sheet_columns := (fun_mk (st := s_Sheet_columns) lf_Sheet_columns cf_Sheet_columns kf_Sheet_columns).binds (ps := ["self"]) fun _ _ _ _ _ _ us hl => match us, hl with | [_], _ => rfl
  pa_Sheet_columns := pa_Sheet_columns
  p_Sheet_columns := ⟨pf_Sheet_columns, pg_Sheet_columns, pt_Sheet_columns, ⟨_, pr_Sheet_columns⟩⟩
  a_Written___init__ := a_Written___init__
  fd_Written___init__ := PySem.W.fnOf "__init__" "Written.__init__" (defArgs s_Written___init__) (defBody s_Written___init__) (defScope s_Written___init__) .none kV_Written___init__ dc_Written___init__ pm_Written___init__ an_Written___init__ cd_Written___init__ ct_Written___init__
  F_Written___init__ := fun_mk (st := s_Written___init__) lf_Written___init__ cf_Written___init__ kf_Written___init__
  b_Written___init__ := (fun_mk (st := s_Written___init__) lf_Written___init__ cf_Written___init__ kf_Written___init__).binds (ps := ["self", "base", "figures", "last"]) fun _ _ _ _ _ _ us hl => match us, hl with | [_, _, _, _], _ => rfl
  me_Written___init__ := ⟨af_Written___init__, if_Written___init__, kf_Written___init__⟩
  a_do_sum := a_do_sum
  fd_do_sum := PySem.W.fnOf "do_sum" "do_sum" (defArgs s_do_sum) (defBody s_do_sum) (defScope s_do_sum) .none kV_do_sum dc_do_sum pm_do_sum an_do_sum cd_do_sum ct_do_sum
  F_do_sum := fun_mk (st := s_do_sum) lf_do_sum cf_do_sum kf_do_sum
  b_do_sum := (fun_mk (st := s_do_sum) lf_do_sum cf_do_sum kf_do_sum).binds (ps := ["base", "taken", "carry", "deed"]) fun _ _ _ _ _ _ us hl => match us, hl with | [_, _, _, _], _ => rfl
  m_do_sum := PySem.W.mg_of X G af_do_sum
  a_do_columns := a_do_columns
  fd_do_columns := PySem.W.fnOf "do_columns" "do_columns" (defArgs s_do_columns) (defBody s_do_columns) (defScope s_do_columns) .none kV_do_columns dc_do_columns pm_do_columns an_do_columns cd_do_columns ct_do_columns
  F_do_columns := fun_mk (st := s_do_columns) lf_do_columns cf_do_columns kf_do_columns
  b_do_columns := (fun_mk (st := s_do_columns) lf_do_columns cf_do_columns kf_do_columns).binds (ps := ["base", "columns", "carry"]) fun _ _ _ _ _ _ us hl => match us, hl with | [_, _, _], _ => rfl
  m_do_columns := PySem.W.mg_of X G af_do_columns
  a_sum_taken := a_sum_taken
  fd_sum_taken := PySem.W.fnOf "sum_taken" "sum_taken" (defArgs s_sum_taken) (defBody s_sum_taken) (defScope s_sum_taken) .none kV_sum_taken dc_sum_taken pm_sum_taken an_sum_taken cd_sum_taken ct_sum_taken
  F_sum_taken := fun_mk (st := s_sum_taken) lf_sum_taken cf_sum_taken kf_sum_taken
  b_sum_taken := (fun_mk (st := s_sum_taken) lf_sum_taken cf_sum_taken kf_sum_taken).binds (ps := ["base", "column", "deed", "copied"]) fun _ _ _ _ _ _ us hl => match us, hl with | [_, _, _, _], _ => rfl
  m_sum_taken := PySem.W.mg_of X G af_sum_taken
  a_do_slip := a_do_slip
  fd_do_slip := PySem.W.fnOf "do_slip" "do_slip" (defArgs s_do_slip) (defBody s_do_slip) (defScope s_do_slip) .none kV_do_slip dc_do_slip pm_do_slip an_do_slip cd_do_slip ct_do_slip
  F_do_slip := fun_mk (st := s_do_slip) lf_do_slip cf_do_slip kf_do_slip
  b_do_slip := (fun_mk (st := s_do_slip) lf_do_slip cf_do_slip kf_do_slip).binds (ps := ["base", "columns", "at", "carry", "deed"]) fun _ _ _ _ _ _ us hl => match us, hl with | [_, _, _, _, _], _ => rfl
  m_do_slip := PySem.W.mg_of X G af_do_slip
  a__is_plain := a__is_plain
  fd__is_plain := PySem.W.fnOf "_is_plain" "_is_plain" (defArgs s__is_plain) (defBody s__is_plain) (defScope s__is_plain) .none kV__is_plain dc__is_plain pm__is_plain an__is_plain cd__is_plain ct__is_plain
  F__is_plain := fun_mk (st := s__is_plain) lf__is_plain cf__is_plain kf__is_plain
  b__is_plain := (fun_mk (st := s__is_plain) lf__is_plain cf__is_plain kf__is_plain).binds (ps := ["value"]) fun _ _ _ _ _ _ us hl => match us, hl with | [_], _ => rfl
  m__is_plain := PySem.W.mg_of X G af__is_plain
  a_deeds_of := a_deeds_of
  fd_deeds_of := PySem.W.fnOf "deeds_of" "deeds_of" (defArgs s_deeds_of) (defBody s_deeds_of) (defScope s_deeds_of) .none kV_deeds_of dc_deeds_of pm_deeds_of an_deeds_of cd_deeds_of ct_deeds_of
  F_deeds_of := fun_mk (st := s_deeds_of) lf_deeds_of cf_deeds_of kf_deeds_of
  b_deeds_of := (fun_mk (st := s_deeds_of) lf_deeds_of cf_deeds_of kf_deeds_of).binds (ps := ["base", "rows"]) fun _ _ _ _ _ _ us hl => match us, hl with | [_, _], _ => rfl
  m_deeds_of := PySem.W.mg_of X G af_deeds_of
  a_is_deed := a_is_deed
  fd_is_deed := PySem.W.fnOf "is_deed" "is_deed" (defArgs s_is_deed) (defBody s_is_deed) (defScope s_is_deed) .none kV_is_deed dc_is_deed pm_is_deed an_is_deed cd_is_deed ct_is_deed
  F_is_deed := fun_mk (st := s_is_deed) lf_is_deed cf_is_deed kf_is_deed
  b_is_deed := (fun_mk (st := s_is_deed) lf_is_deed cf_is_deed kf_is_deed).binds (ps := ["base", "rows", "value"]) fun _ _ _ _ _ _ us hl => match us, hl with | [_, _, _], _ => rfl
  m_is_deed := PySem.W.mg_of X G af_is_deed
  a_is_slip := a_is_slip
  fd_is_slip := PySem.W.fnOf "is_slip" "is_slip" (defArgs s_is_slip) (defBody s_is_slip) (defScope s_is_slip) .none kV_is_slip dc_is_slip pm_is_slip an_is_slip cd_is_slip ct_is_slip
  F_is_slip := fun_mk (st := s_is_slip) lf_is_slip cf_is_slip kf_is_slip
  b_is_slip := (fun_mk (st := s_is_slip) lf_is_slip cf_is_slip kf_is_slip).binds (ps := ["sheet", "low", "value"]) fun _ _ _ _ _ _ us hl => match us, hl with | [_, _, _], _ => rfl
  m_is_slip := PySem.W.mg_of X G af_is_slip
  a_add_with := a_add_with
  fd_add_with := PySem.W.fnOf "add_with" "add_with" (defArgs s_add_with) (defBody s_add_with) (defScope s_add_with) .none kV_add_with dc_add_with pm_add_with an_add_with cd_add_with ct_add_with
  F_add_with := fun_mk (st := s_add_with) lf_add_with cf_add_with kf_add_with
  b_add_with := (fun_mk (st := s_add_with) lf_add_with cf_add_with kf_add_with).binds (ps := ["sheet", "slips"]) fun _ _ _ _ _ _ us hl => match us, hl with | [_, _], _ => rfl
  m_add_with := PySem.W.mg_of X G af_add_with
  a__law_behind_right := a__law_behind_right
  fd__law_behind_right := PySem.W.fnOf "_law_behind_right" "_law_behind_right" (defArgs s__law_behind_right) (defBody s__law_behind_right) (defScope s__law_behind_right) .none kV__law_behind_right dc__law_behind_right pm__law_behind_right an__law_behind_right cd__law_behind_right ct__law_behind_right
  F__law_behind_right := fun_mk (st := s__law_behind_right) lf__law_behind_right cf__law_behind_right kf__law_behind_right
  b__law_behind_right := (fun_mk (st := s__law_behind_right) lf__law_behind_right cf__law_behind_right kf__law_behind_right).binds (ps := ["sheet", "slips", "more", "base"]) fun _ _ _ _ _ _ us hl => match us, hl with | [_, _, _, _], _ => rfl
  m__law_behind_right := PySem.W.mg_of X G af__law_behind_right
  a__law_cells := a__law_cells
  fd__law_cells := PySem.W.fnOf "_law_cells" "_law_cells" (defArgs s__law_cells) (defBody s__law_cells) (defScope s__law_cells) .none kV__law_cells dc__law_cells pm__law_cells an__law_cells cd__law_cells ct__law_cells
  F__law_cells := fun_mk (st := s__law_cells) lf__law_cells cf__law_cells kf__law_cells
  b__law_cells := (fun_mk (st := s__law_cells) lf__law_cells cf__law_cells kf__law_cells).binds (ps := ["script"]) fun _ _ _ _ _ _ us hl => match us, hl with | [_], _ => rfl
  m__law_cells := PySem.W.mg_of X G af__law_cells
  a__law_draw := a__law_draw
  fd__law_draw := PySem.W.fnOf "_law_draw" "_law_draw" (defArgs s__law_draw) (defBody s__law_draw) (defScope s__law_draw) .none kV__law_draw dc__law_draw pm__law_draw an__law_draw cd__law_draw ct__law_draw
  F__law_draw := fun_mk (st := s__law_draw) lf__law_draw cf__law_draw kf__law_draw
  b__law_draw := (fun_mk (st := s__law_draw) lf__law_draw cf__law_draw kf__law_draw).binds (ps := ["deck", "many"]) fun _ _ _ _ _ _ us hl => match us, hl with | [_, _], _ => rfl
  m__law_draw := PySem.W.mg_of X G af__law_draw
  a__law_column := a__law_column
  fd__law_column := PySem.W.fnOf "_law_column" "_law_column" (defArgs s__law_column) (defBody s__law_column) (defScope s__law_column) .none kV__law_column dc__law_column pm__law_column an__law_column cd__law_column ct__law_column
  F__law_column := fun_mk (st := s__law_column) lf__law_column cf__law_column kf__law_column
  b__law_column := (fun_mk (st := s__law_column) lf__law_column cf__law_column kf__law_column).binds (ps := ["deck", "base", "rows"]) fun _ _ _ _ _ _ us hl => match us, hl with | [_, _, _], _ => rfl
  m__law_column := PySem.W.mg_of X G af__law_column
  a__law_columns := a__law_columns
  fd__law_columns := PySem.W.fnOf "_law_columns" "_law_columns" (defArgs s__law_columns) (defBody s__law_columns) (defScope s__law_columns) .none kV__law_columns dc__law_columns pm__law_columns an__law_columns cd__law_columns ct__law_columns
  F__law_columns := fun_mk (st := s__law_columns) lf__law_columns cf__law_columns kf__law_columns
  b__law_columns := (fun_mk (st := s__law_columns) lf__law_columns cf__law_columns kf__law_columns).binds (ps := ["deck", "base", "rows", "most"]) fun _ _ _ _ _ _ us hl => match us, hl with | [_, _, _, _], _ => rfl
  m__law_columns := PySem.W.mg_of X G af__law_columns
  a__law_deck := a__law_deck
  fd__law_deck := PySem.W.fnOf "_law_deck" "_law_deck" (defArgs s__law_deck) (defBody s__law_deck) (defScope s__law_deck) .none kV__law_deck dc__law_deck pm__law_deck an__law_deck cd__law_deck ct__law_deck
  F__law_deck := fun_mk (st := s__law_deck) lf__law_deck cf__law_deck kf__law_deck
  b__law_deck := (fun_mk (st := s__law_deck) lf__law_deck cf__law_deck kf__law_deck).binds (ps := ["cell"]) fun _ _ _ _ _ _ us hl => match us, hl with | [_], _ => rfl
  m__law_deck := PySem.W.mg_of X G af__law_deck
  a_Sheet_cut := a_Sheet_cut
  fd_Sheet_cut := PySem.W.fnOf "cut" "Sheet.cut" (defArgs s_Sheet_cut) (defBody s_Sheet_cut) (defScope s_Sheet_cut) .none kV_Sheet_cut dc_Sheet_cut pm_Sheet_cut an_Sheet_cut cd_Sheet_cut ct_Sheet_cut
  F_Sheet_cut := fun_mk (st := s_Sheet_cut) lf_Sheet_cut cf_Sheet_cut kf_Sheet_cut
  b_Sheet_cut := (fun_mk (st := s_Sheet_cut) lf_Sheet_cut cf_Sheet_cut kf_Sheet_cut).binds (ps := ["self", "low", "high"]) fun _ _ _ _ _ _ us hl => match us, hl with | [_, _, _], _ => rfl
  me_Sheet_cut := ⟨af_Sheet_cut, if_Sheet_cut, kf_Sheet_cut⟩
  a__law_parts_right := a__law_parts_right
  fd__law_parts_right := PySem.W.fnOf "_law_parts_right" "_law_parts_right" (defArgs s__law_parts_right) (defBody s__law_parts_right) (defScope s__law_parts_right) .none kV__law_parts_right dc__law_parts_right pm__law_parts_right an__law_parts_right cd__law_parts_right ct__law_parts_right
  F__law_parts_right := fun_mk (st := s__law_parts_right) lf__law_parts_right cf__law_parts_right kf__law_parts_right
  b__law_parts_right := (fun_mk (st := s__law_parts_right) lf__law_parts_right cf__law_parts_right kf__law_parts_right).binds (ps := ["sheet", "deeds", "slips"]) fun _ _ _ _ _ _ us hl => match us, hl with | [_, _, _], _ => rfl
  m__law_parts_right := PySem.W.mg_of X G af__law_parts_right
  a__law_deed := a__law_deed
  fd__law_deed := PySem.W.fnOf "_law_deed" "_law_deed" (defArgs s__law_deed) (defBody s__law_deed) (defScope s__law_deed) .none kV__law_deed dc__law_deed pm__law_deed an__law_deed cd__law_deed ct__law_deed
  F__law_deed := fun_mk (st := s__law_deed) lf__law_deed cf__law_deed kf__law_deed
  b__law_deed := (fun_mk (st := s__law_deed) lf__law_deed cf__law_deed kf__law_deed).binds (ps := ["deck", "base", "rows"]) fun _ _ _ _ _ _ us hl => match us, hl with | [_, _, _], _ => rfl
  m__law_deed := PySem.W.mg_of X G af__law_deed
  a__law_taken := a__law_taken
  fd__law_taken := PySem.W.fnOf "_law_taken" "_law_taken" (defArgs s__law_taken) (defBody s__law_taken) (defScope s__law_taken) .none kV__law_taken dc__law_taken pm__law_taken an__law_taken cd__law_taken ct__law_taken
  F__law_taken := fun_mk (st := s__law_taken) lf__law_taken cf__law_taken kf__law_taken
  b__law_taken := (fun_mk (st := s__law_taken) lf__law_taken cf__law_taken kf__law_taken).binds (ps := ["base", "columns", "i", "deed"]) fun _ _ _ _ _ _ us hl => match us, hl with | [_, _, _, _], _ => rfl
  m__law_taken := PySem.W.mg_of X G af__law_taken
  a__law_step := a__law_step
  fd__law_step := PySem.W.fnOf "_law_step" "_law_step" (defArgs s__law_step) (defBody s__law_step) (defScope s__law_step) .none kV__law_step dc__law_step pm__law_step an__law_step cd__law_step ct__law_step
  F__law_step := fun_mk (st := s__law_step) lf__law_step cf__law_step kf__law_step
  b__law_step := (fun_mk (st := s__law_step) lf__law_step cf__law_step kf__law_step).binds (ps := ["base", "columns", "i", "deed", "carry"]) fun _ _ _ _ _ _ us hl => match us, hl with | [_, _, _, _, _], _ => rfl
  m__law_step := PySem.W.mg_of X G af__law_step
  a__law_plan := a__law_plan
  fd__law_plan := PySem.W.fnOf "_law_plan" "_law_plan" (defArgs s__law_plan) (defBody s__law_plan) (defScope s__law_plan) .none kV__law_plan dc__law_plan pm__law_plan an__law_plan cd__law_plan ct__law_plan
  F__law_plan := fun_mk (st := s__law_plan) lf__law_plan cf__law_plan kf__law_plan
  b__law_plan := (fun_mk (st := s__law_plan) lf__law_plan cf__law_plan kf__law_plan).binds (ps := ["deck", "base", "rows", "columns", "often"]) fun _ _ _ _ _ _ us hl => match us, hl with | [_, _, _, _, _], _ => rfl
  m__law_plan := PySem.W.mg_of X G af__law_plan
  a_Written___eq__ := a_Written___eq__
  fd_Written___eq__ := PySem.W.fnOf "__eq__" "Written.__eq__" (defArgs s_Written___eq__) (defBody s_Written___eq__) (defScope s_Written___eq__) .none kV_Written___eq__ dc_Written___eq__ pm_Written___eq__ an_Written___eq__ cd_Written___eq__ ct_Written___eq__
  F_Written___eq__ := fun_mk (st := s_Written___eq__) lf_Written___eq__ cf_Written___eq__ kf_Written___eq__
  b_Written___eq__ := (fun_mk (st := s_Written___eq__) lf_Written___eq__ cf_Written___eq__ kf_Written___eq__).binds (ps := ["self", "other"]) fun _ _ _ _ _ _ us hl => match us, hl with | [_, _], _ => rfl
  me_Written___eq__ := ⟨af_Written___eq__, if_Written___eq__, kf_Written___eq__⟩
  a__law_deed_in := a__law_deed_in
  fd__law_deed_in := PySem.W.fnOf "_law_deed_in" "_law_deed_in" (defArgs s__law_deed_in) (defBody s__law_deed_in) (defScope s__law_deed_in) .none kV__law_deed_in dc__law_deed_in pm__law_deed_in an__law_deed_in cd__law_deed_in ct__law_deed_in
  F__law_deed_in := fun_mk (st := s__law_deed_in) lf__law_deed_in cf__law_deed_in kf__law_deed_in
  b__law_deed_in := (fun_mk (st := s__law_deed_in) lf__law_deed_in cf__law_deed_in kf__law_deed_in).binds (ps := ["order", "deed"]) fun _ _ _ _ _ _ us hl => match us, hl with | [_, _], _ => rfl
  m__law_deed_in := PySem.W.mg_of X G af__law_deed_in
  a__law_rows_order := a__law_rows_order
  fd__law_rows_order := PySem.W.fnOf "_law_rows_order" "_law_rows_order" (defArgs s__law_rows_order) (defBody s__law_rows_order) (defScope s__law_rows_order) .none kV__law_rows_order dc__law_rows_order pm__law_rows_order an__law_rows_order cd__law_rows_order ct__law_rows_order
  F__law_rows_order := fun_mk (st := s__law_rows_order) lf__law_rows_order cf__law_rows_order kf__law_rows_order
  b__law_rows_order := (fun_mk (st := s__law_rows_order) lf__law_rows_order cf__law_rows_order kf__law_rows_order).binds (ps := ["deck", "rows"]) fun _ _ _ _ _ _ us hl => match us, hl with | [_, _], _ => rfl
  m__law_rows_order := PySem.W.mg_of X G af__law_rows_order
  a__law_rows_right := a__law_rows_right
  fd__law_rows_right := PySem.W.fnOf "_law_rows_right" "_law_rows_right" (defArgs s__law_rows_right) (defBody s__law_rows_right) (defScope s__law_rows_right) .none kV__law_rows_right dc__law_rows_right pm__law_rows_right an__law_rows_right cd__law_rows_right ct__law_rows_right
  F__law_rows_right := fun_mk (st := s__law_rows_right) lf__law_rows_right cf__law_rows_right kf__law_rows_right
  b__law_rows_right := (fun_mk (st := s__law_rows_right) lf__law_rows_right cf__law_rows_right kf__law_rows_right).binds (ps := ["deck", "sheet", "columns", "slips"]) fun _ _ _ _ _ _ us hl => match us, hl with | [_, _, _, _], _ => rfl
  m__law_rows_right := PySem.W.mg_of X G af__law_rows_right
  a__law_slips := a__law_slips
  fd__law_slips := PySem.W.fnOf "_law_slips" "_law_slips" (defArgs s__law_slips) (defBody s__law_slips) (defScope s__law_slips) .none kV__law_slips dc__law_slips pm__law_slips an__law_slips cd__law_slips ct__law_slips
  F__law_slips := fun_mk (st := s__law_slips) lf__law_slips cf__law_slips kf__law_slips
  b__law_slips := (fun_mk (st := s__law_slips) lf__law_slips cf__law_slips kf__law_slips).binds (ps := ["deeds"]) fun _ _ _ _ _ _ us hl => match us, hl with | [_], _ => rfl
  m__law_slips := PySem.W.mg_of X G af__law_slips
  a__law_moved := a__law_moved
  fd__law_moved := PySem.W.fnOf "_law_moved" "_law_moved" (defArgs s__law_moved) (defBody s__law_moved) (defScope s__law_moved) .none kV__law_moved dc__law_moved pm__law_moved an__law_moved cd__law_moved ct__law_moved
  F__law_moved := fun_mk (st := s__law_moved) lf__law_moved cf__law_moved kf__law_moved
  b__law_moved := (fun_mk (st := s__law_moved) lf__law_moved cf__law_moved kf__law_moved).binds (ps := ["deck", "column", "base"]) fun _ _ _ _ _ _ us hl => match us, hl with | [_, _, _], _ => rfl
  m__law_moved := PySem.W.mg_of X G af__law_moved
  a__law_sums_right := a__law_sums_right
  fd__law_sums_right := PySem.W.fnOf "_law_sums_right" "_law_sums_right" (defArgs s__law_sums_right) (defBody s__law_sums_right) (defScope s__law_sums_right) .none kV__law_sums_right dc__law_sums_right pm__law_sums_right an__law_sums_right cd__law_sums_right ct__law_sums_right
  F__law_sums_right := fun_mk (st := s__law_sums_right) lf__law_sums_right cf__law_sums_right kf__law_sums_right
  b__law_sums_right := (fun_mk (st := s__law_sums_right) lf__law_sums_right cf__law_sums_right kf__law_sums_right).binds (ps := ["deck", "sheet", "columns", "slips"]) fun _ _ _ _ _ _ us hl => match us, hl with | [_, _, _, _], _ => rfl
  m__law_sums_right := PySem.W.mg_of X G af__law_sums_right
  a_Sheet___setitem__ := a_Sheet___setitem__
  fd_Sheet___setitem__ := PySem.W.fnOf "__setitem__" "Sheet.__setitem__" (defArgs s_Sheet___setitem__) (defBody s_Sheet___setitem__) (defScope s_Sheet___setitem__) .none kV_Sheet___setitem__ dc_Sheet___setitem__ pm_Sheet___setitem__ an_Sheet___setitem__ cd_Sheet___setitem__ ct_Sheet___setitem__
  F_Sheet___setitem__ := fun_mk (st := s_Sheet___setitem__) lf_Sheet___setitem__ cf_Sheet___setitem__ kf_Sheet___setitem__
  b_Sheet___setitem__ := (fun_mk (st := s_Sheet___setitem__) lf_Sheet___setitem__ cf_Sheet___setitem__ kf_Sheet___setitem__).binds (ps := ["self", "at", "worth"]) fun _ _ _ _ _ _ us hl => match us, hl with | [_, _, _], _ => rfl
  me_Sheet___setitem__ := ⟨af_Sheet___setitem__, if_Sheet___setitem__, kf_Sheet___setitem__⟩
  a_add_right := a_add_right
  fd_add_right := PySem.W.fnOf "add_right" "add_right" (defArgs s_add_right) (defBody s_add_right) (defScope s_add_right) .none kV_add_right dc_add_right pm_add_right an_add_right cd_add_right ct_add_right
  F_add_right := fun_mk (st := s_add_right) lf_add_right cf_add_right kf_add_right
  b_add_right := (fun_mk (st := s_add_right) lf_add_right cf_add_right kf_add_right).binds (ps := ["sheet"]) fun _ _ _ _ _ _ us hl => match us, hl with | [_], _ => rfl
  m_add_right := PySem.W.mg_of X G af_add_right
  a__law_twins_right := a__law_twins_right
  fd__law_twins_right := PySem.W.fnOf "_law_twins_right" "_law_twins_right" (defArgs s__law_twins_right) (defBody s__law_twins_right) (defScope s__law_twins_right) .none kV__law_twins_right dc__law_twins_right pm__law_twins_right an__law_twins_right cd__law_twins_right ct__law_twins_right
  F__law_twins_right := fun_mk (st := s__law_twins_right) lf__law_twins_right cf__law_twins_right kf__law_twins_right
  b__law_twins_right := (fun_mk (st := s__law_twins_right) lf__law_twins_right cf__law_twins_right kf__law_twins_right).binds (ps := ["deck", "sheet", "base", "rows", "columns"]) fun _ _ _ _ _ _ us hl => match us, hl with | [_, _, _, _, _], _ => rfl
  m__law_twins_right := PySem.W.mg_of X G af__law_twins_right
  a_law := a_law
  fd_law := PySem.W.fnOf "law" "law" (defArgs s_law) (defBody s_law) (defScope s_law) .none kV_law dc_law pm_law an_law cd_law ct_law
  F_law := fun_mk (st := s_law) lf_law cf_law kf_law
  b_law := (fun_mk (st := s_law) lf_law cf_law kf_law).binds (ps := ["script"]) fun _ _ _ _ _ _ us hl => match us, hl with | [_], _ => rfl
  m_law := PySem.W.mg_of X G af_law
  cl_Sheet := ⟨pg_Sheet, hd_Sheet, po_Sheet, sa_Sheet⟩
  k_Sheet := ⟨mk_Sheet, af_Sheet___init__, if_Sheet___init__, kc_Sheet⟩
  na_Sheet__base := na_Sheet__base
  na_Sheet__columns := na_Sheet__columns
  na_Sheet__rows := na_Sheet__rows
  ns_Sheet := ns_Sheet
  sf_Sheet := sf_Sheet
  cl_Written := ⟨pg_Written, hd_Written, po_Written, sa_Written⟩
  k_Written := ⟨mk_Written, af_Written___init__, if_Written___init__, kc_Written⟩
  na_Written__base := na_Written__base
  na_Written__figures := na_Written__figures
  na_Written__last := na_Written__last
  sf_Written := sf_Written
  ic_Sheet := ⟨ic1_Sheet, icn, ict, ic4_Sheet⟩
  io_Sheet := io_Sheet
  ic_Written := ⟨ic1_Written, icn, ict, ic4_Written⟩
  io_Written := io_Written
  nop_Sheet_sub := ⟨⟨_, nc_Sheet, nmr_Sheet⟩, no0_Sheet_sub, no1_Sheet_sub, no2_Sheet_sub, no3_Sheet_sub⟩
  ne_Written_Sheet := ne_Written_Sheet
  do_Written := dataOut nf_Written_NoneType nf_Written_bool nf_Written_int nf_Written_str nf_Written_list nf_Written_tuple nf_Written_dict ki_Written_NoneType ki_Written_bool ki_Written_int ki_Written_str ki_Written_list ki_Written_tuple ki_Written_dict
  x_InvalidColumn := x_InvalidColumn
  xk_InvalidColumn := xk_InvalidColumn
  xb_InvalidColumn := xb_InvalidColumn
  xt_InvalidColumn := xt_InvalidColumn
  x_InvalidSheet := x_InvalidSheet
  xk_InvalidSheet := xk_InvalidSheet
  xb_InvalidSheet := xb_InvalidSheet
  xt_InvalidSheet := xt_InvalidSheet
  x_NotAlike := x_NotAlike
  xk_NotAlike := xk_NotAlike
  xb_NotAlike := xb_NotAlike
  xt_NotAlike := xt_NotAlike
  n_all := PySem.W.mg_none_of X G nb_all
  n_bool := PySem.W.mg_none_of X G nb_bool
  n_enumerate := PySem.W.mg_none_of X G nb_enumerate
  n_int := PySem.W.mg_none_of X G nb_int
  n_isinstance := PySem.W.mg_none_of X G nb_isinstance
  n_len := PySem.W.mg_none_of X G nb_len
  n_list := PySem.W.mg_none_of X G nb_list
  n_min := PySem.W.mg_none_of X G nb_min
  n_range := PySem.W.mg_none_of X G nb_range
  n_str := PySem.W.mg_none_of X G nb_str
  n_sum := PySem.W.mg_none_of X G nb_sum
  n_tuple := PySem.W.mg_none_of X G nb_tuple
  tk_MOST_BASE := tk_MOST_BASE
  m_MOST_BASE := PySem.W.mg_of X G ak_MOST_BASE
  tk_MOST_ROWS := tk_MOST_ROWS
  m_MOST_ROWS := PySem.W.mg_of X G ak_MOST_ROWS
theorem fin {P : Program} {w : World} {K : PySem.W.Frag} {h : Heap} {mg : Str → Option Value} {fa : Addr} (X : K.In h) (G : h.Ns mainGlobals mg) (hfa : mg "law" = some (.ref fa)) {c_Sheet : Addr} {c_Written : Addr} {c_InvalidSheet : Addr} {c_InvalidColumn : Addr} {c_NotAlike : Addr} {a_is_whole : Addr} {oc_is_whole kV_is_whole dc_is_whole pm_is_whole cd_is_whole ct_is_whole : Value} {od_is_whole an_is_whole : Option Addr} {sl_is_whole : Array (Option Value)} {a_is_column : Addr} {oc_is_column kV_is_column dc_is_column pm_is_column cd_is_column ct_is_column : Value} {od_is_column an_is_column : Option Addr} {sl_is_column : Array (Option Value)} {a__are_columns : Addr} {oc__are_columns kV__are_columns dc__are_columns pm__are_columns cd__are_columns ct__are_columns : Value} {od__are_columns an__are_columns : Option Addr} {sl__are_columns : Array (Option Value)} {a_is_base : Addr} {oc_is_base kV_is_base dc_is_base pm_is_base cd_is_base ct_is_base : Value} {od_is_base an_is_base : Option Addr} {sl_is_base : Array (Option Value)} {a_is_rows : Addr} {oc_is_rows kV_is_rows dc_is_rows pm_is_rows cd_is_rows ct_is_rows : Value} {od_is_rows an_is_rows : Option Addr} {sl_is_rows : Array (Option Value)} {a_Sheet___init__ : Addr} {oc_Sheet___init__ kV_Sheet___init__ dc_Sheet___init__ pm_Sheet___init__ cd_Sheet___init__ ct_Sheet___init__ : Value} {od_Sheet___init__ an_Sheet___init__ : Option Addr} {sl_Sheet___init__ : Array (Option Value)} {a_Sheet_base : Addr} {oc_Sheet_base kV_Sheet_base dc_Sheet_base pm_Sheet_base cd_Sheet_base ct_Sheet_base : Value} {od_Sheet_base an_Sheet_base : Option Addr} {sl_Sheet_base : Array (Option Value)} {pa_Sheet_base : Addr} {re_Sheet_base : List Value} {a_Sheet_rows : Addr} {oc_Sheet_rows kV_Sheet_rows dc_Sheet_rows pm_Sheet_rows cd_Sheet_rows ct_Sheet_rows : Value} {od_Sheet_rows an_Sheet_rows : Option Addr} {sl_Sheet_rows : Array (Option Value)} {pa_Sheet_rows : Addr} {re_Sheet_rows : List Value} {a_check_alike : Addr} {oc_check_alike kV_check_alike dc_check_alike pm_check_alike cd_check_alike ct_check_alike : Value} {od_check_alike an_check_alike : Option Addr} {sl_check_alike : Array (Option Value)} {a_Sheet___add__ : Addr} {oc_Sheet___add__ kV_Sheet___add__ dc_Sheet___add__ pm_Sheet___add__ cd_Sheet___add__ ct_Sheet___add__ : Value} {od_Sheet___add__ an_Sheet___add__ : Option Addr} {sl_Sheet___add__ : Array (Option Value)} {a_Sheet___len__ : Addr} {oc_Sheet___len__ kV_Sheet___len__ dc_Sheet___len__ pm_Sheet___len__ cd_Sheet___len__ ct_Sheet___len__ : Value} {od_Sheet___len__ an_Sheet___len__ : Option Addr} {sl_Sheet___len__ : Array (Option Value)} {a_place_value : Addr} {oc_place_value kV_place_value dc_place_value pm_place_value cd_place_value ct_place_value : Value} {od_place_value an_place_value : Option Addr} {sl_place_value : Array (Option Value)} {a_Sheet_value : Addr} {oc_Sheet_value kV_Sheet_value dc_Sheet_value pm_Sheet_value cd_Sheet_value ct_Sheet_value : Value} {od_Sheet_value an_Sheet_value : Option Addr} {sl_Sheet_value : Array (Option Value)} {pa_Sheet_value : Addr} {re_Sheet_value : List Value} {a_Written_value : Addr} {oc_Written_value kV_Written_value dc_Written_value pm_Written_value cd_Written_value ct_Written_value : Value} {od_Written_value an_Written_value : Option Addr} {sl_Written_value : Array (Option Value)} {pa_Written_value : Addr} {re_Written_value : List Value} {a_Written___sub__ : Addr} {oc_Written___sub__ kV_Written___sub__ dc_Written___sub__ pm_Written___sub__ cd_Written___sub__ ct_Written___sub__ : Value} {od_Written___sub__ an_Written___sub__ : Option Addr} {sl_Written___sub__ : Array (Option Value)} {a_Written_figures : Addr} {oc_Written_figures kV_Written_figures dc_Written_figures pm_Written_figures cd_Written_figures ct_Written_figures : Value} {od_Written_figures an_Written_figures : Option Addr} {sl_Written_figures : Array (Option Value)} {pa_Written_figures : Addr} {re_Written_figures : List Value} {a__law_power : Addr} {oc__law_power kV__law_power dc__law_power pm__law_power cd__law_power ct__law_power : Value} {od__law_power an__law_power : Option Addr} {sl__law_power : Array (Option Value)} {a_Sheet_columns : Addr} {oc_Sheet_columns kV_Sheet_columns dc_Sheet_columns pm_Sheet_columns cd_Sheet_columns ct_Sheet_columns : Value} {od_Sheet_columns an_Sheet_columns : Option Addr} {sl_Sheet_columns : Array (Option Value)} {pa_Sheet_columns : Addr} {re_Sheet_columns : List Value} {a_Written___init__ : Addr} {oc_Written___init__ kV_Written___init__ dc_Written___init__ pm_Written___init__ cd_Written___init__ ct_Written___init__ : Value} {od_Written___init__ an_Written___init__ : Option Addr} {sl_Written___init__ : Array (Option Value)} {a_do_sum : Addr} {oc_do_sum kV_do_sum dc_do_sum pm_do_sum cd_do_sum ct_do_sum : Value} {od_do_sum an_do_sum : Option Addr} {sl_do_sum : Array (Option Value)} {a_do_columns : Addr} {oc_do_columns kV_do_columns dc_do_columns pm_do_columns cd_do_columns ct_do_columns : Value} {od_do_columns an_do_columns : Option Addr} {sl_do_columns : Array (Option Value)} {a_sum_taken : Addr} {oc_sum_taken kV_sum_taken dc_sum_taken pm_sum_taken cd_sum_taken ct_sum_taken : Value} {od_sum_taken an_sum_taken : Option Addr} {sl_sum_taken : Array (Option Value)} {a_do_slip : Addr} {oc_do_slip kV_do_slip dc_do_slip pm_do_slip cd_do_slip ct_do_slip : Value} {od_do_slip an_do_slip : Option Addr} {sl_do_slip : Array (Option Value)} {a__is_plain : Addr} {oc__is_plain kV__is_plain dc__is_plain pm__is_plain cd__is_plain ct__is_plain : Value} {od__is_plain an__is_plain : Option Addr} {sl__is_plain : Array (Option Value)} {a_deeds_of : Addr} {oc_deeds_of kV_deeds_of dc_deeds_of pm_deeds_of cd_deeds_of ct_deeds_of : Value} {od_deeds_of an_deeds_of : Option Addr} {sl_deeds_of : Array (Option Value)} {a_is_deed : Addr} {oc_is_deed kV_is_deed dc_is_deed pm_is_deed cd_is_deed ct_is_deed : Value} {od_is_deed an_is_deed : Option Addr} {sl_is_deed : Array (Option Value)} {a_is_slip : Addr} {oc_is_slip kV_is_slip dc_is_slip pm_is_slip cd_is_slip ct_is_slip : Value} {od_is_slip an_is_slip : Option Addr} {sl_is_slip : Array (Option Value)} {a_add_with : Addr} {oc_add_with kV_add_with dc_add_with pm_add_with cd_add_with ct_add_with : Value} {od_add_with an_add_with : Option Addr} {sl_add_with : Array (Option Value)} {a__law_behind_right : Addr} {oc__law_behind_right kV__law_behind_right dc__law_behind_right pm__law_behind_right cd__law_behind_right ct__law_behind_right : Value} {od__law_behind_right an__law_behind_right : Option Addr} {sl__law_behind_right : Array (Option Value)} {a__law_cells : Addr} {oc__law_cells kV__law_cells dc__law_cells pm__law_cells cd__law_cells ct__law_cells : Value} {od__law_cells an__law_cells : Option Addr} {sl__law_cells : Array (Option Value)} {a__law_draw : Addr} {oc__law_draw kV__law_draw dc__law_draw pm__law_draw cd__law_draw ct__law_draw : Value} {od__law_draw an__law_draw : Option Addr} {sl__law_draw : Array (Option Value)} {a__law_column : Addr} {oc__law_column kV__law_column dc__law_column pm__law_column cd__law_column ct__law_column : Value} {od__law_column an__law_column : Option Addr} {sl__law_column : Array (Option Value)} {a__law_columns : Addr} {oc__law_columns kV__law_columns dc__law_columns pm__law_columns cd__law_columns ct__law_columns : Value} {od__law_columns an__law_columns : Option Addr} {sl__law_columns : Array (Option Value)} {a__law_deck : Addr} {oc__law_deck kV__law_deck dc__law_deck pm__law_deck cd__law_deck ct__law_deck : Value} {od__law_deck an__law_deck : Option Addr} {sl__law_deck : Array (Option Value)} {a_Sheet_cut : Addr} {oc_Sheet_cut kV_Sheet_cut dc_Sheet_cut pm_Sheet_cut cd_Sheet_cut ct_Sheet_cut : Value} {od_Sheet_cut an_Sheet_cut : Option Addr} {sl_Sheet_cut : Array (Option Value)} {a__law_parts_right : Addr} {oc__law_parts_right kV__law_parts_right dc__law_parts_right pm__law_parts_right cd__law_parts_right ct__law_parts_right : Value} {od__law_parts_right an__law_parts_right : Option Addr} {sl__law_parts_right : Array (Option Value)} {a__law_deed : Addr} {oc__law_deed kV__law_deed dc__law_deed pm__law_deed cd__law_deed ct__law_deed : Value} {od__law_deed an__law_deed : Option Addr} {sl__law_deed : Array (Option Value)} {a__law_taken : Addr} {oc__law_taken kV__law_taken dc__law_taken pm__law_taken cd__law_taken ct__law_taken : Value} {od__law_taken an__law_taken : Option Addr} {sl__law_taken : Array (Option Value)} {a__law_step : Addr} {oc__law_step kV__law_step dc__law_step pm__law_step cd__law_step ct__law_step : Value} {od__law_step an__law_step : Option Addr} {sl__law_step : Array (Option Value)} {a__law_plan : Addr} {oc__law_plan kV__law_plan dc__law_plan pm__law_plan cd__law_plan ct__law_plan : Value} {od__law_plan an__law_plan : Option Addr} {sl__law_plan : Array (Option Value)} {a_Written___eq__ : Addr} {oc_Written___eq__ kV_Written___eq__ dc_Written___eq__ pm_Written___eq__ cd_Written___eq__ ct_Written___eq__ : Value} {od_Written___eq__ an_Written___eq__ : Option Addr} {sl_Written___eq__ : Array (Option Value)} {a__law_deed_in : Addr} {oc__law_deed_in kV__law_deed_in dc__law_deed_in pm__law_deed_in cd__law_deed_in ct__law_deed_in : Value} {od__law_deed_in an__law_deed_in : Option Addr} {sl__law_deed_in : Array (Option Value)} {a__law_rows_order : Addr} {oc__law_rows_order kV__law_rows_order dc__law_rows_order pm__law_rows_order cd__law_rows_order ct__law_rows_order : Value} {od__law_rows_order an__law_rows_order : Option Addr} {sl__law_rows_order : Array (Option Value)} {a__law_rows_right : Addr} {oc__law_rows_right kV__law_rows_right dc__law_rows_right pm__law_rows_right cd__law_rows_right ct__law_rows_right : Value} {od__law_rows_right an__law_rows_right : Option Addr} {sl__law_rows_right : Array (Option Value)} {a__law_slips : Addr} {oc__law_slips kV__law_slips dc__law_slips pm__law_slips cd__law_slips ct__law_slips : Value} {od__law_slips an__law_slips : Option Addr} {sl__law_slips : Array (Option Value)} {a__law_moved : Addr} {oc__law_moved kV__law_moved dc__law_moved pm__law_moved cd__law_moved ct__law_moved : Value} {od__law_moved an__law_moved : Option Addr} {sl__law_moved : Array (Option Value)} {a__law_sums_right : Addr} {oc__law_sums_right kV__law_sums_right dc__law_sums_right pm__law_sums_right cd__law_sums_right ct__law_sums_right : Value} {od__law_sums_right an__law_sums_right : Option Addr} {sl__law_sums_right : Array (Option Value)} {a_Sheet___setitem__ : Addr} {oc_Sheet___setitem__ kV_Sheet___setitem__ dc_Sheet___setitem__ pm_Sheet___setitem__ cd_Sheet___setitem__ ct_Sheet___setitem__ : Value} {od_Sheet___setitem__ an_Sheet___setitem__ : Option Addr} {sl_Sheet___setitem__ : Array (Option Value)} {a_add_right : Addr} {oc_add_right kV_add_right dc_add_right pm_add_right cd_add_right ct_add_right : Value} {od_add_right an_add_right : Option Addr} {sl_add_right : Array (Option Value)} {a__law_twins_right : Addr} {oc__law_twins_right kV__law_twins_right dc__law_twins_right pm__law_twins_right cd__law_twins_right ct__law_twins_right : Value} {od__law_twins_right an__law_twins_right : Option Addr} {sl__law_twins_right : Array (Option Value)} {a_law : Addr} {oc_law kV_law dc_law pm_law cd_law ct_law : Value} {od_law an_law : Option Addr} {sl_law : Array (Option Value)} {cd_of_Sheet : ClassData} {tk_MOST_BASE : Tok} {tk_MOST_ROWS : Tok}
    (ac_Sheet : PySem.W.nsIn K mainGlobals "Sheet" = some (some (.ref c_Sheet)))
    (ac_Written : PySem.W.nsIn K mainGlobals "Written" = some (some (.ref c_Written)))
    (ac_InvalidSheet : PySem.W.nsIn K mainGlobals "InvalidSheet" = some (some (.ref c_InvalidSheet)))
    (ac_InvalidColumn : PySem.W.nsIn K mainGlobals "InvalidColumn" = some (some (.ref c_InvalidColumn)))
    (ac_NotAlike : PySem.W.nsIn K mainGlobals "NotAlike" = some (some (.ref c_NotAlike)))
    (af_is_whole : PySem.W.nsIn K mainGlobals "is_whole" = some (some (.ref a_is_whole)))
    (lf_is_whole : K.lookup a_is_whole = some ⟨oc_is_whole, od_is_whole, .func (PySem.W.fnOf "is_whole" "is_whole" (defArgs s_is_whole) (defBody s_is_whole) (defScope s_is_whole) .none kV_is_whole dc_is_whole pm_is_whole an_is_whole cd_is_whole ct_is_whole), sl_is_whole⟩)
    (cf_is_whole : PySem.W.codeIn K cd_is_whole "is_whole" = true)
    (kf_is_whole : PySem.W.keepIn K (.ref a_is_whole) = true)
    (af_is_column : PySem.W.nsIn K mainGlobals "is_column" = some (some (.ref a_is_column)))
    (lf_is_column : K.lookup a_is_column = some ⟨oc_is_column, od_is_column, .func (PySem.W.fnOf "is_column" "is_column" (defArgs s_is_column) (defBody s_is_column) (defScope s_is_column) .none kV_is_column dc_is_column pm_is_column an_is_column cd_is_column ct_is_column), sl_is_column⟩)
    (cf_is_column : PySem.W.codeIn K cd_is_column "is_column" = true)
    (kf_is_column : PySem.W.keepIn K (.ref a_is_column) = true)
    (af__are_columns : PySem.W.nsIn K mainGlobals "_are_columns" = some (some (.ref a__are_columns)))
    (lf__are_columns : K.lookup a__are_columns = some ⟨oc__are_columns, od__are_columns, .func (PySem.W.fnOf "_are_columns" "_are_columns" (defArgs s__are_columns) (defBody s__are_columns) (defScope s__are_columns) .none kV__are_columns dc__are_columns pm__are_columns an__are_columns cd__are_columns ct__are_columns), sl__are_columns⟩)
    (cf__are_columns : PySem.W.codeIn K cd__are_columns "_are_columns" = true)
    (kf__are_columns : PySem.W.keepIn K (.ref a__are_columns) = true)
    (af_is_base : PySem.W.nsIn K mainGlobals "is_base" = some (some (.ref a_is_base)))
    (lf_is_base : K.lookup a_is_base = some ⟨oc_is_base, od_is_base, .func (PySem.W.fnOf "is_base" "is_base" (defArgs s_is_base) (defBody s_is_base) (defScope s_is_base) .none kV_is_base dc_is_base pm_is_base an_is_base cd_is_base ct_is_base), sl_is_base⟩)
    (cf_is_base : PySem.W.codeIn K cd_is_base "is_base" = true)
    (kf_is_base : PySem.W.keepIn K (.ref a_is_base) = true)
    (af_is_rows : PySem.W.nsIn K mainGlobals "is_rows" = some (some (.ref a_is_rows)))
    (lf_is_rows : K.lookup a_is_rows = some ⟨oc_is_rows, od_is_rows, .func (PySem.W.fnOf "is_rows" "is_rows" (defArgs s_is_rows) (defBody s_is_rows) (defScope s_is_rows) .none kV_is_rows dc_is_rows pm_is_rows an_is_rows cd_is_rows ct_is_rows), sl_is_rows⟩)
    (cf_is_rows : PySem.W.codeIn K cd_is_rows "is_rows" = true)
    (kf_is_rows : PySem.W.keepIn K (.ref a_is_rows) = true)
    (af_Sheet___init__ : PySem.W.findIn K (.ref c_Sheet) "__init__" = some (some (.ref a_Sheet___init__)))
    (if_Sheet___init__ : PySem.W.isFn K (.ref a_Sheet___init__) = true)
    (lf_Sheet___init__ : K.lookup a_Sheet___init__ = some ⟨oc_Sheet___init__, od_Sheet___init__, .func (PySem.W.fnOf "__init__" "Sheet.__init__" (defArgs s_Sheet___init__) (defBody s_Sheet___init__) (defScope s_Sheet___init__) .none kV_Sheet___init__ dc_Sheet___init__ pm_Sheet___init__ an_Sheet___init__ cd_Sheet___init__ ct_Sheet___init__), sl_Sheet___init__⟩)
    (cf_Sheet___init__ : PySem.W.codeIn K cd_Sheet___init__ "Sheet.__init__" = true)
    (kf_Sheet___init__ : PySem.W.keepIn K (.ref a_Sheet___init__) = true)
    (pf_Sheet_base : PySem.W.findIn K (.ref c_Sheet) "base" = some (some (.ref pa_Sheet_base)))
    (pg_Sheet_base : PySem.W.specialIn K (.ref pa_Sheet_base) "__get__" = some (some (.builtin "property.__get__")))
    (pt_Sheet_base : PySem.W.takesIn K (.ref pa_Sheet_base) = some true)
    (pr_Sheet_base : PySem.W.recIn K pa_Sheet_base "property" = some (.ref a_Sheet_base :: re_Sheet_base))
    (lf_Sheet_base : K.lookup a_Sheet_base = some ⟨oc_Sheet_base, od_Sheet_base, .func (PySem.W.fnOf "base" "Sheet.base" (defArgs s_Sheet_base) (defBody s_Sheet_base) (defScope s_Sheet_base) .none kV_Sheet_base dc_Sheet_base pm_Sheet_base an_Sheet_base cd_Sheet_base ct_Sheet_base), sl_Sheet_base⟩)
    (cf_Sheet_base : PySem.W.codeIn K cd_Sheet_base "Sheet.base" = true)
    (kf_Sheet_base : PySem.W.keepIn K (.ref a_Sheet_base) = true)
    (pf_Sheet_rows : PySem.W.findIn K (.ref c_Sheet) "rows" = some (some (.ref pa_Sheet_rows)))
    (pg_Sheet_rows : PySem.W.specialIn K (.ref pa_Sheet_rows) "__get__" = some (some (.builtin "property.__get__")))
    (pt_Sheet_rows : PySem.W.takesIn K (.ref pa_Sheet_rows) = some true)
    (pr_Sheet_rows : PySem.W.recIn K pa_Sheet_rows "property" = some (.ref a_Sheet_rows :: re_Sheet_rows))
    (lf_Sheet_rows : K.lookup a_Sheet_rows = some ⟨oc_Sheet_rows, od_Sheet_rows, .func (PySem.W.fnOf "rows" "Sheet.rows" (defArgs s_Sheet_rows) (defBody s_Sheet_rows) (defScope s_Sheet_rows) .none kV_Sheet_rows dc_Sheet_rows pm_Sheet_rows an_Sheet_rows cd_Sheet_rows ct_Sheet_rows), sl_Sheet_rows⟩)
    (cf_Sheet_rows : PySem.W.codeIn K cd_Sheet_rows "Sheet.rows" = true)
    (kf_Sheet_rows : PySem.W.keepIn K (.ref a_Sheet_rows) = true)
    (af_check_alike : PySem.W.nsIn K mainGlobals "check_alike" = some (some (.ref a_check_alike)))
    (lf_check_alike : K.lookup a_check_alike = some ⟨oc_check_alike, od_check_alike, .func (PySem.W.fnOf "check_alike" "check_alike" (defArgs s_check_alike) (defBody s_check_alike) (defScope s_check_alike) .none kV_check_alike dc_check_alike pm_check_alike an_check_alike cd_check_alike ct_check_alike), sl_check_alike⟩)
    (cf_check_alike : PySem.W.codeIn K cd_check_alike "check_alike" = true)
    (kf_check_alike : PySem.W.keepIn K (.ref a_check_alike) = true)
    (af_Sheet___add__ : PySem.W.findIn K (.ref c_Sheet) "__add__" = some (some (.ref a_Sheet___add__)))
    (if_Sheet___add__ : PySem.W.isFn K (.ref a_Sheet___add__) = true)
    (lf_Sheet___add__ : K.lookup a_Sheet___add__ = some ⟨oc_Sheet___add__, od_Sheet___add__, .func (PySem.W.fnOf "__add__" "Sheet.__add__" (defArgs s_Sheet___add__) (defBody s_Sheet___add__) (defScope s_Sheet___add__) .none kV_Sheet___add__ dc_Sheet___add__ pm_Sheet___add__ an_Sheet___add__ cd_Sheet___add__ ct_Sheet___add__), sl_Sheet___add__⟩)
    (cf_Sheet___add__ : PySem.W.codeIn K cd_Sheet___add__ "Sheet.__add__" = true)
    (kf_Sheet___add__ : PySem.W.keepIn K (.ref a_Sheet___add__) = true)
    (af_Sheet___len__ : PySem.W.findIn K (.ref c_Sheet) "__len__" = some (some (.ref a_Sheet___len__)))
    (if_Sheet___len__ : PySem.W.isFn K (.ref a_Sheet___len__) = true)
    (lf_Sheet___len__ : K.lookup a_Sheet___len__ = some ⟨oc_Sheet___len__, od_Sheet___len__, .func (PySem.W.fnOf "__len__" "Sheet.__len__" (defArgs s_Sheet___len__) (defBody s_Sheet___len__) (defScope s_Sheet___len__) .none kV_Sheet___len__ dc_Sheet___len__ pm_Sheet___len__ an_Sheet___len__ cd_Sheet___len__ ct_Sheet___len__), sl_Sheet___len__⟩)
    (cf_Sheet___len__ : PySem.W.codeIn K cd_Sheet___len__ "Sheet.__len__" = true)
    (kf_Sheet___len__ : PySem.W.keepIn K (.ref a_Sheet___len__) = true)
    (af_place_value : PySem.W.nsIn K mainGlobals "place_value" = some (some (.ref a_place_value)))
    (lf_place_value : K.lookup a_place_value = some ⟨oc_place_value, od_place_value, .func (PySem.W.fnOf "place_value" "place_value" (defArgs s_place_value) (defBody s_place_value) (defScope s_place_value) .none kV_place_value dc_place_value pm_place_value an_place_value cd_place_value ct_place_value), sl_place_value⟩)
    (cf_place_value : PySem.W.codeIn K cd_place_value "place_value" = true)
    (kf_place_value : PySem.W.keepIn K (.ref a_place_value) = true)
    (pf_Sheet_value : PySem.W.findIn K (.ref c_Sheet) "value" = some (some (.ref pa_Sheet_value)))
    (pg_Sheet_value : PySem.W.specialIn K (.ref pa_Sheet_value) "__get__" = some (some (.builtin "property.__get__")))
    (pt_Sheet_value : PySem.W.takesIn K (.ref pa_Sheet_value) = some true)
    (pr_Sheet_value : PySem.W.recIn K pa_Sheet_value "property" = some (.ref a_Sheet_value :: re_Sheet_value))
    (lf_Sheet_value : K.lookup a_Sheet_value = some ⟨oc_Sheet_value, od_Sheet_value, .func (PySem.W.fnOf "value" "Sheet.value" (defArgs s_Sheet_value) (defBody s_Sheet_value) (defScope s_Sheet_value) .none kV_Sheet_value dc_Sheet_value pm_Sheet_value an_Sheet_value cd_Sheet_value ct_Sheet_value), sl_Sheet_value⟩)
    (cf_Sheet_value : PySem.W.codeIn K cd_Sheet_value "Sheet.value" = true)
    (kf_Sheet_value : PySem.W.keepIn K (.ref a_Sheet_value) = true)
    (pf_Written_value : PySem.W.findIn K (.ref c_Written) "value" = some (some (.ref pa_Written_value)))
    (pg_Written_value : PySem.W.specialIn K (.ref pa_Written_value) "__get__" = some (some (.builtin "property.__get__")))
    (pt_Written_value : PySem.W.takesIn K (.ref pa_Written_value) = some true)
    (pr_Written_value : PySem.W.recIn K pa_Written_value "property" = some (.ref a_Written_value :: re_Written_value))
    (lf_Written_value : K.lookup a_Written_value = some ⟨oc_Written_value, od_Written_value, .func (PySem.W.fnOf "value" "Written.value" (defArgs s_Written_value) (defBody s_Written_value) (defScope s_Written_value) .none kV_Written_value dc_Written_value pm_Written_value an_Written_value cd_Written_value ct_Written_value), sl_Written_value⟩)
    (cf_Written_value : PySem.W.codeIn K cd_Written_value "Written.value" = true)
    (kf_Written_value : PySem.W.keepIn K (.ref a_Written_value) = true)
    (af_Written___sub__ : PySem.W.findIn K (.ref c_Written) "__sub__" = some (some (.ref a_Written___sub__)))
    (if_Written___sub__ : PySem.W.isFn K (.ref a_Written___sub__) = true)
    (lf_Written___sub__ : K.lookup a_Written___sub__ = some ⟨oc_Written___sub__, od_Written___sub__, .func (PySem.W.fnOf "__sub__" "Written.__sub__" (defArgs s_Written___sub__) (defBody s_Written___sub__) (defScope s_Written___sub__) .none kV_Written___sub__ dc_Written___sub__ pm_Written___sub__ an_Written___sub__ cd_Written___sub__ ct_Written___sub__), sl_Written___sub__⟩)
    (cf_Written___sub__ : PySem.W.codeIn K cd_Written___sub__ "Written.__sub__" = true)
    (kf_Written___sub__ : PySem.W.keepIn K (.ref a_Written___sub__) = true)
    (pf_Written_figures : PySem.W.findIn K (.ref c_Written) "figures" = some (some (.ref pa_Written_figures)))
    (pg_Written_figures : PySem.W.specialIn K (.ref pa_Written_figures) "__get__" = some (some (.builtin "property.__get__")))
    (pt_Written_figures : PySem.W.takesIn K (.ref pa_Written_figures) = some true)
    (pr_Written_figures : PySem.W.recIn K pa_Written_figures "property" = some (.ref a_Written_figures :: re_Written_figures))
    (lf_Written_figures : K.lookup a_Written_figures = some ⟨oc_Written_figures, od_Written_figures, .func (PySem.W.fnOf "figures" "Written.figures" (defArgs s_Written_figures) (defBody s_Written_figures) (defScope s_Written_figures) .none kV_Written_figures dc_Written_figures pm_Written_figures an_Written_figures cd_Written_figures ct_Written_figures), sl_Written_figures⟩)
    (cf_Written_figures : PySem.W.codeIn K cd_Written_figures "Written.figures" = true)
    (kf_Written_figures : PySem.W.keepIn K (.ref a_Written_figures) = true)
    (af__law_power : PySem.W.nsIn K mainGlobals "_law_power" = some (some (.ref a__law_power)))
    (lf__law_power : K.lookup a__law_power = some ⟨oc__law_power, od__law_power, .func (PySem.W.fnOf "_law_power" "_law_power" (defArgs s__law_power) (defBody s__law_power) (defScope s__law_power) .none kV__law_power dc__law_power pm__law_power an__law_power cd__law_power ct__law_power), sl__law_power⟩)
    (cf__law_power : PySem.W.codeIn K cd__law_power "_law_power" = true)
    (kf__law_power : PySem.W.keepIn K (.ref a__law_power) = true)
    (pf_Sheet_columns : PySem.W.findIn K (.ref c_Sheet) "columns" = some (some (.ref pa_Sheet_columns)))
    (pg_Sheet_columns : PySem.W.specialIn K (.ref pa_Sheet_columns) "__get__" = some (some (.builtin "property.__get__")))
    (pt_Sheet_columns : PySem.W.takesIn K (.ref pa_Sheet_columns) = some true)
    (pr_Sheet_columns : PySem.W.recIn K pa_Sheet_columns "property" = some (.ref a_Sheet_columns :: re_Sheet_columns))
    (lf_Sheet_columns : K.lookup a_Sheet_columns = some ⟨oc_Sheet_columns, od_Sheet_columns, .func (PySem.W.fnOf "columns" "Sheet.columns" (defArgs s_Sheet_columns) (defBody s_Sheet_columns) (defScope s_Sheet_columns) .none kV_Sheet_columns dc_Sheet_columns pm_Sheet_columns an_Sheet_columns cd_Sheet_columns ct_Sheet_columns), sl_Sheet_columns⟩)
    (cf_Sheet_columns : PySem.W.codeIn K cd_Sheet_columns "Sheet.columns" = true)
    (kf_Sheet_columns : PySem.W.keepIn K (.ref a_Sheet_columns) = true)
    (af_Written___init__ : PySem.W.findIn K (.ref c_Written) "__init__" = some (some (.ref a_Written___init__)))
    (if_Written___init__ : PySem.W.isFn K (.ref a_Written___init__) = true)
    (lf_Written___init__ : K.lookup a_Written___init__ = some ⟨oc_Written___init__, od_Written___init__, .func (PySem.W.fnOf "__init__" "Written.__init__" (defArgs s_Written___init__) (defBody s_Written___init__) (defScope s_Written___init__) .none kV_Written___init__ dc_Written___init__ pm_Written___init__ an_Written___init__ cd_Written___init__ ct_Written___init__), sl_Written___init__⟩)
    (cf_Written___init__ : PySem.W.codeIn K cd_Written___init__ "Written.__init__" = true)
    (kf_Written___init__ : PySem.W.keepIn K (.ref a_Written___init__) = true)
    (af_do_sum : PySem.W.nsIn K mainGlobals "do_sum" = some (some (.ref a_do_sum)))
    (lf_do_sum : K.lookup a_do_sum = some ⟨oc_do_sum, od_do_sum, .func (PySem.W.fnOf "do_sum" "do_sum" (defArgs s_do_sum) (defBody s_do_sum) (defScope s_do_sum) .none kV_do_sum dc_do_sum pm_do_sum an_do_sum cd_do_sum ct_do_sum), sl_do_sum⟩)
    (cf_do_sum : PySem.W.codeIn K cd_do_sum "do_sum" = true)
    (kf_do_sum : PySem.W.keepIn K (.ref a_do_sum) = true)
    (af_do_columns : PySem.W.nsIn K mainGlobals "do_columns" = some (some (.ref a_do_columns)))
    (lf_do_columns : K.lookup a_do_columns = some ⟨oc_do_columns, od_do_columns, .func (PySem.W.fnOf "do_columns" "do_columns" (defArgs s_do_columns) (defBody s_do_columns) (defScope s_do_columns) .none kV_do_columns dc_do_columns pm_do_columns an_do_columns cd_do_columns ct_do_columns), sl_do_columns⟩)
    (cf_do_columns : PySem.W.codeIn K cd_do_columns "do_columns" = true)
    (kf_do_columns : PySem.W.keepIn K (.ref a_do_columns) = true)
    (af_sum_taken : PySem.W.nsIn K mainGlobals "sum_taken" = some (some (.ref a_sum_taken)))
    (lf_sum_taken : K.lookup a_sum_taken = some ⟨oc_sum_taken, od_sum_taken, .func (PySem.W.fnOf "sum_taken" "sum_taken" (defArgs s_sum_taken) (defBody s_sum_taken) (defScope s_sum_taken) .none kV_sum_taken dc_sum_taken pm_sum_taken an_sum_taken cd_sum_taken ct_sum_taken), sl_sum_taken⟩)
    (cf_sum_taken : PySem.W.codeIn K cd_sum_taken "sum_taken" = true)
    (kf_sum_taken : PySem.W.keepIn K (.ref a_sum_taken) = true)
    (af_do_slip : PySem.W.nsIn K mainGlobals "do_slip" = some (some (.ref a_do_slip)))
    (lf_do_slip : K.lookup a_do_slip = some ⟨oc_do_slip, od_do_slip, .func (PySem.W.fnOf "do_slip" "do_slip" (defArgs s_do_slip) (defBody s_do_slip) (defScope s_do_slip) .none kV_do_slip dc_do_slip pm_do_slip an_do_slip cd_do_slip ct_do_slip), sl_do_slip⟩)
    (cf_do_slip : PySem.W.codeIn K cd_do_slip "do_slip" = true)
    (kf_do_slip : PySem.W.keepIn K (.ref a_do_slip) = true)
    (af__is_plain : PySem.W.nsIn K mainGlobals "_is_plain" = some (some (.ref a__is_plain)))
    (lf__is_plain : K.lookup a__is_plain = some ⟨oc__is_plain, od__is_plain, .func (PySem.W.fnOf "_is_plain" "_is_plain" (defArgs s__is_plain) (defBody s__is_plain) (defScope s__is_plain) .none kV__is_plain dc__is_plain pm__is_plain an__is_plain cd__is_plain ct__is_plain), sl__is_plain⟩)
    (cf__is_plain : PySem.W.codeIn K cd__is_plain "_is_plain" = true)
    (kf__is_plain : PySem.W.keepIn K (.ref a__is_plain) = true)
    (af_deeds_of : PySem.W.nsIn K mainGlobals "deeds_of" = some (some (.ref a_deeds_of)))
    (lf_deeds_of : K.lookup a_deeds_of = some ⟨oc_deeds_of, od_deeds_of, .func (PySem.W.fnOf "deeds_of" "deeds_of" (defArgs s_deeds_of) (defBody s_deeds_of) (defScope s_deeds_of) .none kV_deeds_of dc_deeds_of pm_deeds_of an_deeds_of cd_deeds_of ct_deeds_of), sl_deeds_of⟩)
    (cf_deeds_of : PySem.W.codeIn K cd_deeds_of "deeds_of" = true)
    (kf_deeds_of : PySem.W.keepIn K (.ref a_deeds_of) = true)
    (af_is_deed : PySem.W.nsIn K mainGlobals "is_deed" = some (some (.ref a_is_deed)))
    (lf_is_deed : K.lookup a_is_deed = some ⟨oc_is_deed, od_is_deed, .func (PySem.W.fnOf "is_deed" "is_deed" (defArgs s_is_deed) (defBody s_is_deed) (defScope s_is_deed) .none kV_is_deed dc_is_deed pm_is_deed an_is_deed cd_is_deed ct_is_deed), sl_is_deed⟩)
    (cf_is_deed : PySem.W.codeIn K cd_is_deed "is_deed" = true)
    (kf_is_deed : PySem.W.keepIn K (.ref a_is_deed) = true)
    (af_is_slip : PySem.W.nsIn K mainGlobals "is_slip" = some (some (.ref a_is_slip)))
    (lf_is_slip : K.lookup a_is_slip = some ⟨oc_is_slip, od_is_slip, .func (PySem.W.fnOf "is_slip" "is_slip" (defArgs s_is_slip) (defBody s_is_slip) (defScope s_is_slip) .none kV_is_slip dc_is_slip pm_is_slip an_is_slip cd_is_slip ct_is_slip), sl_is_slip⟩)
    (cf_is_slip : PySem.W.codeIn K cd_is_slip "is_slip" = true)
    (kf_is_slip : PySem.W.keepIn K (.ref a_is_slip) = true)
    (af_add_with : PySem.W.nsIn K mainGlobals "add_with" = some (some (.ref a_add_with)))
    (lf_add_with : K.lookup a_add_with = some ⟨oc_add_with, od_add_with, .func (PySem.W.fnOf "add_with" "add_with" (defArgs s_add_with) (defBody s_add_with) (defScope s_add_with) .none kV_add_with dc_add_with pm_add_with an_add_with cd_add_with ct_add_with), sl_add_with⟩)
    (cf_add_with : PySem.W.codeIn K cd_add_with "add_with" = true)
    (kf_add_with : PySem.W.keepIn K (.ref a_add_with) = true)
    (af__law_behind_right : PySem.W.nsIn K mainGlobals "_law_behind_right" = some (some (.ref a__law_behind_right)))
    (lf__law_behind_right : K.lookup a__law_behind_right = some ⟨oc__law_behind_right, od__law_behind_right, .func (PySem.W.fnOf "_law_behind_right" "_law_behind_right" (defArgs s__law_behind_right) (defBody s__law_behind_right) (defScope s__law_behind_right) .none kV__law_behind_right dc__law_behind_right pm__law_behind_right an__law_behind_right cd__law_behind_right ct__law_behind_right), sl__law_behind_right⟩)
    (cf__law_behind_right : PySem.W.codeIn K cd__law_behind_right "_law_behind_right" = true)
    (kf__law_behind_right : PySem.W.keepIn K (.ref a__law_behind_right) = true)
    (af__law_cells : PySem.W.nsIn K mainGlobals "_law_cells" = some (some (.ref a__law_cells)))
    (lf__law_cells : K.lookup a__law_cells = some ⟨oc__law_cells, od__law_cells, .func (PySem.W.fnOf "_law_cells" "_law_cells" (defArgs s__law_cells) (defBody s__law_cells) (defScope s__law_cells) .none kV__law_cells dc__law_cells pm__law_cells an__law_cells cd__law_cells ct__law_cells), sl__law_cells⟩)
    (cf__law_cells : PySem.W.codeIn K cd__law_cells "_law_cells" = true)
    (kf__law_cells : PySem.W.keepIn K (.ref a__law_cells) = true)
    (af__law_draw : PySem.W.nsIn K mainGlobals "_law_draw" = some (some (.ref a__law_draw)))
    (lf__law_draw : K.lookup a__law_draw = some ⟨oc__law_draw, od__law_draw, .func (PySem.W.fnOf "_law_draw" "_law_draw" (defArgs s__law_draw) (defBody s__law_draw) (defScope s__law_draw) .none kV__law_draw dc__law_draw pm__law_draw an__law_draw cd__law_draw ct__law_draw), sl__law_draw⟩)
    (cf__law_draw : PySem.W.codeIn K cd__law_draw "_law_draw" = true)
    (kf__law_draw : PySem.W.keepIn K (.ref a__law_draw) = true)
    (af__law_column : PySem.W.nsIn K mainGlobals "_law_column" = some (some (.ref a__law_column)))
    (lf__law_column : K.lookup a__law_column = some ⟨oc__law_column, od__law_column, .func (PySem.W.fnOf "_law_column" "_law_column" (defArgs s__law_column) (defBody s__law_column) (defScope s__law_column) .none kV__law_column dc__law_column pm__law_column an__law_column cd__law_column ct__law_column), sl__law_column⟩)
    (cf__law_column : PySem.W.codeIn K cd__law_column "_law_column" = true)
    (kf__law_column : PySem.W.keepIn K (.ref a__law_column) = true)
    (af__law_columns : PySem.W.nsIn K mainGlobals "_law_columns" = some (some (.ref a__law_columns)))
    (lf__law_columns : K.lookup a__law_columns = some ⟨oc__law_columns, od__law_columns, .func (PySem.W.fnOf "_law_columns" "_law_columns" (defArgs s__law_columns) (defBody s__law_columns) (defScope s__law_columns) .none kV__law_columns dc__law_columns pm__law_columns an__law_columns cd__law_columns ct__law_columns), sl__law_columns⟩)
    (cf__law_columns : PySem.W.codeIn K cd__law_columns "_law_columns" = true)
    (kf__law_columns : PySem.W.keepIn K (.ref a__law_columns) = true)
    (af__law_deck : PySem.W.nsIn K mainGlobals "_law_deck" = some (some (.ref a__law_deck)))
    (lf__law_deck : K.lookup a__law_deck = some ⟨oc__law_deck, od__law_deck, .func (PySem.W.fnOf "_law_deck" "_law_deck" (defArgs s__law_deck) (defBody s__law_deck) (defScope s__law_deck) .none kV__law_deck dc__law_deck pm__law_deck an__law_deck cd__law_deck ct__law_deck), sl__law_deck⟩)
    (cf__law_deck : PySem.W.codeIn K cd__law_deck "_law_deck" = true)
    (kf__law_deck : PySem.W.keepIn K (.ref a__law_deck) = true)
    (af_Sheet_cut : PySem.W.findIn K (.ref c_Sheet) "cut" = some (some (.ref a_Sheet_cut)))
    (if_Sheet_cut : PySem.W.isFn K (.ref a_Sheet_cut) = true)
    (lf_Sheet_cut : K.lookup a_Sheet_cut = some ⟨oc_Sheet_cut, od_Sheet_cut, .func (PySem.W.fnOf "cut" "Sheet.cut" (defArgs s_Sheet_cut) (defBody s_Sheet_cut) (defScope s_Sheet_cut) .none kV_Sheet_cut dc_Sheet_cut pm_Sheet_cut an_Sheet_cut cd_Sheet_cut ct_Sheet_cut), sl_Sheet_cut⟩)
    (cf_Sheet_cut : PySem.W.codeIn K cd_Sheet_cut "Sheet.cut" = true)
    (kf_Sheet_cut : PySem.W.keepIn K (.ref a_Sheet_cut) = true)
    (af__law_parts_right : PySem.W.nsIn K mainGlobals "_law_parts_right" = some (some (.ref a__law_parts_right)))
    (lf__law_parts_right : K.lookup a__law_parts_right = some ⟨oc__law_parts_right, od__law_parts_right, .func (PySem.W.fnOf "_law_parts_right" "_law_parts_right" (defArgs s__law_parts_right) (defBody s__law_parts_right) (defScope s__law_parts_right) .none kV__law_parts_right dc__law_parts_right pm__law_parts_right an__law_parts_right cd__law_parts_right ct__law_parts_right), sl__law_parts_right⟩)
    (cf__law_parts_right : PySem.W.codeIn K cd__law_parts_right "_law_parts_right" = true)
    (kf__law_parts_right : PySem.W.keepIn K (.ref a__law_parts_right) = true)
    (af__law_deed : PySem.W.nsIn K mainGlobals "_law_deed" = some (some (.ref a__law_deed)))
    (lf__law_deed : K.lookup a__law_deed = some ⟨oc__law_deed, od__law_deed, .func (PySem.W.fnOf "_law_deed" "_law_deed" (defArgs s__law_deed) (defBody s__law_deed) (defScope s__law_deed) .none kV__law_deed dc__law_deed pm__law_deed an__law_deed cd__law_deed ct__law_deed), sl__law_deed⟩)
    (cf__law_deed : PySem.W.codeIn K cd__law_deed "_law_deed" = true)
    (kf__law_deed : PySem.W.keepIn K (.ref a__law_deed) = true)
    (af__law_taken : PySem.W.nsIn K mainGlobals "_law_taken" = some (some (.ref a__law_taken)))
    (lf__law_taken : K.lookup a__law_taken = some ⟨oc__law_taken, od__law_taken, .func (PySem.W.fnOf "_law_taken" "_law_taken" (defArgs s__law_taken) (defBody s__law_taken) (defScope s__law_taken) .none kV__law_taken dc__law_taken pm__law_taken an__law_taken cd__law_taken ct__law_taken), sl__law_taken⟩)
    (cf__law_taken : PySem.W.codeIn K cd__law_taken "_law_taken" = true)
    (kf__law_taken : PySem.W.keepIn K (.ref a__law_taken) = true)
    (af__law_step : PySem.W.nsIn K mainGlobals "_law_step" = some (some (.ref a__law_step)))
    (lf__law_step : K.lookup a__law_step = some ⟨oc__law_step, od__law_step, .func (PySem.W.fnOf "_law_step" "_law_step" (defArgs s__law_step) (defBody s__law_step) (defScope s__law_step) .none kV__law_step dc__law_step pm__law_step an__law_step cd__law_step ct__law_step), sl__law_step⟩)
    (cf__law_step : PySem.W.codeIn K cd__law_step "_law_step" = true)
    (kf__law_step : PySem.W.keepIn K (.ref a__law_step) = true)
    (af__law_plan : PySem.W.nsIn K mainGlobals "_law_plan" = some (some (.ref a__law_plan)))
    (lf__law_plan : K.lookup a__law_plan = some ⟨oc__law_plan, od__law_plan, .func (PySem.W.fnOf "_law_plan" "_law_plan" (defArgs s__law_plan) (defBody s__law_plan) (defScope s__law_plan) .none kV__law_plan dc__law_plan pm__law_plan an__law_plan cd__law_plan ct__law_plan), sl__law_plan⟩)
    (cf__law_plan : PySem.W.codeIn K cd__law_plan "_law_plan" = true)
    (kf__law_plan : PySem.W.keepIn K (.ref a__law_plan) = true)
    (af_Written___eq__ : PySem.W.findIn K (.ref c_Written) "__eq__" = some (some (.ref a_Written___eq__)))
    (if_Written___eq__ : PySem.W.isFn K (.ref a_Written___eq__) = true)
    (lf_Written___eq__ : K.lookup a_Written___eq__ = some ⟨oc_Written___eq__, od_Written___eq__, .func (PySem.W.fnOf "__eq__" "Written.__eq__" (defArgs s_Written___eq__) (defBody s_Written___eq__) (defScope s_Written___eq__) .none kV_Written___eq__ dc_Written___eq__ pm_Written___eq__ an_Written___eq__ cd_Written___eq__ ct_Written___eq__), sl_Written___eq__⟩)
    (cf_Written___eq__ : PySem.W.codeIn K cd_Written___eq__ "Written.__eq__" = true)
    (kf_Written___eq__ : PySem.W.keepIn K (.ref a_Written___eq__) = true)
    (af__law_deed_in : PySem.W.nsIn K mainGlobals "_law_deed_in" = some (some (.ref a__law_deed_in)))
    (lf__law_deed_in : K.lookup a__law_deed_in = some ⟨oc__law_deed_in, od__law_deed_in, .func (PySem.W.fnOf "_law_deed_in" "_law_deed_in" (defArgs s__law_deed_in) (defBody s__law_deed_in) (defScope s__law_deed_in) .none kV__law_deed_in dc__law_deed_in pm__law_deed_in an__law_deed_in cd__law_deed_in ct__law_deed_in), sl__law_deed_in⟩)
    (cf__law_deed_in : PySem.W.codeIn K cd__law_deed_in "_law_deed_in" = true)
    (kf__law_deed_in : PySem.W.keepIn K (.ref a__law_deed_in) = true)
    (af__law_rows_order : PySem.W.nsIn K mainGlobals "_law_rows_order" = some (some (.ref a__law_rows_order)))
    (lf__law_rows_order : K.lookup a__law_rows_order = some ⟨oc__law_rows_order, od__law_rows_order, .func (PySem.W.fnOf "_law_rows_order" "_law_rows_order" (defArgs s__law_rows_order) (defBody s__law_rows_order) (defScope s__law_rows_order) .none kV__law_rows_order dc__law_rows_order pm__law_rows_order an__law_rows_order cd__law_rows_order ct__law_rows_order), sl__law_rows_order⟩)
    (cf__law_rows_order : PySem.W.codeIn K cd__law_rows_order "_law_rows_order" = true)
    (kf__law_rows_order : PySem.W.keepIn K (.ref a__law_rows_order) = true)
    (af__law_rows_right : PySem.W.nsIn K mainGlobals "_law_rows_right" = some (some (.ref a__law_rows_right)))
    (lf__law_rows_right : K.lookup a__law_rows_right = some ⟨oc__law_rows_right, od__law_rows_right, .func (PySem.W.fnOf "_law_rows_right" "_law_rows_right" (defArgs s__law_rows_right) (defBody s__law_rows_right) (defScope s__law_rows_right) .none kV__law_rows_right dc__law_rows_right pm__law_rows_right an__law_rows_right cd__law_rows_right ct__law_rows_right), sl__law_rows_right⟩)
    (cf__law_rows_right : PySem.W.codeIn K cd__law_rows_right "_law_rows_right" = true)
    (kf__law_rows_right : PySem.W.keepIn K (.ref a__law_rows_right) = true)
    (af__law_slips : PySem.W.nsIn K mainGlobals "_law_slips" = some (some (.ref a__law_slips)))
    (lf__law_slips : K.lookup a__law_slips = some ⟨oc__law_slips, od__law_slips, .func (PySem.W.fnOf "_law_slips" "_law_slips" (defArgs s__law_slips) (defBody s__law_slips) (defScope s__law_slips) .none kV__law_slips dc__law_slips pm__law_slips an__law_slips cd__law_slips ct__law_slips), sl__law_slips⟩)
    (cf__law_slips : PySem.W.codeIn K cd__law_slips "_law_slips" = true)
    (kf__law_slips : PySem.W.keepIn K (.ref a__law_slips) = true)
    (af__law_moved : PySem.W.nsIn K mainGlobals "_law_moved" = some (some (.ref a__law_moved)))
    (lf__law_moved : K.lookup a__law_moved = some ⟨oc__law_moved, od__law_moved, .func (PySem.W.fnOf "_law_moved" "_law_moved" (defArgs s__law_moved) (defBody s__law_moved) (defScope s__law_moved) .none kV__law_moved dc__law_moved pm__law_moved an__law_moved cd__law_moved ct__law_moved), sl__law_moved⟩)
    (cf__law_moved : PySem.W.codeIn K cd__law_moved "_law_moved" = true)
    (kf__law_moved : PySem.W.keepIn K (.ref a__law_moved) = true)
    (af__law_sums_right : PySem.W.nsIn K mainGlobals "_law_sums_right" = some (some (.ref a__law_sums_right)))
    (lf__law_sums_right : K.lookup a__law_sums_right = some ⟨oc__law_sums_right, od__law_sums_right, .func (PySem.W.fnOf "_law_sums_right" "_law_sums_right" (defArgs s__law_sums_right) (defBody s__law_sums_right) (defScope s__law_sums_right) .none kV__law_sums_right dc__law_sums_right pm__law_sums_right an__law_sums_right cd__law_sums_right ct__law_sums_right), sl__law_sums_right⟩)
    (cf__law_sums_right : PySem.W.codeIn K cd__law_sums_right "_law_sums_right" = true)
    (kf__law_sums_right : PySem.W.keepIn K (.ref a__law_sums_right) = true)
    (af_Sheet___setitem__ : PySem.W.findIn K (.ref c_Sheet) "__setitem__" = some (some (.ref a_Sheet___setitem__)))
    (if_Sheet___setitem__ : PySem.W.isFn K (.ref a_Sheet___setitem__) = true)
    (lf_Sheet___setitem__ : K.lookup a_Sheet___setitem__ = some ⟨oc_Sheet___setitem__, od_Sheet___setitem__, .func (PySem.W.fnOf "__setitem__" "Sheet.__setitem__" (defArgs s_Sheet___setitem__) (defBody s_Sheet___setitem__) (defScope s_Sheet___setitem__) .none kV_Sheet___setitem__ dc_Sheet___setitem__ pm_Sheet___setitem__ an_Sheet___setitem__ cd_Sheet___setitem__ ct_Sheet___setitem__), sl_Sheet___setitem__⟩)
    (cf_Sheet___setitem__ : PySem.W.codeIn K cd_Sheet___setitem__ "Sheet.__setitem__" = true)
    (kf_Sheet___setitem__ : PySem.W.keepIn K (.ref a_Sheet___setitem__) = true)
    (af_add_right : PySem.W.nsIn K mainGlobals "add_right" = some (some (.ref a_add_right)))
    (lf_add_right : K.lookup a_add_right = some ⟨oc_add_right, od_add_right, .func (PySem.W.fnOf "add_right" "add_right" (defArgs s_add_right) (defBody s_add_right) (defScope s_add_right) .none kV_add_right dc_add_right pm_add_right an_add_right cd_add_right ct_add_right), sl_add_right⟩)
    (cf_add_right : PySem.W.codeIn K cd_add_right "add_right" = true)
    (kf_add_right : PySem.W.keepIn K (.ref a_add_right) = true)
    (af__law_twins_right : PySem.W.nsIn K mainGlobals "_law_twins_right" = some (some (.ref a__law_twins_right)))
    (lf__law_twins_right : K.lookup a__law_twins_right = some ⟨oc__law_twins_right, od__law_twins_right, .func (PySem.W.fnOf "_law_twins_right" "_law_twins_right" (defArgs s__law_twins_right) (defBody s__law_twins_right) (defScope s__law_twins_right) .none kV__law_twins_right dc__law_twins_right pm__law_twins_right an__law_twins_right cd__law_twins_right ct__law_twins_right), sl__law_twins_right⟩)
    (cf__law_twins_right : PySem.W.codeIn K cd__law_twins_right "_law_twins_right" = true)
    (kf__law_twins_right : PySem.W.keepIn K (.ref a__law_twins_right) = true)
    (af_law : PySem.W.nsIn K mainGlobals "law" = some (some (.ref a_law)))
    (lf_law : K.lookup a_law = some ⟨oc_law, od_law, .func (PySem.W.fnOf "law" "law" (defArgs s_law) (defBody s_law) (defScope s_law) .none kV_law dc_law pm_law an_law cd_law ct_law), sl_law⟩)
    (cf_law : PySem.W.codeIn K cd_law "law" = true)
    (kf_law : PySem.W.keepIn K (.ref a_law) = true)
    (pg_Sheet : PySem.W.plainGet K c_Sheet Str.empty = true)
    (hd_Sheet : PySem.W.hasDictIn K c_Sheet = true)
    (po_Sheet : PySem.W.plainOver K c_Sheet = true)
    (sa_Sheet : PySem.W.findIn K (.ref c_Sheet) "__setattr__" = some (some (.builtin "object.__setattr__")))
    (mk_Sheet : PySem.W.makesIn K c_Sheet = true)
    (kc_Sheet : PySem.W.keepIn K (.ref c_Sheet) = true)
    (na_Sheet__base : PySem.W.findIn K (.ref c_Sheet) "_base" = some none)
    (na_Sheet__columns : PySem.W.findIn K (.ref c_Sheet) "_columns" = some none)
    (na_Sheet__rows : PySem.W.findIn K (.ref c_Sheet) "_rows" = some none)
    (ns_Sheet : PySem.W.noSeq K c_Sheet = true)
    (sf_Sheet : PySem.W.selfFirst K c_Sheet = true)
    (pg_Written : PySem.W.plainGet K c_Written Str.empty = true)
    (hd_Written : PySem.W.hasDictIn K c_Written = true)
    (po_Written : PySem.W.plainOver K c_Written = true)
    (sa_Written : PySem.W.findIn K (.ref c_Written) "__setattr__" = some (some (.builtin "object.__setattr__")))
    (mk_Written : PySem.W.makesIn K c_Written = true)
    (kc_Written : PySem.W.keepIn K (.ref c_Written) = true)
    (na_Written__base : PySem.W.findIn K (.ref c_Written) "_base" = some none)
    (na_Written__figures : PySem.W.findIn K (.ref c_Written) "_figures" = some none)
    (na_Written__last : PySem.W.findIn K (.ref c_Written) "_last" = some none)
    (sf_Written : PySem.W.selfFirst K c_Written = true)
    (ic1_Sheet : PySem.W.findIn K (.ref c_Sheet) "__class__" = some (some (.builtin "object.__class__")))
    (ic4_Sheet : PySem.W.mroIn K c_Sheet (.type "object") = some true)
    (icn : PySem.W.specialIn K (.builtin "object.__class__") "__get__" = some (some (.builtin "getset_descriptor.__get__")))
    (ict : PySem.W.takesIn K (.builtin "object.__class__") = some true)
    (io_Sheet : PySem.W.kitOne K (.ref c_Sheet) (.ref c_Sheet) = some true)
    (ic1_Written : PySem.W.findIn K (.ref c_Written) "__class__" = some (some (.builtin "object.__class__")))
    (ic4_Written : PySem.W.mroIn K c_Written (.type "object") = some true)
    (io_Written : PySem.W.kitOne K (.ref c_Written) (.ref c_Written) = some true)
    (nc_Sheet : PySem.W.clsIn K c_Sheet = some cd_of_Sheet)
    (nmr_Sheet : cd_of_Sheet.mro = [.ref c_Sheet, .type "object"])
    (no0_Sheet_sub : PySem.W.findIn K (.ref c_Sheet) (PySem.dunder "sub") = some none)
    (no1_Sheet_sub : PySem.W.findIn K (.ref c_Sheet) (PySem.dunderR "sub") = some none)
    (no2_Sheet_sub : PySem.W.findIn K (.type "object") (PySem.dunder "sub") = some none)
    (no3_Sheet_sub : PySem.W.findIn K (.type "object") (PySem.dunderR "sub") = some none)
    (ne_Written_Sheet : c_Written ≠ c_Sheet)
    (nf_Written_NoneType : PySem.W.notFirst K c_Written (.type "NoneType") = true)
    (nf_Written_bool : PySem.W.notFirst K c_Written (.type "bool") = true)
    (nf_Written_int : PySem.W.notFirst K c_Written (.type "int") = true)
    (nf_Written_str : PySem.W.notFirst K c_Written (.type "str") = true)
    (nf_Written_list : PySem.W.notFirst K c_Written (.type "list") = true)
    (nf_Written_tuple : PySem.W.notFirst K c_Written (.type "tuple") = true)
    (nf_Written_dict : PySem.W.notFirst K c_Written (.type "dict") = true)
    (ki_Written_NoneType : PySem.W.kitOne K (.type "NoneType") (.ref c_Written) = some false)
    (ki_Written_bool : PySem.W.kitOne K (.type "bool") (.ref c_Written) = some false)
    (ki_Written_int : PySem.W.kitOne K (.type "int") (.ref c_Written) = some false)
    (ki_Written_str : PySem.W.kitOne K (.type "str") (.ref c_Written) = some false)
    (ki_Written_list : PySem.W.kitOne K (.type "list") (.ref c_Written) = some false)
    (ki_Written_tuple : PySem.W.kitOne K (.type "tuple") (.ref c_Written) = some false)
    (ki_Written_dict : PySem.W.kitOne K (.type "dict") (.ref c_Written) = some false)
    (x_InvalidColumn : PySem.W.excIn K c_InvalidColumn [.type "ValueError", .type "Exception", .type "BaseException", .type "object"] "ValueError.__new__" = true)
    (xk_InvalidColumn : PySem.W.keepIn K (.ref c_InvalidColumn) = true)
    (xb_InvalidColumn : PySem.W.subIn K (.ref c_InvalidColumn) (.type "BaseException") = some true)
    (xt_InvalidColumn : PySem.W.typeIn K (.ref c_InvalidColumn) = some (.type "type"))
    (x_InvalidSheet : PySem.W.excIn K c_InvalidSheet [.type "ValueError", .type "Exception", .type "BaseException", .type "object"] "ValueError.__new__" = true)
    (xk_InvalidSheet : PySem.W.keepIn K (.ref c_InvalidSheet) = true)
    (xb_InvalidSheet : PySem.W.subIn K (.ref c_InvalidSheet) (.type "BaseException") = some true)
    (xt_InvalidSheet : PySem.W.typeIn K (.ref c_InvalidSheet) = some (.type "type"))
    (x_NotAlike : PySem.W.excIn K c_NotAlike [.type "ValueError", .type "Exception", .type "BaseException", .type "object"] "ValueError.__new__" = true)
    (xk_NotAlike : PySem.W.keepIn K (.ref c_NotAlike) = true)
    (xb_NotAlike : PySem.W.subIn K (.ref c_NotAlike) (.type "BaseException") = some true)
    (xt_NotAlike : PySem.W.typeIn K (.ref c_NotAlike) = some (.type "type"))
    (nb_all : PySem.W.nsIn K mainGlobals "all" = some none)
    (nb_bool : PySem.W.nsIn K mainGlobals "bool" = some none)
    (nb_enumerate : PySem.W.nsIn K mainGlobals "enumerate" = some none)
    (nb_int : PySem.W.nsIn K mainGlobals "int" = some none)
    (nb_isinstance : PySem.W.nsIn K mainGlobals "isinstance" = some none)
    (nb_len : PySem.W.nsIn K mainGlobals "len" = some none)
    (nb_list : PySem.W.nsIn K mainGlobals "list" = some none)
    (nb_min : PySem.W.nsIn K mainGlobals "min" = some none)
    (nb_range : PySem.W.nsIn K mainGlobals "range" = some none)
    (nb_str : PySem.W.nsIn K mainGlobals "str" = some none)
    (nb_sum : PySem.W.nsIn K mainGlobals "sum" = some none)
    (nb_tuple : PySem.W.nsIn K mainGlobals "tuple" = some none)
    (ak_MOST_BASE : PySem.W.nsIn K mainGlobals "MOST_BASE" = some (some (.int 12 tk_MOST_BASE)))
    (ak_MOST_ROWS : PySem.W.nsIn K mainGlobals "MOST_ROWS" = some (some (.int 4 tk_MOST_ROWS)))
    : ∃ fd : FuncData, (∀ (s : Shared) (v : Value), BindsTo s fd ⟨[v], []⟩ [("script", v)]) ∧ ∀ base : Heap, K.In base → base.Ns mainGlobals mg → FnOk P w K mg base CX0 9 fa fd ["script"] (spLaw K) := by
  have e := hfa.symm.trans (PySem.W.mg_of X G af_law)
  cases e
  exact ⟨_, fun s v => .of_eq rfl, fun base _ _ => law_fin (ok_law (txt_mk X G ac_Sheet ac_Written ac_InvalidSheet ac_InvalidColumn ac_NotAlike af_is_whole lf_is_whole cf_is_whole kf_is_whole af_is_column lf_is_column cf_is_column kf_is_column af__are_columns lf__are_columns cf__are_columns kf__are_columns af_is_base lf_is_base cf_is_base kf_is_base af_is_rows lf_is_rows cf_is_rows kf_is_rows af_Sheet___init__ if_Sheet___init__ lf_Sheet___init__ cf_Sheet___init__ kf_Sheet___init__ pf_Sheet_base pg_Sheet_base pt_Sheet_base pr_Sheet_base lf_Sheet_base cf_Sheet_base kf_Sheet_base pf_Sheet_rows pg_Sheet_rows pt_Sheet_rows pr_Sheet_rows lf_Sheet_rows cf_Sheet_rows kf_Sheet_rows af_check_alike lf_check_alike cf_check_alike kf_check_alike af_Sheet___add__ if_Sheet___add__ lf_Sheet___add__ cf_Sheet___add__ kf_Sheet___add__ af_Sheet___len__ if_Sheet___len__ lf_Sheet___len__ cf_Sheet___len__ kf_Sheet___len__ af_place_value lf_place_value cf_place_value kf_place_value pf_Sheet_value pg_Sheet_value pt_Sheet_value pr_Sheet_value lf_Sheet_value cf_Sheet_value kf_Sheet_value pf_Written_value pg_Written_value pt_Written_value pr_Written_value lf_Written_value cf_Written_value kf_Written_value af_Written___sub__ if_Written___sub__ lf_Written___sub__ cf_Written___sub__ kf_Written___sub__ pf_Written_figures pg_Written_figures pt_Written_figures pr_Written_figures lf_Written_figures cf_Written_figures kf_Written_figures af__law_power lf__law_power cf__law_power kf__law_power pf_Sheet_columns pg_Sheet_columns pt_Sheet_columns pr_Sheet_columns lf_Sheet_columns cf_Sheet_columns kf_Sheet_columns af_Written___init__ if_Written___init__ lf_Written___init__ cf_Written___init__ kf_Written___init__ af_do_sum lf_do_sum cf_do_sum kf_do_sum af_do_columns lf_do_columns cf_do_columns kf_do_columns af_sum_taken lf_sum_taken cf_sum_taken kf_sum_taken af_do_slip lf_do_slip cf_do_slip kf_do_slip af__is_plain lf__is_plain cf__is_plain kf__is_plain af_deeds_of lf_deeds_of cf_deeds_of kf_deeds_of af_is_deed lf_is_deed cf_is_deed kf_is_deed af_is_slip lf_is_slip cf_is_slip kf_is_slip af_add_with lf_add_with cf_add_with kf_add_with af__law_behind_right lf__law_behind_right cf__law_behind_right kf__law_behind_right af__law_cells lf__law_cells cf__law_cells kf__law_cells af__law_draw lf__law_draw cf__law_draw kf__law_draw af__law_column lf__law_column cf__law_column kf__law_column af__law_columns lf__law_columns cf__law_columns kf__law_columns af__law_deck lf__law_deck cf__law_deck kf__law_deck af_Sheet_cut if_Sheet_cut lf_Sheet_cut cf_Sheet_cut kf_Sheet_cut af__law_parts_right lf__law_parts_right cf__law_parts_right kf__law_parts_right af__law_deed lf__law_deed cf__law_deed kf__law_deed af__law_taken lf__law_taken cf__law_taken kf__law_taken af__law_step lf__law_step cf__law_step kf__law_step af__law_plan lf__law_plan cf__law_plan kf__law_plan af_Written___eq__ if_Written___eq__ lf_Written___eq__ cf_Written___eq__ kf_Written___eq__ af__law_deed_in lf__law_deed_in cf__law_deed_in kf__law_deed_in af__law_rows_order lf__law_rows_order cf__law_rows_order kf__law_rows_order af__law_rows_right lf__law_rows_right cf__law_rows_right kf__law_rows_right af__law_slips lf__law_slips cf__law_slips kf__law_slips af__law_moved lf__law_moved cf__law_moved kf__law_moved af__law_sums_right lf__law_sums_right cf__law_sums_right kf__law_sums_right af_Sheet___setitem__ if_Sheet___setitem__ lf_Sheet___setitem__ cf_Sheet___setitem__ kf_Sheet___setitem__ af_add_right lf_add_right cf_add_right kf_add_right af__law_twins_right lf__law_twins_right cf__law_twins_right kf__law_twins_right af_law lf_law cf_law kf_law pg_Sheet hd_Sheet po_Sheet sa_Sheet mk_Sheet kc_Sheet na_Sheet__base na_Sheet__columns na_Sheet__rows ns_Sheet sf_Sheet pg_Written hd_Written po_Written sa_Written mk_Written kc_Written na_Written__base na_Written__figures na_Written__last sf_Written ic1_Sheet ic4_Sheet icn ict io_Sheet ic1_Written ic4_Written io_Written nc_Sheet nmr_Sheet no0_Sheet_sub no1_Sheet_sub no2_Sheet_sub no3_Sheet_sub ne_Written_Sheet nf_Written_NoneType nf_Written_bool nf_Written_int nf_Written_str nf_Written_list nf_Written_tuple nf_Written_dict ki_Written_NoneType ki_Written_bool ki_Written_int ki_Written_str ki_Written_list ki_Written_tuple ki_Written_dict x_InvalidColumn xk_InvalidColumn xb_InvalidColumn xt_InvalidColumn x_InvalidSheet xk_InvalidSheet xb_InvalidSheet xt_InvalidSheet x_NotAlike xk_NotAlike xb_NotAlike xt_NotAlike nb_all nb_bool nb_enumerate nb_int nb_isinstance nb_len nb_list nb_min nb_range nb_str nb_sum nb_tuple ak_MOST_BASE ak_MOST_ROWS))⟩
theorem walk {l : PySem.W.OpenLaw} {q : Program} {loose : List Str} {XP : (Str → Option Value) → Heap → Prop} {YP : World → Heap → Prop} {d : DefRec} {K : Params → PySem.W.Frag} (hn : l.most = some 63) (hdf : d.params.defaults = [])
    (hY : ∀ (w : World) (h : Heap), YP w h → (K w.params).In h)
    (F : ∀ (w : World) (mg : Str → Option Value) (fa : Addr) (h : Heap), (K w.params).In h → h.Ns mainGlobals mg → mg d.name = some (.ref fa) →
      ∃ fd : FuncData, (∀ (s : Shared) (u : Value), BindsTo s fd ⟨[u], []⟩ [("script", u)]) ∧ ∀ base : Heap, (K w.params).In base → base.Ns mainGlobals mg → FnOk l.prog w (K w.params) mg base CX0 9 fa fd ["script"] (spLaw (K w.params))) :
    PySem.W.WalkO q loose XP YP l.row.toRowW d [] (fun f vs => PySem.call f vs) :=
  L2.walk_of (n := 63) (k := 9) (x := "script") (CX := fun _ => CX0) (sp := fun w => spLaw (K w.params)) hn (by decide) hdf ⟨rfl, by decide, by decide⟩ hY F (fun _ _ a ns hl _ hS => ⟨a, ns, rfl, hS, hl, fun _ => rfl⟩) fun _ _ _ _ _ z => z
end LW
open PySem PySem.W PyProof.Rows in
set_option maxRecDepth 100000 in
set_option maxHeartbeats 0 in
theorem PySem.Challenge.cw_sumslips_k13_whole_rows_and_columns_behi_holds : PySem.Challenge.rw_sumslips_k13_whole_rows_and_columns_behi.Holds := by
  w_on; o_law; k_head; (case hw => w_witness2)
  k_fill
  refine LW.walk (l := PySem.Challenge.rw_sumslips_k13_whole_rows_and_columns_behi) rfl rfl (fun w h Y => PySem.W.kIn_of Y) ?F
  case F =>
    intro w mg fa h KX G hmg
    refine' LW.fin KX G hmg ?ac_Sheet ?ac_Written ?ac_InvalidSheet ?ac_InvalidColumn ?ac_NotAlike ?af_is_whole ?lf_is_whole ?cf_is_whole ?kf_is_whole ?af_is_column ?lf_is_column ?cf_is_column ?kf_is_column ?af__are_columns ?lf__are_columns ?cf__are_columns ?kf__are_columns ?af_is_base ?lf_is_base ?cf_is_base ?kf_is_base ?af_is_rows ?lf_is_rows ?cf_is_rows ?kf_is_rows ?af_Sheet___init__ ?if_Sheet___init__ ?lf_Sheet___init__ ?cf_Sheet___init__ ?kf_Sheet___init__ ?pf_Sheet_base ?pg_Sheet_base ?pt_Sheet_base ?pr_Sheet_base ?lf_Sheet_base ?cf_Sheet_base ?kf_Sheet_base ?pf_Sheet_rows ?pg_Sheet_rows ?pt_Sheet_rows ?pr_Sheet_rows ?lf_Sheet_rows ?cf_Sheet_rows ?kf_Sheet_rows ?af_check_alike ?lf_check_alike ?cf_check_alike ?kf_check_alike ?af_Sheet___add__ ?if_Sheet___add__ ?lf_Sheet___add__ ?cf_Sheet___add__ ?kf_Sheet___add__ ?af_Sheet___len__ ?if_Sheet___len__ ?lf_Sheet___len__ ?cf_Sheet___len__ ?kf_Sheet___len__ ?af_place_value ?lf_place_value ?cf_place_value ?kf_place_value ?pf_Sheet_value ?pg_Sheet_value ?pt_Sheet_value ?pr_Sheet_value ?lf_Sheet_value ?cf_Sheet_value ?kf_Sheet_value ?pf_Written_value ?pg_Written_value ?pt_Written_value ?pr_Written_value ?lf_Written_value ?cf_Written_value ?kf_Written_value ?af_Written___sub__ ?if_Written___sub__ ?lf_Written___sub__ ?cf_Written___sub__ ?kf_Written___sub__ ?pf_Written_figures ?pg_Written_figures ?pt_Written_figures ?pr_Written_figures ?lf_Written_figures ?cf_Written_figures ?kf_Written_figures ?af__law_power ?lf__law_power ?cf__law_power ?kf__law_power ?pf_Sheet_columns ?pg_Sheet_columns ?pt_Sheet_columns ?pr_Sheet_columns ?lf_Sheet_columns ?cf_Sheet_columns ?kf_Sheet_columns ?af_Written___init__ ?if_Written___init__ ?lf_Written___init__ ?cf_Written___init__ ?kf_Written___init__ ?af_do_sum ?lf_do_sum ?cf_do_sum ?kf_do_sum ?af_do_columns ?lf_do_columns ?cf_do_columns ?kf_do_columns ?af_sum_taken ?lf_sum_taken ?cf_sum_taken ?kf_sum_taken ?af_do_slip ?lf_do_slip ?cf_do_slip ?kf_do_slip ?af__is_plain ?lf__is_plain ?cf__is_plain ?kf__is_plain ?af_deeds_of ?lf_deeds_of ?cf_deeds_of ?kf_deeds_of ?af_is_deed ?lf_is_deed ?cf_is_deed ?kf_is_deed ?af_is_slip ?lf_is_slip ?cf_is_slip ?kf_is_slip ?af_add_with ?lf_add_with ?cf_add_with ?kf_add_with ?af__law_behind_right ?lf__law_behind_right ?cf__law_behind_right ?kf__law_behind_right ?af__law_cells ?lf__law_cells ?cf__law_cells ?kf__law_cells ?af__law_draw ?lf__law_draw ?cf__law_draw ?kf__law_draw ?af__law_column ?lf__law_column ?cf__law_column ?kf__law_column ?af__law_columns ?lf__law_columns ?cf__law_columns ?kf__law_columns ?af__law_deck ?lf__law_deck ?cf__law_deck ?kf__law_deck ?af_Sheet_cut ?if_Sheet_cut ?lf_Sheet_cut ?cf_Sheet_cut ?kf_Sheet_cut ?af__law_parts_right ?lf__law_parts_right ?cf__law_parts_right ?kf__law_parts_right ?af__law_deed ?lf__law_deed ?cf__law_deed ?kf__law_deed ?af__law_taken ?lf__law_taken ?cf__law_taken ?kf__law_taken ?af__law_step ?lf__law_step ?cf__law_step ?kf__law_step ?af__law_plan ?lf__law_plan ?cf__law_plan ?kf__law_plan ?af_Written___eq__ ?if_Written___eq__ ?lf_Written___eq__ ?cf_Written___eq__ ?kf_Written___eq__ ?af__law_deed_in ?lf__law_deed_in ?cf__law_deed_in ?kf__law_deed_in ?af__law_rows_order ?lf__law_rows_order ?cf__law_rows_order ?kf__law_rows_order ?af__law_rows_right ?lf__law_rows_right ?cf__law_rows_right ?kf__law_rows_right ?af__law_slips ?lf__law_slips ?cf__law_slips ?kf__law_slips ?af__law_moved ?lf__law_moved ?cf__law_moved ?kf__law_moved ?af__law_sums_right ?lf__law_sums_right ?cf__law_sums_right ?kf__law_sums_right ?af_Sheet___setitem__ ?if_Sheet___setitem__ ?lf_Sheet___setitem__ ?cf_Sheet___setitem__ ?kf_Sheet___setitem__ ?af_add_right ?lf_add_right ?cf_add_right ?kf_add_right ?af__law_twins_right ?lf__law_twins_right ?cf__law_twins_right ?kf__law_twins_right ?af_law ?lf_law ?cf_law ?kf_law ?pg_Sheet ?hd_Sheet ?po_Sheet ?sa_Sheet ?mk_Sheet ?kc_Sheet ?na_Sheet__base ?na_Sheet__columns ?na_Sheet__rows ?ns_Sheet ?sf_Sheet ?pg_Written ?hd_Written ?po_Written ?sa_Written ?mk_Written ?kc_Written ?na_Written__base ?na_Written__figures ?na_Written__last ?sf_Written ?ic1_Sheet ?ic4_Sheet ?icn ?ict ?io_Sheet ?ic1_Written ?ic4_Written ?io_Written ?nc_Sheet ?nmr_Sheet ?no0_Sheet_sub ?no1_Sheet_sub ?no2_Sheet_sub ?no3_Sheet_sub ?ne_Written_Sheet ?nf_Written_NoneType ?nf_Written_bool ?nf_Written_int ?nf_Written_str ?nf_Written_list ?nf_Written_tuple ?nf_Written_dict ?ki_Written_NoneType ?ki_Written_bool ?ki_Written_int ?ki_Written_str ?ki_Written_list ?ki_Written_tuple ?ki_Written_dict ?x_InvalidColumn ?xk_InvalidColumn ?xb_InvalidColumn ?xt_InvalidColumn ?x_InvalidSheet ?xk_InvalidSheet ?xb_InvalidSheet ?xt_InvalidSheet ?x_NotAlike ?xk_NotAlike ?xb_NotAlike ?xt_NotAlike ?nb_all ?nb_bool ?nb_enumerate ?nb_int ?nb_isinstance ?nb_len ?nb_list ?nb_min ?nb_range ?nb_str ?nb_sum ?nb_tuple ?ak_MOST_BASE ?ak_MOST_ROWS
    (case ac_Sheet => first | k_is | kit_is | kts_exm | k_exc | decide | rfl)
    (case ac_Written => first | k_is | kit_is | kts_exm | k_exc | decide | rfl)
    (case ac_InvalidSheet => first | k_is | kit_is | kts_exm | k_exc | decide | rfl)
    (case ac_InvalidColumn => first | k_is | kit_is | kts_exm | k_exc | decide | rfl)
    (case ac_NotAlike => first | k_is | kit_is | kts_exm | k_exc | decide | rfl)
    (case af_is_whole => first | k_is | kit_is | kts_exm | k_exc | decide | rfl)
    (case lf_is_whole => first | k_is | kit_is | kts_exm | k_exc | decide | rfl)
    (case cf_is_whole => first | k_is | kit_is | kts_exm | k_exc | decide | rfl)
    (case kf_is_whole => first | k_is | kit_is | kts_exm | k_exc | decide | rfl)
    (case af_is_column => first | k_is | kit_is | kts_exm | k_exc | decide | rfl)
    (case lf_is_column => first | k_is | kit_is | kts_exm | k_exc | decide | rfl)
    (case cf_is_column => first | k_is | kit_is | kts_exm | k_exc | decide | rfl)
    (case kf_is_column => first | k_is | kit_is | kts_exm | k_exc | decide | rfl)
    (case af__are_columns => first | k_is | kit_is | kts_exm | k_exc | decide | rfl)
    (case lf__are_columns => first | k_is | kit_is | kts_exm | k_exc | decide | rfl)
    (case cf__are_columns => first | k_is | kit_is | kts_exm | k_exc | decide | rfl)
    (case kf__are_columns => first | k_is | kit_is | kts_exm | k_exc | decide | rfl)
    (case af_is_base => first | k_is | kit_is | kts_exm | k_exc | decide | rfl)
    (case lf_is_base => first | k_is | kit_is | kts_exm | k_exc | decide | rfl)
    (case cf_is_base => first | k_is | kit_is | kts_exm | k_exc | decide | rfl)
    (case kf_is_base => first | k_is | kit_is | kts_exm | k_exc | decide | rfl)
    (case af_is_rows => first | k_is | kit_is | kts_exm | k_exc | decide | rfl)
    (case lf_is_rows => first | k_is | kit_is | kts_exm | k_exc | decide | rfl)
    (case cf_is_rows => first | k_is | kit_is | kts_exm | k_exc | decide | rfl)
    (case kf_is_rows => first | k_is | kit_is | kts_exm | k_exc | decide | rfl)
    (case af_Sheet___init__ => first | k_is | kit_is | kts_exm | k_exc | decide | rfl)
    (case if_Sheet___init__ => first | k_is | kit_is | kts_exm | k_exc | decide | rfl)
    (case lf_Sheet___init__ => first | k_is | kit_is | kts_exm | k_exc | decide | rfl)
    (case cf_Sheet___init__ => first | k_is | kit_is | kts_exm | k_exc | decide | rfl)
    (case kf_Sheet___init__ => first | k_is | kit_is | kts_exm | k_exc | decide | rfl)
    (case pf_Sheet_base => first | k_is | kit_is | kts_exm | k_exc | decide | rfl)
    (case pg_Sheet_base => first | k_is | kit_is | kts_exm | k_exc | decide | rfl)
    (case pt_Sheet_base => first | k_is | kit_is | kts_exm | k_exc | decide | rfl)
    (case pr_Sheet_base => first | k_is | kit_is | kts_exm | k_exc | decide | rfl)
    (case lf_Sheet_base => first | k_is | kit_is | kts_exm | k_exc | decide | rfl)
    (case cf_Sheet_base => first | k_is | kit_is | kts_exm | k_exc | decide | rfl)
    (case kf_Sheet_base => first | k_is | kit_is | kts_exm | k_exc | decide | rfl)
    (case pf_Sheet_rows => first | k_is | kit_is | kts_exm | k_exc | decide | rfl)
    (case pg_Sheet_rows => first | k_is | kit_is | kts_exm | k_exc | decide | rfl)
    (case pt_Sheet_rows => first | k_is | kit_is | kts_exm | k_exc | decide | rfl)
    (case pr_Sheet_rows => first | k_is | kit_is | kts_exm | k_exc | decide | rfl)
    (case lf_Sheet_rows => first | k_is | kit_is | kts_exm | k_exc | decide | rfl)
    (case cf_Sheet_rows => first | k_is | kit_is | kts_exm | k_exc | decide | rfl)
    (case kf_Sheet_rows => first | k_is | kit_is | kts_exm | k_exc | decide | rfl)
    (case af_check_alike => first | k_is | kit_is | kts_exm | k_exc | decide | rfl)
    (case lf_check_alike => first | k_is | kit_is | kts_exm | k_exc | decide | rfl)
    (case cf_check_alike => first | k_is | kit_is | kts_exm | k_exc | decide | rfl)
    (case kf_check_alike => first | k_is | kit_is | kts_exm | k_exc | decide | rfl)
    (case af_Sheet___add__ => first | k_is | kit_is | kts_exm | k_exc | decide | rfl)
    (case if_Sheet___add__ => first | k_is | kit_is | kts_exm | k_exc | decide | rfl)
    (case lf_Sheet___add__ => first | k_is | kit_is | kts_exm | k_exc | decide | rfl)
    (case cf_Sheet___add__ => first | k_is | kit_is | kts_exm | k_exc | decide | rfl)
    (case kf_Sheet___add__ => first | k_is | kit_is | kts_exm | k_exc | decide | rfl)
    (case af_Sheet___len__ => first | k_is | kit_is | kts_exm | k_exc | decide | rfl)
    (case if_Sheet___len__ => first | k_is | kit_is | kts_exm | k_exc | decide | rfl)
    (case lf_Sheet___len__ => first | k_is | kit_is | kts_exm | k_exc | decide | rfl)
    (case cf_Sheet___len__ => first | k_is | kit_is | kts_exm | k_exc | decide | rfl)
    (case kf_Sheet___len__ => first | k_is | kit_is | kts_exm | k_exc | decide | rfl)
    (case af_place_value => first | k_is | kit_is | kts_exm | k_exc | decide | rfl)
    (case lf_place_value => first | k_is | kit_is | kts_exm | k_exc | decide | rfl)
    (case cf_place_value => first | k_is | kit_is | kts_exm | k_exc | decide | rfl)
    (case kf_place_value => first | k_is | kit_is | kts_exm | k_exc | decide | rfl)
    (case pf_Sheet_value => first | k_is | kit_is | kts_exm | k_exc | decide | rfl)
    (case pg_Sheet_value => first | k_is | kit_is | kts_exm | k_exc | decide | rfl)
    (case pt_Sheet_value => first | k_is | kit_is | kts_exm | k_exc | decide | rfl)
    (case pr_Sheet_value => first | k_is | kit_is | kts_exm | k_exc | decide | rfl)
    (case lf_Sheet_value => first | k_is | kit_is | kts_exm | k_exc | decide | rfl)
    (case cf_Sheet_value => first | k_is | kit_is | kts_exm | k_exc | decide | rfl)
    (case kf_Sheet_value => first | k_is | kit_is | kts_exm | k_exc | decide | rfl)
    (case pf_Written_value => first | k_is | kit_is | kts_exm | k_exc | decide | rfl)
    (case pg_Written_value => first | k_is | kit_is | kts_exm | k_exc | decide | rfl)
    (case pt_Written_value => first | k_is | kit_is | kts_exm | k_exc | decide | rfl)
    (case pr_Written_value => first | k_is | kit_is | kts_exm | k_exc | decide | rfl)
    (case lf_Written_value => first | k_is | kit_is | kts_exm | k_exc | decide | rfl)
    (case cf_Written_value => first | k_is | kit_is | kts_exm | k_exc | decide | rfl)
    (case kf_Written_value => first | k_is | kit_is | kts_exm | k_exc | decide | rfl)
    (case af_Written___sub__ => first | k_is | kit_is | kts_exm | k_exc | decide | rfl)
    (case if_Written___sub__ => first | k_is | kit_is | kts_exm | k_exc | decide | rfl)
    (case lf_Written___sub__ => first | k_is | kit_is | kts_exm | k_exc | decide | rfl)
    (case cf_Written___sub__ => first | k_is | kit_is | kts_exm | k_exc | decide | rfl)
    (case kf_Written___sub__ => first | k_is | kit_is | kts_exm | k_exc | decide | rfl)
    (case pf_Written_figures => first | k_is | kit_is | kts_exm | k_exc | decide | rfl)
    (case pg_Written_figures => first | k_is | kit_is | kts_exm | k_exc | decide | rfl)
    (case pt_Written_figures => first | k_is | kit_is | kts_exm | k_exc | decide | rfl)
    (case pr_Written_figures => first | k_is | kit_is | kts_exm | k_exc | decide | rfl)
    (case lf_Written_figures => first | k_is | kit_is | kts_exm | k_exc | decide | rfl)
    (case cf_Written_figures => first | k_is | kit_is | kts_exm | k_exc | decide | rfl)
    (case kf_Written_figures => first | k_is | kit_is | kts_exm | k_exc | decide | rfl)
    (case af__law_power => first | k_is | kit_is | kts_exm | k_exc | decide | rfl)
    (case lf__law_power => first | k_is | kit_is | kts_exm | k_exc | decide | rfl)
    (case cf__law_power => first | k_is | kit_is | kts_exm | k_exc | decide | rfl)
    (case kf__law_power => first | k_is | kit_is | kts_exm | k_exc | decide | rfl)
    (case pf_Sheet_columns => first | k_is | kit_is | kts_exm | k_exc | decide | rfl)
    (case pg_Sheet_columns => first | k_is | kit_is | kts_exm | k_exc | decide | rfl)
    (case pt_Sheet_columns => first | k_is | kit_is | kts_exm | k_exc | decide | rfl)
    (case pr_Sheet_columns => first | k_is | kit_is | kts_exm | k_exc | decide | rfl)
    (case lf_Sheet_columns => first | k_is | kit_is | kts_exm | k_exc | decide | rfl)
    (case cf_Sheet_columns => first | k_is | kit_is | kts_exm | k_exc | decide | rfl)
    (case kf_Sheet_columns => first | k_is | kit_is | kts_exm | k_exc | decide | rfl)
    (case af_Written___init__ => first | k_is | kit_is | kts_exm | k_exc | decide | rfl)
    (case if_Written___init__ => first | k_is | kit_is | kts_exm | k_exc | decide | rfl)
    (case lf_Written___init__ => first | k_is | kit_is | kts_exm | k_exc | decide | rfl)
    (case cf_Written___init__ => first | k_is | kit_is | kts_exm | k_exc | decide | rfl)
    (case kf_Written___init__ => first | k_is | kit_is | kts_exm | k_exc | decide | rfl)
    (case af_do_sum => first | k_is | kit_is | kts_exm | k_exc | decide | rfl)
    (case lf_do_sum => first | k_is | kit_is | kts_exm | k_exc | decide | rfl)
    (case cf_do_sum => first | k_is | kit_is | kts_exm | k_exc | decide | rfl)
    (case kf_do_sum => first | k_is | kit_is | kts_exm | k_exc | decide | rfl)
    (case af_do_columns => first | k_is | kit_is | kts_exm | k_exc | decide | rfl)
    (case lf_do_columns => first | k_is | kit_is | kts_exm | k_exc | decide | rfl)
    (case cf_do_columns => first | k_is | kit_is | kts_exm | k_exc | decide | rfl)
    (case kf_do_columns => first | k_is | kit_is | kts_exm | k_exc | decide | rfl)
    (case af_sum_taken => first | k_is | kit_is | kts_exm | k_exc | decide | rfl)
    (case lf_sum_taken => first | k_is | kit_is | kts_exm | k_exc | decide | rfl)
    (case cf_sum_taken => first | k_is | kit_is | kts_exm | k_exc | decide | rfl)
    (case kf_sum_taken => first | k_is | kit_is | kts_exm | k_exc | decide | rfl)
    (case af_do_slip => first | k_is | kit_is | kts_exm | k_exc | decide | rfl)
    (case lf_do_slip => first | k_is | kit_is | kts_exm | k_exc | decide | rfl)
    (case cf_do_slip => first | k_is | kit_is | kts_exm | k_exc | decide | rfl)
    (case kf_do_slip => first | k_is | kit_is | kts_exm | k_exc | decide | rfl)
    (case af__is_plain => first | k_is | kit_is | kts_exm | k_exc | decide | rfl)
    (case lf__is_plain => first | k_is | kit_is | kts_exm | k_exc | decide | rfl)
    (case cf__is_plain => first | k_is | kit_is | kts_exm | k_exc | decide | rfl)
    (case kf__is_plain => first | k_is | kit_is | kts_exm | k_exc | decide | rfl)
    (case af_deeds_of => first | k_is | kit_is | kts_exm | k_exc | decide | rfl)
    (case lf_deeds_of => first | k_is | kit_is | kts_exm | k_exc | decide | rfl)
    (case cf_deeds_of => first | k_is | kit_is | kts_exm | k_exc | decide | rfl)
    (case kf_deeds_of => first | k_is | kit_is | kts_exm | k_exc | decide | rfl)
    (case af_is_deed => first | k_is | kit_is | kts_exm | k_exc | decide | rfl)
    (case lf_is_deed => first | k_is | kit_is | kts_exm | k_exc | decide | rfl)
    (case cf_is_deed => first | k_is | kit_is | kts_exm | k_exc | decide | rfl)
    (case kf_is_deed => first | k_is | kit_is | kts_exm | k_exc | decide | rfl)
    (case af_is_slip => first | k_is | kit_is | kts_exm | k_exc | decide | rfl)
    (case lf_is_slip => first | k_is | kit_is | kts_exm | k_exc | decide | rfl)
    (case cf_is_slip => first | k_is | kit_is | kts_exm | k_exc | decide | rfl)
    (case kf_is_slip => first | k_is | kit_is | kts_exm | k_exc | decide | rfl)
    (case af_add_with => first | k_is | kit_is | kts_exm | k_exc | decide | rfl)
    (case lf_add_with => first | k_is | kit_is | kts_exm | k_exc | decide | rfl)
    (case cf_add_with => first | k_is | kit_is | kts_exm | k_exc | decide | rfl)
    (case kf_add_with => first | k_is | kit_is | kts_exm | k_exc | decide | rfl)
    (case af__law_behind_right => first | k_is | kit_is | kts_exm | k_exc | decide | rfl)
    (case lf__law_behind_right => first | k_is | kit_is | kts_exm | k_exc | decide | rfl)
    (case cf__law_behind_right => first | k_is | kit_is | kts_exm | k_exc | decide | rfl)
    (case kf__law_behind_right => first | k_is | kit_is | kts_exm | k_exc | decide | rfl)
    (case af__law_cells => first | k_is | kit_is | kts_exm | k_exc | decide | rfl)
    (case lf__law_cells => first | k_is | kit_is | kts_exm | k_exc | decide | rfl)
    (case cf__law_cells => first | k_is | kit_is | kts_exm | k_exc | decide | rfl)
    (case kf__law_cells => first | k_is | kit_is | kts_exm | k_exc | decide | rfl)
    (case af__law_draw => first | k_is | kit_is | kts_exm | k_exc | decide | rfl)
    (case lf__law_draw => first | k_is | kit_is | kts_exm | k_exc | decide | rfl)
    (case cf__law_draw => first | k_is | kit_is | kts_exm | k_exc | decide | rfl)
    (case kf__law_draw => first | k_is | kit_is | kts_exm | k_exc | decide | rfl)
    (case af__law_column => first | k_is | kit_is | kts_exm | k_exc | decide | rfl)
    (case lf__law_column => first | k_is | kit_is | kts_exm | k_exc | decide | rfl)
    (case cf__law_column => first | k_is | kit_is | kts_exm | k_exc | decide | rfl)
    (case kf__law_column => first | k_is | kit_is | kts_exm | k_exc | decide | rfl)
    (case af__law_columns => first | k_is | kit_is | kts_exm | k_exc | decide | rfl)
    (case lf__law_columns => first | k_is | kit_is | kts_exm | k_exc | decide | rfl)
    (case cf__law_columns => first | k_is | kit_is | kts_exm | k_exc | decide | rfl)
    (case kf__law_columns => first | k_is | kit_is | kts_exm | k_exc | decide | rfl)
    (case af__law_deck => first | k_is | kit_is | kts_exm | k_exc | decide | rfl)
    (case lf__law_deck => first | k_is | kit_is | kts_exm | k_exc | decide | rfl)
    (case cf__law_deck => first | k_is | kit_is | kts_exm | k_exc | decide | rfl)
    (case kf__law_deck => first | k_is | kit_is | kts_exm | k_exc | decide | rfl)
    (case af_Sheet_cut => first | k_is | kit_is | kts_exm | k_exc | decide | rfl)
    (case if_Sheet_cut => first | k_is | kit_is | kts_exm | k_exc | decide | rfl)
    (case lf_Sheet_cut => first | k_is | kit_is | kts_exm | k_exc | decide | rfl)
    (case cf_Sheet_cut => first | k_is | kit_is | kts_exm | k_exc | decide | rfl)
    (case kf_Sheet_cut => first | k_is | kit_is | kts_exm | k_exc | decide | rfl)
    (case af__law_parts_right => first | k_is | kit_is | kts_exm | k_exc | decide | rfl)
    (case lf__law_parts_right => first | k_is | kit_is | kts_exm | k_exc | decide | rfl)
    (case cf__law_parts_right => first | k_is | kit_is | kts_exm | k_exc | decide | rfl)
    (case kf__law_parts_right => first | k_is | kit_is | kts_exm | k_exc | decide | rfl)
    (case af__law_deed => first | k_is | kit_is | kts_exm | k_exc | decide | rfl)
    (case lf__law_deed => first | k_is | kit_is | kts_exm | k_exc | decide | rfl)
    (case cf__law_deed => first | k_is | kit_is | kts_exm | k_exc | decide | rfl)
    (case kf__law_deed => first | k_is | kit_is | kts_exm | k_exc | decide | rfl)
    (case af__law_taken => first | k_is | kit_is | kts_exm | k_exc | decide | rfl)
    (case lf__law_taken => first | k_is | kit_is | kts_exm | k_exc | decide | rfl)
    (case cf__law_taken => first | k_is | kit_is | kts_exm | k_exc | decide | rfl)
    (case kf__law_taken => first | k_is | kit_is | kts_exm | k_exc | decide | rfl)
    (case af__law_step => first | k_is | kit_is | kts_exm | k_exc | decide | rfl)
    (case lf__law_step => first | k_is | kit_is | kts_exm | k_exc | decide | rfl)
    (case cf__law_step => first | k_is | kit_is | kts_exm | k_exc | decide | rfl)
    (case kf__law_step => first | k_is | kit_is | kts_exm | k_exc | decide | rfl)
    (case af__law_plan => first | k_is | kit_is | kts_exm | k_exc | decide | rfl)
    (case lf__law_plan => first | k_is | kit_is | kts_exm | k_exc | decide | rfl)
    (case cf__law_plan => first | k_is | kit_is | kts_exm | k_exc | decide | rfl)
    (case kf__law_plan => first | k_is | kit_is | kts_exm | k_exc | decide | rfl)
    (case af_Written___eq__ => first | k_is | kit_is | kts_exm | k_exc | decide | rfl)
    (case if_Written___eq__ => first | k_is | kit_is | kts_exm | k_exc | decide | rfl)
    (case lf_Written___eq__ => first | k_is | kit_is | kts_exm | k_exc | decide | rfl)
    (case cf_Written___eq__ => first | k_is | kit_is | kts_exm | k_exc | decide | rfl)
    (case kf_Written___eq__ => first | k_is | kit_is | kts_exm | k_exc | decide | rfl)
    (case af__law_deed_in => first | k_is | kit_is | kts_exm | k_exc | decide | rfl)
    (case lf__law_deed_in => first | k_is | kit_is | kts_exm | k_exc | decide | rfl)
    (case cf__law_deed_in => first | k_is | kit_is | kts_exm | k_exc | decide | rfl)
    (case kf__law_deed_in => first | k_is | kit_is | kts_exm | k_exc | decide | rfl)
    (case af__law_rows_order => first | k_is | kit_is | kts_exm | k_exc | decide | rfl)
    (case lf__law_rows_order => first | k_is | kit_is | kts_exm | k_exc | decide | rfl)
    (case cf__law_rows_order => first | k_is | kit_is | kts_exm | k_exc | decide | rfl)
    (case kf__law_rows_order => first | k_is | kit_is | kts_exm | k_exc | decide | rfl)
    (case af__law_rows_right => first | k_is | kit_is | kts_exm | k_exc | decide | rfl)
    (case lf__law_rows_right => first | k_is | kit_is | kts_exm | k_exc | decide | rfl)
    (case cf__law_rows_right => first | k_is | kit_is | kts_exm | k_exc | decide | rfl)
    (case kf__law_rows_right => first | k_is | kit_is | kts_exm | k_exc | decide | rfl)
    (case af__law_slips => first | k_is | kit_is | kts_exm | k_exc | decide | rfl)
    (case lf__law_slips => first | k_is | kit_is | kts_exm | k_exc | decide | rfl)
    (case cf__law_slips => first | k_is | kit_is | kts_exm | k_exc | decide | rfl)
    (case kf__law_slips => first | k_is | kit_is | kts_exm | k_exc | decide | rfl)
    (case af__law_moved => first | k_is | kit_is | kts_exm | k_exc | decide | rfl)
    (case lf__law_moved => first | k_is | kit_is | kts_exm | k_exc | decide | rfl)
    (case cf__law_moved => first | k_is | kit_is | kts_exm | k_exc | decide | rfl)
    (case kf__law_moved => first | k_is | kit_is | kts_exm | k_exc | decide | rfl)
    (case af__law_sums_right => first | k_is | kit_is | kts_exm | k_exc | decide | rfl)
    (case lf__law_sums_right => first | k_is | kit_is | kts_exm | k_exc | decide | rfl)
    (case cf__law_sums_right => first | k_is | kit_is | kts_exm | k_exc | decide | rfl)
    (case kf__law_sums_right => first | k_is | kit_is | kts_exm | k_exc | decide | rfl)
    (case af_Sheet___setitem__ => first | k_is | kit_is | kts_exm | k_exc | decide | rfl)
    (case if_Sheet___setitem__ => first | k_is | kit_is | kts_exm | k_exc | decide | rfl)
    (case lf_Sheet___setitem__ => first | k_is | kit_is | kts_exm | k_exc | decide | rfl)
    (case cf_Sheet___setitem__ => first | k_is | kit_is | kts_exm | k_exc | decide | rfl)
    (case kf_Sheet___setitem__ => first | k_is | kit_is | kts_exm | k_exc | decide | rfl)
    (case af_add_right => first | k_is | kit_is | kts_exm | k_exc | decide | rfl)
    (case lf_add_right => first | k_is | kit_is | kts_exm | k_exc | decide | rfl)
    (case cf_add_right => first | k_is | kit_is | kts_exm | k_exc | decide | rfl)
    (case kf_add_right => first | k_is | kit_is | kts_exm | k_exc | decide | rfl)
    (case af__law_twins_right => first | k_is | kit_is | kts_exm | k_exc | decide | rfl)
    (case lf__law_twins_right => first | k_is | kit_is | kts_exm | k_exc | decide | rfl)
    (case cf__law_twins_right => first | k_is | kit_is | kts_exm | k_exc | decide | rfl)
    (case kf__law_twins_right => first | k_is | kit_is | kts_exm | k_exc | decide | rfl)
    (case af_law => first | k_is | kit_is | kts_exm | k_exc | decide | rfl)
    (case lf_law => first | k_is | kit_is | kts_exm | k_exc | decide | rfl)
    (case cf_law => first | k_is | kit_is | kts_exm | k_exc | decide | rfl)
    (case kf_law => first | k_is | kit_is | kts_exm | k_exc | decide | rfl)
    (case pg_Sheet => first | k_is | kit_is | kts_exm | k_exc | decide | rfl)
    (case hd_Sheet => first | k_is | kit_is | kts_exm | k_exc | decide | rfl)
    (case po_Sheet => first | k_is | kit_is | kts_exm | k_exc | decide | rfl)
    (case sa_Sheet => first | k_is | kit_is | kts_exm | k_exc | decide | rfl)
    (case mk_Sheet => first | k_is | kit_is | kts_exm | k_exc | decide | rfl)
    (case kc_Sheet => first | k_is | kit_is | kts_exm | k_exc | decide | rfl)
    (case na_Sheet__base => first | k_is | kit_is | kts_exm | k_exc | decide | rfl)
    (case na_Sheet__columns => first | k_is | kit_is | kts_exm | k_exc | decide | rfl)
    (case na_Sheet__rows => first | k_is | kit_is | kts_exm | k_exc | decide | rfl)
    (case ns_Sheet => first | k_is | kit_is | kts_exm | k_exc | decide | rfl)
    (case sf_Sheet => first | k_is | kit_is | kts_exm | k_exc | decide | rfl)
    (case pg_Written => first | k_is | kit_is | kts_exm | k_exc | decide | rfl)
    (case hd_Written => first | k_is | kit_is | kts_exm | k_exc | decide | rfl)
    (case po_Written => first | k_is | kit_is | kts_exm | k_exc | decide | rfl)
    (case sa_Written => first | k_is | kit_is | kts_exm | k_exc | decide | rfl)
    (case mk_Written => first | k_is | kit_is | kts_exm | k_exc | decide | rfl)
    (case kc_Written => first | k_is | kit_is | kts_exm | k_exc | decide | rfl)
    (case na_Written__base => first | k_is | kit_is | kts_exm | k_exc | decide | rfl)
    (case na_Written__figures => first | k_is | kit_is | kts_exm | k_exc | decide | rfl)
    (case na_Written__last => first | k_is | kit_is | kts_exm | k_exc | decide | rfl)
    (case sf_Written => first | k_is | kit_is | kts_exm | k_exc | decide | rfl)
    (case ic1_Sheet => first | k_is | kit_is | kts_exm | k_exc | decide | rfl)
    (case ic4_Sheet => first | k_is | kit_is | kts_exm | k_exc | decide | rfl)
    (case icn => first | k_is | kit_is | kts_exm | k_exc | decide | rfl)
    (case ict => first | k_is | kit_is | kts_exm | k_exc | decide | rfl)
    (case io_Sheet => first | k_is | kit_is | kts_exm | k_exc | decide | rfl)
    (case ic1_Written => first | k_is | kit_is | kts_exm | k_exc | decide | rfl)
    (case ic4_Written => first | k_is | kit_is | kts_exm | k_exc | decide | rfl)
    (case io_Written => first | k_is | kit_is | kts_exm | k_exc | decide | rfl)
    (case nc_Sheet => first | k_is | kit_is | kts_exm | k_exc | decide | rfl)
    (case nmr_Sheet => first | k_is | kit_is | kts_exm | k_exc | decide | rfl)
    (case no0_Sheet_sub => first | k_is | kit_is | kts_exm | k_exc | decide | rfl)
    (case no1_Sheet_sub => first | k_is | kit_is | kts_exm | k_exc | decide | rfl)
    (case no2_Sheet_sub => first | k_is | kit_is | kts_exm | k_exc | decide | rfl)
    (case no3_Sheet_sub => first | k_is | kit_is | kts_exm | k_exc | decide | rfl)
    (case ne_Written_Sheet => first | k_is | kit_is | kts_exm | k_exc | decide | rfl)
    (case nf_Written_NoneType => first | k_is | kit_is | kts_exm | k_exc | decide | rfl)
    (case nf_Written_bool => first | k_is | kit_is | kts_exm | k_exc | decide | rfl)
    (case nf_Written_int => first | k_is | kit_is | kts_exm | k_exc | decide | rfl)
    (case nf_Written_str => first | k_is | kit_is | kts_exm | k_exc | decide | rfl)
    (case nf_Written_list => first | k_is | kit_is | kts_exm | k_exc | decide | rfl)
    (case nf_Written_tuple => first | k_is | kit_is | kts_exm | k_exc | decide | rfl)
    (case nf_Written_dict => first | k_is | kit_is | kts_exm | k_exc | decide | rfl)
    (case ki_Written_NoneType => first | k_is | kit_is | kts_exm | k_exc | decide | rfl)
    (case ki_Written_bool => first | k_is | kit_is | kts_exm | k_exc | decide | rfl)
    (case ki_Written_int => first | k_is | kit_is | kts_exm | k_exc | decide | rfl)
    (case ki_Written_str => first | k_is | kit_is | kts_exm | k_exc | decide | rfl)
    (case ki_Written_list => first | k_is | kit_is | kts_exm | k_exc | decide | rfl)
    (case ki_Written_tuple => first | k_is | kit_is | kts_exm | k_exc | decide | rfl)
    (case ki_Written_dict => first | k_is | kit_is | kts_exm | k_exc | decide | rfl)
    (case x_InvalidColumn => first | k_is | kit_is | kts_exm | k_exc | decide | rfl)
    (case xk_InvalidColumn => first | k_is | kit_is | kts_exm | k_exc | decide | rfl)
    (case xb_InvalidColumn => first | k_is | kit_is | kts_exm | k_exc | decide | rfl)
    (case xt_InvalidColumn => first | k_is | kit_is | kts_exm | k_exc | decide | rfl)
    (case x_InvalidSheet => first | k_is | kit_is | kts_exm | k_exc | decide | rfl)
    (case xk_InvalidSheet => first | k_is | kit_is | kts_exm | k_exc | decide | rfl)
    (case xb_InvalidSheet => first | k_is | kit_is | kts_exm | k_exc | decide | rfl)
    (case xt_InvalidSheet => first | k_is | kit_is | kts_exm | k_exc | decide | rfl)
    (case x_NotAlike => first | k_is | kit_is | kts_exm | k_exc | decide | rfl)
    (case xk_NotAlike => first | k_is | kit_is | kts_exm | k_exc | decide | rfl)
    (case xb_NotAlike => first | k_is | kit_is | kts_exm | k_exc | decide | rfl)
    (case xt_NotAlike => first | k_is | kit_is | kts_exm | k_exc | decide | rfl)
    (case nb_all => first | k_is | kit_is | kts_exm | k_exc | decide | rfl)
    (case nb_bool => first | k_is | kit_is | kts_exm | k_exc | decide | rfl)
    (case nb_enumerate => first | k_is | kit_is | kts_exm | k_exc | decide | rfl)
    (case nb_int => first | k_is | kit_is | kts_exm | k_exc | decide | rfl)
    (case nb_isinstance => first | k_is | kit_is | kts_exm | k_exc | decide | rfl)
    (case nb_len => first | k_is | kit_is | kts_exm | k_exc | decide | rfl)
    (case nb_list => first | k_is | kit_is | kts_exm | k_exc | decide | rfl)
    (case nb_min => first | k_is | kit_is | kts_exm | k_exc | decide | rfl)
    (case nb_range => first | k_is | kit_is | kts_exm | k_exc | decide | rfl)
    (case nb_str => first | k_is | kit_is | kts_exm | k_exc | decide | rfl)
    (case nb_sum => first | k_is | kit_is | kts_exm | k_exc | decide | rfl)
    (case nb_tuple => first | k_is | kit_is | kts_exm | k_exc | decide | rfl)
    (case ak_MOST_BASE => first | k_is | kit_is | kts_exm | k_exc | decide | rfl)
    (case ak_MOST_ROWS => first | k_is | kit_is | kts_exm | k_exc | decide | rfl)
